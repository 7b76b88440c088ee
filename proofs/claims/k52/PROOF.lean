import PyProof.Rows.All
import Wide.All
import OpenK.AllK
import Wide.FinOn
import HandS.ForMost
import HandS.Wide
import HandS.IsInst
import HandS.Zip
import HandS.Style
import HandS.Gcd
import HandS.FStr
import HandS.Evl
import KE.GoesEnum
import HandS.SlotsOwn
import HandS.Property
import KE.KOpsOwn
import HandS.WideBits
import KE.KMathGC
import HandS.TupLe
import KE.KFmtOwn
import PyProof.FactsAll.object_2
import HandS.TupAny
import HandS.ClsMeth
import HandS.OwnIter
import HandS.IterVal
import HandS.Text
import HandS.TupMul
import HandS.RaiseMore
import KE.KCallOwn
import PyProof.FactsLen
import HandS.Deep
import HandS.TupSets
import HandS.Sort
import PySem.Float64
import PySem.Challenge.RW_sourceforms_k52_whole_layings_over_prime
set_option Elab.async false
set_option linter.all false
set_option maxRecDepth 100000
set_option maxHeartbeats 4000000
/-! rules by values whose readings are settled by what the heap holds -/
namespace Pr
open PySem PySem.Spec PyProof.Rows L2
/-! ### weaker readings -/
section
variable {X : Cx}
theorem opImp {f : Value → Value → Sem Value} {r r' : R2} (h : OpR X f r) (i : ∀ x y H Q, r' x y H Q → r x y H Q) : OpR X f r' :=
  fun pins s σ H x y v u Q I rx ry q => h pins s σ H x y v u Q I rx ry (i _ _ _ _ q)
theorem callImp {f : Value} {r r' : List V → Hp → VK → Prop} (h : CallR X f r) (i : ∀ vs H Q, r' vs H Q → r vs H Q) : CallR X f r' :=
  fun pins s σ H xs us Q I rx q => h pins s σ H xs us Q I rx (i _ _ _ q)
theorem ixImp {r r' : R2} (h : IxR X r) (i : ∀ x y H Q, r' x y H Q → r x y H Q) : IxR X r' :=
  fun va sl pins s σ H x y v u Q I rx ry q e => h va sl pins s σ H x y v u Q I rx ry (i _ _ _ _ q) e
theorem setImp {r r' : TSet} (h : PSet X r) (i : ∀ o j v H Q, r' o j v H Q → r o j v H Q) : PSet X r' :=
  fun pins s σ H o j v ov iv u Q I ro ri rv q => h pins s σ H o j v ov iv u Q I ro ri rv (i _ _ _ _ _ q)
end
/-! ### lists and tuples of ints -/
abbrev LI (ns : List Int) : HO := .lst (ns.map V.int)
abbrev TI (ns : List Int) : HO := .tup (ns.map V.int)
theorem map_int_inj {xs ys : List Int} : xs.map V.int = ys.map V.int ↔ xs = ys := by
  constructor
  · intro h
    exact (List.map_inj_right (fun a b e => V.int.inj e)).mp h
  · rintro rfl
    rfl
theorem map_nil_iff {xs : List Int} : ([] : List V) = xs.map V.int ↔ xs = [] := by
  cases xs <;> simp
/-- the item at an int's place -/
def gi (ns : List Int) (i : Int) : Int := ns.getD i.toNat 0
theorem gi_nat (ns : List Int) (i : Nat) : gi ns (i : Int) = ns.getD i 0 := by
  unfold gi
  rw [Int.toNat_natCast]
theorem at_gi {ns : List Int} {i : Int} (h0 : 0 ≤ i) (h1 : i < ns.length) : atI (ns.map V.int) i = some (.int (gi ns i)) := by
  obtain ⟨n, rfl⟩ := Int.eq_ofNat_of_zero_le h0
  have hn : n < ns.length := by omega
  rw [gi_nat]
  refine atI_nat (j := n) ?_
  rw [List.getElem?_map, List.getElem?_eq_getElem hn, List.getD_eq_getElem?_getD, List.getElem?_eq_getElem hn]
  rfl
section
variable {X : Cx}
/-- xs[i], xs a list of ints, the place from the left -/
def rIxLI : R2 := fun x y H Q => ∃ p i, x = .ref p ∧ y = .int i ∧ ∃ ns, H p = some (LI ns) ∧ 0 ≤ i ∧ i < (ns.length : Int) ∧ Q (.int (gi ns i)) H
theorem ix_LI : IxR X rIxLI := ixImp ix_list fun x y H Q ⟨p, i, ex, ey, ns, hp, h0, h1, q⟩ =>
  ⟨p, _, i, _, ex, ey, .inl (.inl hp), at_gi h0 h1, q⟩
def rIxTI : R2 := fun x y H Q => ∃ p i, x = .ref p ∧ y = .int i ∧ ∃ ns, H p = some (TI ns) ∧ 0 ≤ i ∧ i < (ns.length : Int) ∧ Q (.int (gi ns i)) H
theorem ix_TI : IxR X rIxTI := ixImp ix_tup fun x y H Q ⟨p, i, ex, ey, ns, hp, h0, h1, q⟩ =>
  ⟨p, _, i, _, ex, ey, .inl (.inl hp), at_gi h0 h1, q⟩
/-- xs[i], xs a list or tuple of any things -/
def rIxLV : R2 := fun x y H Q => ∃ p i, x = .ref p ∧ y = .int i ∧ ∃ xs, H p = some (.lst xs) ∧ ∃ v, atI xs i = some v ∧ Q v H
def rIxTV : R2 := fun x y H Q => ∃ p i, x = .ref p ∧ y = .int i ∧ ∃ xs, H p = some (.tup xs) ∧ ∃ v, atI xs i = some v ∧ Q v H
theorem ix_TV : IxR X rIxTV := ixImp ix_tup fun x y H Q ⟨p, i, ex, ey, xs, hp, v, hv, q⟩ => ⟨p, xs, i, v, ex, ey, .inl (.inl hp), hv, q⟩
def rLen : List V → Hp → VK → Prop := fun vs H Q => ∃ p, vs = [.ref p] ∧ ∃ xs, (H p = some (.lst xs) ∨ H p = some (.tup xs)) ∧ Q (.int (xs.length : Nat)) H
theorem cr_len : CallR X (.builtin "len") rLen := callImp call_len_seq fun vs H Q ⟨p, e, xs, h, q⟩ =>
  ⟨p, xs, e, h.elim (fun h => .inl (.inl (.inl h))) (fun h => .inr (.inl (.inl h))), q⟩
theorem ixN_of {n : Nat} {i : Int} (h0 : 0 ≤ i) (h1 : i < n) : ixN n i = some i.toNat := by
  unfold ixN
  rw [if_pos h0, if_pos h1]
def rSetLI : TSet := fun o j v H Q => ∃ p i n, o = .ref p ∧ j = .int i ∧ v = .int n ∧ ∃ ns, H p = some (LI ns) ∧ 0 ≤ i ∧ i < (ns.length : Int) ∧ Q (upd H p (LI (ns.set i.toNat n)))
theorem set_LI : PSet X rSetLI := setImp set_list fun o j v H Q ⟨p, i, n, eo, ej, ev, ns, hp, h0, h1, q⟩ => by
  subst ev
  refine ⟨p, _, i, i.toNat, eo, ej, hp, ?_, ?_⟩
  · rw [List.length_map]
    exact ixN_of h0 h1
  · rw [← List.map_set]
    exact q
def rSetLV : TSet := fun o j v H Q => ∃ p i, o = .ref p ∧ j = .int i ∧ ∃ xs, H p = some (.lst xs) ∧ 0 ≤ i ∧ i < (xs.length : Int) ∧ Q (upd H p (.lst (xs.set i.toNat v)))
theorem sz {n : Nat} (h : n < 1000000) : n < sizeLine := Nat.lt_of_lt_of_le h (by decide)
def rAppI : V → List V → Hp → VK → Prop := fun x vs H Q => ∃ l n, x = .ref l ∧ vs = [.int n] ∧ ∃ ns, H l = some (LI ns) ∧ ns.length < 1000000 ∧ Q .non (upd H l (LI (ns ++ [n])))
def rAppV : V → List V → Hp → VK → Prop := fun x vs H Q => ∃ l v, x = .ref l ∧ vs = [v] ∧ ∃ xs, H l = some (.lst xs) ∧ xs.length < 1000000 ∧ Q .non (upd H l (.lst (xs ++ [v])))
def rTupL : List V → Hp → VK → Prop := fun vs H Q => ∃ p, vs = [.ref p] ∧ ∃ xs, H p = some (.lst xs) ∧ ∀ l, H l = none → Q (.ref l) (upd H l (.tup xs))
theorem cr_tupL : CallR X (.type "tuple") rTupL := callImp call_tuple_of fun vs H Q ⟨p, e, xs, h, q⟩ => ⟨p, xs, e, .inl ⟨.inl (.inl h), q⟩⟩
def rListS : List V → Hp → VK → Prop := fun vs H Q => ∃ p, vs = [.ref p] ∧ ∃ xs, (H p = some (.lst xs) ∨ H p = some (.tup xs)) ∧ ∀ l, H l = none → Q (.ref l) (upd H l (.lst xs))
def rSumLI : List V → Hp → VK → Prop := fun vs H Q => ∃ p, vs = [.ref p] ∧ ∃ ns, H p = some (LI ns) ∧ Q (.int ns.sum) H
/-- xs * k of a new list -/
def rRepLI : R2 := fun x y H Q => ∃ l k, x = .ref l ∧ y = .int k ∧ ∃ n, H l = some (LI [n]) ∧ k < 1000000 ∧ -1000000 < k ∧ ∀ p, H p = none → Q (.ref p) (upd H p (LI (List.replicate k.toNat n)))
theorem flat_rep (k : Nat) (n : Int) : (List.replicate k [V.int n]).flatten = (List.replicate k n).map V.int := by
  induction k with
  | zero => rfl
  | succ k ih =>
    rw [List.replicate_succ, List.flatten_cons, ih, List.replicate_succ]
    rfl
/-- int(n) -/
def rIntI : List V → Hp → VK → Prop := fun vs H Q => ∃ i, vs = [.int i] ∧ Q (.int i) H
theorem cr_intI : CallR X (.type "int") rIntI := callImp call_int1 fun vs H Q ⟨i, e, q⟩ => .inl ⟨i, e, q⟩
def rIntB : List V → Hp → VK → Prop := fun vs H Q => ∃ k, vs = [.bl k] ∧ Q (.int (if k then 1 else 0)) H
theorem cr_intB : CallR X (.type "int") rIntB := callImp call_int1 fun vs H Q ⟨i, e, q⟩ => .inr ⟨i, e, q⟩
/-- isinstance(x, T) by what x is, T a builtin class -/
def tyOf : V → Hp → Option String
  | .non, _ => some "NoneType"
  | .bl _, _ => some "bool"
  | .int _, _ => some "int"
  | .str _, _ => some "str"
  | .ref a, H => match H a with
    | some (.lst _) => some "list"
    | some (.tup _) => some "tuple"
    | some (.dK _) => some "dict"
    | some (.dT _) => some "dict"
    | _ => none
  | _, _ => none
end
end Pr
namespace Pr
open PySem PySem.Spec PyProof.Rows L2
/-! ### == of lists and tuples of ints -/
theorem dpAll_ints (K : PySem.W.Frag) (H : Hp) : ∀ ns : List Int, DpAll K H (ns.map V.int) (ns.map PyData.int)
  | [] => .nil
  | n :: ns => .cons (.int n) (dpAll_ints K H ns)
theorem eqvAll_ints : ∀ ns ms : List Int, PyData.eqvAll (ns.map .int) (ms.map .int) = decide (ns = ms)
  | [], [] => rfl
  | [], m :: ms => by simp [PyData.eqvAll]
  | n :: ns, [] => by simp [PyData.eqvAll]
  | n :: ns, m :: ms => by
    show (PyData.eqv (.int n) (.int m) && PyData.eqvAll (ns.map .int) (ms.map .int)) = decide (n :: ns = m :: ms)
    rw [eqvAll_ints ns ms]
    simp [PyData.eqv, ]
    by_cases h : n = m <;> simp [h]
theorem lay_ints : ∀ ns : List Int, PyData.canLayAll0 (ns.map .int) = true
  | [] => rfl
  | n :: ns => by
    show (PyData.canLay0 (.int n) && PyData.canLayAll0 (ns.map .int)) = true
    rw [lay_ints ns]
    rfl
theorem depth_ints : ∀ ns : List Int, PyData.depthAll (ns.map .int) = 0
  | [] => rfl
  | n :: ns => by
    show max (PyData.depth (.int n)) (PyData.depthAll (ns.map .int)) = 0
    rw [depth_ints ns]
    rfl
theorem shaped_TI (ns : List Int) : SeqAt.shaped (.tuple (ns.map .int)) = true := by
  unfold SeqAt.shaped
  simp [PyData.canLay0, PyData.depth, lay_ints, depth_ints]
section
variable {X : Cx}
def rEqTI : R2 := fun x y H Q => ∃ p q, x = .ref p ∧ y = .ref q ∧ ∃ ns, H p = some (TI ns) ∧ ∃ ms, H q = some (TI ms) ∧ Q (.bl (decide (ns = ms))) H
theorem op_eqTI (hu : X.A.units + 64 < cLine) : OpR X (compareOp .Eq) rEqTI := opImp (op_eqD hu) fun x y H Q ⟨p, q, ex, ey, ns, hp, ms, hq, k⟩ => by
  subst ex ey
  refine ⟨_, _, .tup (.inl (.inl hp)) (dpAll_ints _ _ ns), .tup (.inl (.inl hq)) (dpAll_ints _ _ ms), shaped_TI ns, shaped_TI ms, ?_⟩
  show Q (.bl (PyData.eqvAll (ns.map .int) (ms.map .int))) H
  rw [eqvAll_ints]
  exact k
def rNeTI : R2 := fun x y H Q => ∃ p q, x = .ref p ∧ y = .ref q ∧ ∃ ns, H p = some (TI ns) ∧ ∃ ms, H q = some (TI ms) ∧ Q (.bl (!decide (ns = ms))) H
theorem op_neTI (hu : X.A.units + 64 < cLine) : OpR X (compareOp .NotEq) rNeTI := opImp (op_neD hu) fun x y H Q ⟨p, q, ex, ey, ns, hp, ms, hq, k⟩ => by
  subst ex ey
  refine ⟨_, _, .tup (.inl (.inl hp)) (dpAll_ints _ _ ns), .tup (.inl (.inl hq)) (dpAll_ints _ _ ms), shaped_TI ns, shaped_TI ms, ?_⟩
  show Q (.bl (!PyData.eqvAll (ns.map .int) (ms.map .int))) H
  rw [eqvAll_ints]
  exact k
def rEqLI : R2 := fun x y H Q => ∃ p q, x = .ref p ∧ y = .ref q ∧ ∃ ns, H p = some (LI ns) ∧ ∃ ms, H q = some (LI ms) ∧ Q (.bl (decide (ns = ms))) H
def rNeLI : R2 := fun x y H Q => ∃ p q, x = .ref p ∧ y = .ref q ∧ ∃ ns, H p = some (LI ns) ∧ ∃ ms, H q = some (LI ms) ∧ Q (.bl (!decide (ns = ms))) H
/-- isinstance of what is no object -/
def rIsiS : List V → Hp → VK → Prop := fun vs H Q => ∃ x T, vs = [x, .ty T] ∧ ∃ t, tyOf x H = some t ∧ ∃ b, kitB t T = some b ∧ Q (.bl b) H
theorem cr_isiS : CallR X (.builtin "isinstance") rIsiS := callImp call_isi fun vs H Q ⟨x, T, e, t, ht, b, hb, q⟩ => by
  refine ⟨x, .ty T, .type t, .type T, b, e, ?_, ?_, kit_ty hb, q⟩
  · exact .ty T
  · unfold tyOf at ht
    split at ht
    · cases ht; exact .base .non
    · cases ht; exact .base (.bl _)
    · cases ht; exact .base (.int _)
    · cases ht; exact .base (.str _)
    · split at ht <;> cases ht
      · exact .base (.lst ‹_›)
      · exact .base (.tup ‹_›)
      · exact .base (.dK ‹_›)
      · exact .base (.dT ‹_›)
    · cases ht
end
/-! ### sum of a tuple of ints -/
section
variable {X : Cx}
def rSumTI : List V → Hp → VK → Prop := fun vs H Q => ∃ p, vs = [.ref p] ∧ ∃ ns, H p = some (TI ns) ∧ Q (.int ns.sum) H
end
/-! ### t[::-1] of a tuple -/
section
variable {X : Cx}
def tRevT (te : TE) : TE := fun σ H Q => te σ H fun x H1 => ∃ a, x = .ref a ∧ ∃ xs, H1 a = some (.tup xs) ∧ ∀ p, H1 p = none → Q (.ref p) (upd H1 p (.tup xs.reverse))
end
end Pr
namespace Pr
open PySem PySem.Spec PyProof.Rows L2
/-! ### readings, applied -/
section
variable {K : PySem.W.Frag} {σ : L2.St} {H : Hp} {Q : VK} {ta tb tc te : TE} {t u : TT} {D : Ends} {tu tw : TS} {g : TG} {x y v : V} {i j : Nat} {QT : Bool → Hp → Prop} {QA : List V → Hp → Prop}
theorem ap_seq : tSeq tu tw D σ H = tu { D with nx := tw D } σ H := rfl
theorem ap_next : tNext D σ H = D.nx σ H := rfl
theorem ap_asg : tAsg te g D σ H = te σ H fun x H1 => g x σ H1 D.nx := rfl
theorem ap_gName {QN : L2.St → Hp → Prop} : gName i v σ H QN = QN (σ.set i (some v)) H := rfl
theorem ap_ret : tRet te D σ H = te σ H D.rt := rfl
theorem ap_retN : tRetN D σ H = D.rt .non H := rfl
theorem ap_drop : tDrop te D σ H = te σ H fun _ H1 => D.nx σ H1 := rfl
theorem ap_ifS : tIfS t tu tw D σ H = t σ H fun b H1 => if b = true then tu D σ H1 else tw D σ H1 := rfl
theorem ap_break : tBreak D σ H = D.bk σ H := rfl
theorem ap_cont : tCont D σ H = D.ct σ H := rfl
theorem ap_par {ta : TA} : tPar i j ta D σ H = ta σ H fun vs H1 => ∃ v w, vs = [v, w] ∧ D.nx ((σ.set i (some v)).set j (some w)) H1 := rfl
theorem ap_aug {ti : TIp} : tAug i te ti D σ H = ∃ x, σ[i]? = some (some x) ∧ te σ H fun y H1 => ti x y H1 fun z H2 => D.nx (σ.set i (some z)) H2 := rfl
theorem ap_ip {f : Int → Int → Int} : ipI f x y H Q = ∃ i j, x = .int i ∧ y = .int j ∧ Q (.int (f i j)) H := rfl
theorem ap_gSub {to ti : TE} {ts : TSet} {QN : L2.St → Hp → Prop} : gSub to ti ts v σ H QN = to σ H fun o H1 => ti σ H1 fun i H2 => ts o i v H2 fun H3 => QN σ H3 := rfl
theorem ap_gTup {n : Nat} {ts : TGs} {QN : L2.St → Hp → Prop} : gTup K n ts v σ H QN = ∃ a xs, v = .ref a ∧ SqT K H a xs ∧ xs.length = n ∧ ts xs σ H QN := rfl
theorem ap_gNil {vs : List V} {QN : L2.St → Hp → Prop} : gNil vs σ H QN = (vs = [] ∧ QN σ H) := rfl
theorem ap_gCons {t : TG} {u : TGs} {vs : List V} {QN : L2.St → Hp → Prop} : gCons t u vs σ H QN = ∃ v r, vs = v :: r ∧ t v σ H fun σ' H' => u r σ' H' QN := rfl
theorem ap_var : tVar i σ H Q = ∃ v, σ[i]? = some (some v) ∧ Q v H := rfl
theorem ap_c : tC v σ H Q = Q v H := rfl
theorem ap_op {r : R2} : tOp r ta tb σ H Q = ta σ H fun x H1 => tb σ H1 fun y H2 => r x y H2 Q := rfl
theorem ap_un {r : V → Hp → VK → Prop} : tUn r ta σ H Q = ta σ H fun x H1 => r x H1 Q := rfl
theorem ap_if : tIf t ta tb σ H Q = t σ H fun c H1 => if c = true then ta σ H1 Q else tb σ H1 Q := rfl
theorem ap_test : tTest te σ H QT = te σ H fun x H' => ∃ k, x = .bl k ∧ QT k H' := rfl
theorem ap_B : tB te σ H QT = te σ H fun x H' => ∃ k, x = .bl k ∧ QT k H' := rfl
theorem ap_and : tAnd t u σ H QT = t σ H fun c H1 => if c = true then u σ H1 QT else QT false H1 := rfl
theorem ap_or : tOr t u σ H QT = t σ H fun c H1 => if c = true then QT true H1 else u σ H1 QT := rfl
theorem ap_not : tNot t σ H QT = t σ H fun c H1 => QT (!c) H1 := rfl
theorem ap_andV : tAndV ta tb σ H Q = ta σ H fun x H1 => ∃ c, x = .bl c ∧ if c = true then tb σ H1 Q else Q (.bl false) H1 := rfl
theorem ap_orV : tOrV ta tb σ H Q = ta σ H fun x H1 => ∃ c, x = .bl c ∧ if c = true then Q (.bl true) H1 else tb σ H1 Q := rfl
theorem ap_notV : tNotV ta σ H Q = ta σ H fun x H1 => ∃ c, x = .bl c ∧ Q (.bl (!c)) H1 := rfl
theorem ap_nil : tNil σ H QA = QA [] H := rfl
theorem ap_cons {tr : TA} : tCons ta tr σ H QA = ta σ H fun x H1 => tr σ H1 fun xs H2 => QA (x :: xs) H2 := rfl
theorem ap_tup {ta : TA} : tTup ta σ H Q = ta σ H fun xs H1 => xs.length ≤ sizeLine ∧ ∀ p, H1 p = none → Q (.ref p) (upd H1 p (.tup xs)) := rfl
theorem ap_lst {ta : TA} : tLst ta σ H Q = ta σ H fun xs H1 => xs.length ≤ sizeLine ∧ ∀ p, H1 p = none → Q (.ref p) (upd H1 p (.lst xs)) := rfl
theorem ap_cb {r : List V → Hp → VK → Prop} {ta : TA} : tCB r ta σ H Q = ta σ H fun vs H1 => r vs H1 Q := rfl
theorem ap_bm {T : String} {r : V → List V → Hp → VK → Prop} {ta : TA} : tBM K T r te ta σ H Q = te σ H fun x H1 => tyV K T x H1 ∧ ta σ H1 fun xs H2 => r x xs H2 Q := rfl
theorem ap_call {sp : Sp} {dvs : List V} {E : XK} {ta : TA} : tCall sp dvs E ta σ H Q = ta σ H fun vs H1 => sp (vs ++ dvs) H1 Q E := rfl
theorem ap_chain {r r' : R2} : tChain r r' ta tb tc σ H Q = ta σ H fun x H1 => tb σ H1 fun y H2 => r x y H2 fun z H3 => ∃ k, z = .bl k ∧ (if k = true then tc σ H3 fun w H4 => r' y w H4 Q else Q (.bl false) H3) := by
  unfold tChain
  apply propext
  rfl
theorem ap_rI {C : Int → Int → Prop} {f : Int → Int → V} : rI C f x y H Q = ∃ i j, x = .int i ∧ y = .int j ∧ C i j ∧ Q (f i j) H := rfl
theorem ap_rI0 {f : Int → Int → V} : rI0 f x y H Q = ∃ i j, x = .int i ∧ y = .int j ∧ Q (f i j) H := rfl
theorem ap_rU {f : Int → V} : rU f x H Q = ∃ i, x = .int i ∧ Q (f i) H := rfl
theorem ap_rEq : rEq x y H Q = (scal x y = true ∧ Q (.bl (decide (x = y))) H) := rfl
theorem ap_rNe : rNe x y H Q = (scal x y = true ∧ Q (.bl (!decide (x = y))) H) := rfl
theorem ap_revT : tRevT te σ H Q = te σ H fun x H1 => ∃ a, x = .ref a ∧ ∃ xs, H1 a = some (.tup xs) ∧ ∀ p, H1 p = none → Q (.ref p) (upd H1 p (.tup xs.reverse)) := rfl
theorem ap_sl {r : V → Option Int → Option Int → Hp → VK → Prop} {tl th : TO} : tSl r te tl th σ H Q = te σ H fun x H1 => tl σ H1 fun l H2 => th σ H2 fun u H3 => r x l u H3 Q := rfl
theorem ap_part {QO : Option Int → Hp → Prop} : tPart te σ H QO = te σ H fun x H1 => ∃ i, x = .int i ∧ QO (some i) H1 := rfl
theorem ap_noPart {QO : Option Int → Hp → Prop} : tNoPart σ H QO = QO none H := rfl
theorem ap_ixLI : rIxLI x y H Q = ∃ p i, x = .ref p ∧ y = .int i ∧ ∃ ns, H p = some (LI ns) ∧ 0 ≤ i ∧ i < (ns.length : Int) ∧ Q (.int (gi ns i)) H := rfl
theorem ap_ixTI : rIxTI x y H Q = ∃ p i, x = .ref p ∧ y = .int i ∧ ∃ ns, H p = some (TI ns) ∧ 0 ≤ i ∧ i < (ns.length : Int) ∧ Q (.int (gi ns i)) H := rfl
theorem ap_ixLV : rIxLV x y H Q = ∃ p i, x = .ref p ∧ y = .int i ∧ ∃ xs, H p = some (.lst xs) ∧ ∃ v, atI xs i = some v ∧ Q v H := rfl
theorem ap_ixTV : rIxTV x y H Q = ∃ p i, x = .ref p ∧ y = .int i ∧ ∃ xs, H p = some (.tup xs) ∧ ∃ v, atI xs i = some v ∧ Q v H := rfl
theorem ap_ixL : rIxL K x y H Q = ∃ p xs i v, x = .ref p ∧ y = .int i ∧ SqL K H p xs ∧ atI xs i = some v ∧ Q v H := rfl
theorem ap_len {vs : List V} : rLen vs H Q = ∃ p, vs = [.ref p] ∧ ∃ xs, (H p = some (.lst xs) ∨ H p = some (.tup xs)) ∧ Q (.int (xs.length : Nat)) H := rfl
theorem ap_setLI {o : V} {QH : Hp → Prop} : rSetLI o x v H QH = ∃ p i n, o = .ref p ∧ x = .int i ∧ v = .int n ∧ ∃ ns, H p = some (LI ns) ∧ 0 ≤ i ∧ i < (ns.length : Int) ∧ QH (upd H p (LI (ns.set i.toNat n))) := rfl
theorem ap_setLV {o : V} {QH : Hp → Prop} : rSetLV o x v H QH = ∃ p i, o = .ref p ∧ x = .int i ∧ ∃ xs, H p = some (.lst xs) ∧ 0 ≤ i ∧ i < (xs.length : Int) ∧ QH (upd H p (.lst (xs.set i.toNat v))) := rfl
theorem ap_appI {vs : List V} : rAppI x vs H Q = ∃ l n, x = .ref l ∧ vs = [.int n] ∧ ∃ ns, H l = some (LI ns) ∧ ns.length < 1000000 ∧ Q .non (upd H l (LI (ns ++ [n]))) := rfl
theorem ap_appV {vs : List V} : rAppV x vs H Q = ∃ l v, x = .ref l ∧ vs = [v] ∧ ∃ xs, H l = some (.lst xs) ∧ xs.length < 1000000 ∧ Q .non (upd H l (.lst (xs ++ [v]))) := rfl
theorem ap_tupL {vs : List V} : rTupL vs H Q = ∃ p, vs = [.ref p] ∧ ∃ xs, H p = some (.lst xs) ∧ ∀ l, H l = none → Q (.ref l) (upd H l (.tup xs)) := rfl
theorem ap_listS {vs : List V} : rListS vs H Q = ∃ p, vs = [.ref p] ∧ ∃ xs, (H p = some (.lst xs) ∨ H p = some (.tup xs)) ∧ ∀ l, H l = none → Q (.ref l) (upd H l (.lst xs)) := rfl
theorem ap_sumLI {vs : List V} : rSumLI vs H Q = ∃ p, vs = [.ref p] ∧ ∃ ns, H p = some (LI ns) ∧ Q (.int ns.sum) H := rfl
theorem ap_sumTI {vs : List V} : rSumTI vs H Q = ∃ p, vs = [.ref p] ∧ ∃ ns, H p = some (TI ns) ∧ Q (.int ns.sum) H := rfl
theorem ap_repLI : rRepLI x y H Q = ∃ l k, x = .ref l ∧ y = .int k ∧ ∃ n, H l = some (LI [n]) ∧ k < 1000000 ∧ -1000000 < k ∧ ∀ p, H p = none → Q (.ref p) (upd H p (LI (List.replicate k.toNat n))) := rfl
theorem ap_intI {vs : List V} : rIntI vs H Q = ∃ i, vs = [.int i] ∧ Q (.int i) H := rfl
theorem ap_intB {vs : List V} : rIntB vs H Q = ∃ k, vs = [.bl k] ∧ Q (.int (if k then 1 else 0)) H := rfl
theorem ap_eqTI : rEqTI x y H Q = ∃ p q, x = .ref p ∧ y = .ref q ∧ ∃ ns, H p = some (TI ns) ∧ ∃ ms, H q = some (TI ms) ∧ Q (.bl (decide (ns = ms))) H := rfl
theorem ap_neTI : rNeTI x y H Q = ∃ p q, x = .ref p ∧ y = .ref q ∧ ∃ ns, H p = some (TI ns) ∧ ∃ ms, H q = some (TI ms) ∧ Q (.bl (!decide (ns = ms))) H := rfl
theorem ap_eqLI : rEqLI x y H Q = ∃ p q, x = .ref p ∧ y = .ref q ∧ ∃ ns, H p = some (LI ns) ∧ ∃ ms, H q = some (LI ms) ∧ Q (.bl (decide (ns = ms))) H := rfl
theorem ap_neLI : rNeLI x y H Q = ∃ p q, x = .ref p ∧ y = .ref q ∧ ∃ ns, H p = some (LI ns) ∧ ∃ ms, H q = some (LI ms) ∧ Q (.bl (!decide (ns = ms))) H := rfl
theorem ap_isi {vs : List V} : rIsiS vs H Q = ∃ x T, vs = [x, .ty T] ∧ ∃ t, tyOf x H = some t ∧ ∃ b, kitB t T = some b ∧ Q (.bl b) H := rfl
/-- a loop over what has begun -/
def tLoop (g : TG) (tb : TS) (D : Ends) (σ : L2.St) (J : It) (H1 : Hp) : Prop := ∃ W : Nat → Nat → L2.St → Hp → Prop, (∃ m, W 0 m σ H1) ∧ ∀ i m σ H, W i m σ H →
  (J.stop i H ∧ D.nx σ H) ∨ (J.go i H ∧ ∃ N : L2.St → Hp → Prop, (∀ σ' H', N σ' H' → ∃ m', m' < m ∧ W (i + 1) m' σ' H') ∧ ∀ x H', J.yld i H x H' → g x σ H' fun σ2 H2 => tb { D with nx := N, ct := N, bk := D.nx } σ2 H2)
theorem ap_for {wi : L2.TI} : tFor wi g tu D σ H = wi σ H (tLoop g tu D σ) := rfl
theorem ap_rng1 {ta : TA} {R : It → Hp → Prop} : iRng1 ta σ H R = ta σ H fun vs H1 => ∃ j : Int, vs = [.int j] ∧ -(2 ^ 62) ≤ j ∧ j < 2 ^ 62 ∧ R (Itr 0 j.toNat) H1 := rfl
theorem ap_rng2 {ta : TA} {R : It → Hp → Prop} : iRng2 ta σ H R = ta σ H fun vs H1 => ∃ i j : Int, vs = [.int i, .int j] ∧ (-(2 ^ 62) ≤ i ∧ i < 2 ^ 62 ∧ -(2 ^ 62) ≤ j ∧ j < 2 ^ 62) ∧ R (Itr i (j - i).toNat) H1 := rfl
theorem ap_iList {R : It → Hp → Prop} : iList K te σ H R = te σ H fun x H1 => ∃ a, x = .ref a ∧ (∃ xs, SqL K H1 a xs) ∧ R (Itl K a) H1 := rfl
theorem ap_iTup {R : It → Hp → Prop} : iTup K te σ H R = te σ H fun x H1 => ∃ a, x = .ref a ∧ (∃ xs, SqT K H1 a xs) ∧ R (Itt K a) H1 := rfl
/-- a comprehension over what has begun -/
def tLcIn (g : TG) (tt : TT) (te : TE) (vs : List Nat) (σ : L2.St) (Q : VK) (J : It) (H1 : Hp) : Prop := ∀ D, H1 D = none → ∃ W : Nat → Nat → Hp → Prop, (∃ m, W 0 m (upd H1 D (.lst []))) ∧ ∀ i m H, W i m H →
  (J.stop i H ∧ Q (.ref D) H) ∨ (J.go i H ∧ ∃ Nx : Hp → Prop, (∀ H', Nx H' → ∃ m', m' < m ∧ W (i + 1) m' H') ∧ ∀ x H', J.yld i H x H' → g x (wipe σ vs) H' fun σ2 H2 => wipe σ2 vs = wipe σ vs ∧ tt σ2 H2 fun b H3 =>
    if b = true then te σ2 H3 fun y H4 => ∃ acc, H4 D = some (.lst acc) ∧ acc.length < sizeLine ∧ Nx (upd H4 D (.lst (acc ++ [y]))) else Nx H3)
theorem ap_lc {wi : L2.TI} {vs : List Nat} : tLc wi g t te vs σ H Q = wi σ H (tLcIn g t te vs σ Q) := rfl
theorem ap_yes : tYes σ H QT = QT true H := rfl
theorem tyV_l {p : Addr} (h : ∃ xs, H p = some (.lst xs)) : tyV K "list" (.ref p) H = True := by
  obtain ⟨xs, h⟩ := h
  exact eq_true (.inl ⟨rfl, xs, .inl (.inl h)⟩)
theorem sqL_of {p : Addr} {xs : List V} (h : H p = some (.lst xs)) : SqL K H p xs := .inl (.inl h)
theorem sqT_of {p : Addr} {xs : List V} (h : H p = some (.tup xs)) : SqT K H p xs := .inl (.inl h)
end
/-! ### loops -/
section
variable {K : PySem.W.Frag} {g : TG} {tb : TS} {D : Ends} {σ : L2.St} {H : Hp} {j : Nat} {te : TE} {vs : List Nat} {Q : VK} {tt : TT}
theorem loop_range {lo : Int} {n : Nat} (Pv : Nat → L2.St → Hp → Prop) (h0 : Pv 0 σ H)
    (hs : ∀ (i : Nat) σ H, i < n → Pv i σ H → tb { D with nx := Pv (i + 1), ct := Pv (i + 1), bk := D.nx } (σ.set j (some (.int (lo + i)))) H) (hd : ∀ σ H, Pv n σ H → D.nx σ H) :
    tLoop (gName j) tb D σ (Itr lo n) H := for_range (g := gName j) Pv h0 hs hd
theorem same_upd {H : Hp} {p : Addr} {o : HO} (h : H p = none) : Same H (upd H p o) := fun b x e => by
  rw [upd_ne (ne_of_none e h)]
  exact e
theorem same_mut {H H' : Hp} {p : Addr} {o : HO} (e : Same H H') (h : H p = none) : Same H (upd H' p o) := fun b x eb => by
  rw [upd_ne (ne_of_none eb h)]
  exact e b x eb
/-- a comprehension whose turns leave what H knows, and give ints -/
theorem lc_rangeI {lo : Int} {n : Nat} (f : Nat → Int) (hn : n < 1000000) (hw : ∀ x, wipe ((wipe σ vs).set j (some x)) vs = wipe σ vs)
    (he : ∀ (i : Nat) H', i < n → Same H H' → ∀ Q' : VK, (∀ H'', Same H' H'' → Q' (.int (f i)) H'') → te ((wipe σ vs).set j (some (.int (lo + i)))) H' Q')
    (hq : ∀ p H', H p = none → Same H H' → H' p = some (LI ((List.range n).map f)) → Q (.ref p) H') :
    tLcIn (gName j) tYes te vs σ Q (Itr lo n) H := fun Dl hD => by
  refine lc_range (g := gName j) (lo := lo) (n := n) (fun i H' => Same H H' ∧ H' Dl = some (LI ((List.range i).map f))) ⟨same_upd hD, ?_⟩ (fun i H' hi hP => ?_) (fun H' hP => hq Dl H' hD hP.1 hP.2)
  · rw [upd_same]
    rfl
  · obtain ⟨sm, ed⟩ := hP
    refine ⟨hw _, he i H' hi sm _ fun H'' sm' => ⟨_, sm' _ _ ed, sz (by simp; omega), same_mut (sm.trans sm') hD, ?_⟩⟩
    rw [upd_same, List.range_succ, List.map_append]
    simp
theorem lc_listI {a : Addr} {xs : List V} (f : Nat → Int) (hx : H a = some (.lst xs)) (hn : xs.length < 1000000) (hw : ∀ x, wipe ((wipe σ vs).set j (some x)) vs = wipe σ vs)
    (he : ∀ (i : Nat) x H', xs[i]? = some x → Same H H' → ∀ Q' : VK, (∀ H'', Same H' H'' → Q' (.int (f i)) H'') → te ((wipe σ vs).set j (some x)) H' Q')
    (hq : ∀ p H', H p = none → Same H H' → H' p = some (LI ((List.range xs.length).map f)) → Q (.ref p) H') :
    tLcIn (gName j) tYes te vs σ Q (Itl K a) H := fun Dl hD => by
  refine lc_list (g := gName j) (xs := xs) (fun i H' => Same H H' ∧ H' Dl = some (LI ((List.range i).map f))) ⟨same_upd hD, ?_⟩ (fun i H' hi hP => sqL_of (hP.1 _ _ hx)) (fun i x H' hi hP => ?_) (fun H' hP => hq Dl H' hD hP.1 hP.2)
  · rw [upd_same]
    rfl
  · obtain ⟨sm, ed⟩ := hP
    have hl := (List.getElem?_eq_some_iff.mp hi).1
    refine ⟨hw _, he i x H' hi sm _ fun H'' sm' => ⟨_, sm' _ _ ed, sz (by simp; omega), same_mut (sm.trans sm') hD, ?_⟩⟩
    rw [upd_same, List.range_succ, List.map_append]
    simp
theorem iteC {c A B : Prop} {inst : Decidable c} (h1 : c → A) (h2 : ¬c → B) : @ite Prop c inst A B := by
  by_cases h : c
  · rw [if_pos h]
    exact h1 h
  · rw [if_neg h]
    exact h2 h
theorem gi_c0 {a : Int} {l : List Int} : gi (a :: l) 0 = a := by
  unfold gi
  rfl
theorem gi_c1 {a b : Int} {l : List Int} : gi (a :: b :: l) 1 = b := by
  unfold gi
  rfl
theorem gi_c2 {a b c : Int} {l : List Int} : gi (a :: b :: c :: l) 2 = c := by
  unfold gi
  rfl
theorem gi_c3 {a b c d : Int} {l : List Int} : gi (a :: b :: c :: d :: l) 3 = d := by
  unfold gi
  rfl
theorem own_cons {p : Str × Nat} {l : List (Str × Nat)} : List.map (fun x : Str × Nat => x.snd) (p :: l) = p.snd :: List.map (fun x : Str × Nat => x.snd) l := rfl
theorem own_nil : List.map (fun x : Str × Nat => x.snd) [] = [] := rfl
theorem le1 {a : Int} {ns : List Int} : ([V.int a] = List.map V.int ns) ↔ [a] = ns := map_int_inj (xs := [a])
theorem le2 {a b : Int} {ns : List Int} : ([V.int a, V.int b] = List.map V.int ns) ↔ [a, b] = ns := map_int_inj (xs := [a, b])
theorem le3 {a b c : Int} {ns : List Int} : ([V.int a, V.int b, V.int c] = List.map V.int ns) ↔ [a, b, c] = ns := map_int_inj (xs := [a, b, c])
theorem le4 {a b c d : Int} {ns : List Int} : ([V.int a, V.int b, V.int c, V.int d] = List.map V.int ns) ↔ [a, b, c, d] = ns := map_int_inj (xs := [a, b, c, d])
theorem me_cons {a : Int} {l : List Int} {v : V} {r : List V} : (List.map V.int (a :: l) = v :: r) ↔ (V.int a = v ∧ List.map V.int l = r) := by
  rw [List.map_cons, List.cons.injEq]
theorem me_nil {r : List V} : (List.map V.int ([] : List Int) = r) ↔ [] = r := Iff.rfl
theorem wipe_nil : wipe σ [] = σ := rfl
theorem wipe_cons {v : Nat} : wipe σ (v :: vs) = (wipe σ vs).set v none := rfl
end
/-! the written part named, for what stands in a comprehension within another one -/
end Pr
namespace Pr
open PySem PySem.Spec PyProof.Rows L2
/-! ### ints of any sign and some hundred digits -/
def CFd (_ j : Int) : Prop := j ≠ 0 ∧ -((2 ^ 250) ^ 16) < j ∧ j < (2 ^ 250) ^ 16
def CMu (i j : Int) : Prop := (-((2 ^ 250) ^ 16) < i ∧ i < (2 ^ 250) ^ 16) ∧ -((2 ^ 250) ^ 16) < j ∧ j < (2 ^ 250) ^ 16
theorem bigE : ((2 : Int) ^ 250) ^ 16 = ((2 ^ 4000 : Nat) : Int) := by
  rw [← Int.pow_mul]
  norm_cast
theorem big_abs {i : Int} (h : -(2 ^ 250) ^ 16 < i ∧ i < (2 ^ 250) ^ 16) : i.natAbs < 2 ^ 4000 := by
  have e := bigE
  generalize (2 ^ 4000 : Nat) = B at e ⊢
  rw [e] at h
  omega
section
variable {X : Cx}
theorem op_fdivG : OpR X (binaryOp .FloorDiv) (rI CFd fun i j => .int (i.fdiv j)) := opI fun i j _ _ _ _ _ hc q => by
  have h1 : j ≠ 0 := hc.1
  have h2 : j.natAbs.log2 < 9000 := Nat.lt_of_lt_of_le (PySem.Flt.log2_lt_of (by decide) (big_abs hc.2)) (by decide)
  exact floordiv_int h1 q (.inl (PyProof.noPylong_of_log2 h2))
theorem op_mulB : OpR X (binaryOp .Mult) (rI CMu fun i j => .int (i * j)) := opImp op_mulW fun x y H Q ⟨i, j, ex, ey, c, q⟩ =>
  ⟨i, j, ex, ey, wide_mul (big_abs c.1) (big_abs c.2) (by decide) (by decide) (by decide), q⟩
def CDp (_ j : Int) : Prop := 0 < j ∧ j < (2 ^ 250) ^ 16
theorem op_fdivP : OpR X (binaryOp .FloorDiv) (rI CDp fun i j => .int (i / j)) := opImp op_fdivW fun x y H Q ⟨i, j, ex, ey, c, q⟩ => by
  refine ⟨i, j, ex, ey, wide_div c.1 (big_abs (i := j) ⟨?_, c.2⟩) (by decide) (by decide), q⟩
  have := c.1
  have e := bigE
  generalize (2 ^ 4000 : Nat) = B at e
  rw [e]
  omega
/-- isqrt -/
def rIsqrt : List V → Hp → VK → Prop := fun vs H Q => ∃ i, vs = [.int i] ∧ 0 ≤ i ∧ i < (2 ^ 250) ^ 16 ∧ Q (.int ((Float64.isqrt i.toNat : Nat) : Int)) H
end
theorem ty_cases {x : V} {H : Hp} {t : String} (h : tyOf x H = some t) : x = .non ∨ (∃ b, x = .bl b) ∨ (∃ i, x = .int i) ∨ (∃ s, x = .str s) ∨ (∃ a, x = .ref a ∧ (t = "list" ∨ t = "tuple" ∨ t = "dict")) := by
  cases x with
  | non => exact .inl rfl
  | bl b => exact .inr (.inl ⟨b, rfl⟩)
  | int i => exact .inr (.inr (.inl ⟨i, rfl⟩))
  | str s => exact .inr (.inr (.inr (.inl ⟨s, rfl⟩)))
  | ref a =>
    refine .inr (.inr (.inr (.inr ⟨a, rfl, ?_⟩)))
    have e : tyOf (.ref a) H = (match H a with
      | some (.lst _) => some "list"
      | some (.tup _) => some "tuple"
      | some (.dK _) => some "dict"
      | some (.dT _) => some "dict"
      | _ => none) := rfl
    rw [e] at h
    split at h
    · exact .inl (Option.some.inj h).symm
    · exact .inr (.inl (Option.some.inj h).symm)
    · exact .inr (.inr (Option.some.inj h).symm)
    · exact .inr (.inr (Option.some.inj h).symm)
    · cases h
  | byt b => cases h
  | flt b => cases h
  | ty n => cases h
theorem ty_non (H : Hp) : tyOf .non H = some "NoneType" := rfl
theorem ty_bl (b : Bool) (H : Hp) : tyOf (.bl b) H = some "bool" := rfl
theorem ty_int (i : Int) (H : Hp) : tyOf (.int i) H = some "int" := rfl
theorem ty_str (s : Str) (H : Hp) : tyOf (.str s) H = some "str" := rfl
theorem ty_tup {a : Addr} {H : Hp} {xs : List V} (h : H a = some (.tup xs)) : tyOf (.ref a) H = some "tuple" := by
  show (match H a with
      | some (.lst _) => some "list"
      | some (.tup _) => some "tuple"
      | some (.dK _) => some "dict"
      | some (.dT _) => some "dict"
      | _ => none) = _
  rw [h]
/-! ### unpacking, texts -/
section
variable {X : Cx}
def gTupH (n : Nat) (t : TGs) : TG := fun v σ H Q => ∃ a, v = .ref a ∧ ∃ xs, H a = some (.tup xs) ∧ xs.length = n ∧ t xs σ H Q
theorem pg_tupH {es : List Expr} {t : TGs} {k n : Nat} {pos : Pos} (hc : X.calm = true) (h : PGs X es t)
    (hn : (assignEach es X.env).length = n := by rfl) (hst : (assignEach es X.env).findIdx? (·.1) = none := by rfl) : PG X (.Tuple es k pos) (gTupH n t) := by
  have g := pg_tup (k := k) (pos := pos) hc h hn hst
  exact ⟨fun pins s σ H v u Q I r q => g.run pins s σ H v u Q I r (by
    obtain ⟨a, e, xs, hx, hl, k⟩ := q
    exact ⟨a, xs, e, .inl (.inl hx), hl, k⟩)⟩
variable {K : PySem.W.Frag} {σ : L2.St} {H : Hp} {Q : VK} {te : TE} {ts : List TE}
theorem ap_cut {D : Ends} {tu tw : TS} : Evl.tCut tu tw D σ H = ∃ Mid : L2.St → Hp → Prop, tu { D with nx := Mid } σ H ∧ ∀ σ' H', Mid σ' H' → tw D σ' H' := rfl
theorem ap_gTupH {n : Nat} {t : TGs} {v : V} {QN : L2.St → Hp → Prop} : gTupH n t v σ H QN = ∃ a, v = .ref a ∧ ∃ xs, H a = some (.tup xs) ∧ xs.length = n ∧ t xs σ H QN := rfl
theorem ap_fmt : tFmt te σ H Q = te σ H fun x H1 => (∃ y : Str, x = .str y ∧ y.length ≤ sizeLine ∧ Q (.str y) H1) ∨ ∃ i : Int, x = .int i ∧ i.natAbs.log2 < 1920 ∧ Q (.str (toString i)) H1 := rfl
theorem ap_jsn {acc : Str} {QS : Str → Hp → Prop} : tJs [] acc σ H QS = QS acc H := rfl
theorem ap_jsc {acc : Str} {QS : Str → Hp → Prop} : tJs (te :: ts) acc σ H QS = te σ H fun x H1 => ∃ y : Str, x = .str y ∧ (acc ++ y).length ≤ sizeLine ∧ tJs ts (acc ++ y) σ H1 QS := rfl
theorem ap_gcd {vs : List V} : rGcd vs H Q = ∃ a b : Int, vs = [.int a, .int b] ∧ Q (.int ((Nat.gcd a.natAbs b.natAbs : Nat) : Int)) H := rfl
theorem ap_isqrt {vs : List V} : rIsqrt vs H Q = ∃ i, vs = [.int i] ∧ 0 ≤ i ∧ i < (2 ^ 250) ^ 16 ∧ Q (.int ((Float64.isqrt i.toNat : Nat) : Int)) H := rfl
end
end Pr
/-! enumerate over a tuple -/
namespace Pr
open PySem PySem.Spec PyProof.Rows L2
open Sem (wp)
theorem en_new {u : Value} {ob : Obj} {Z : Heap → Prop} (B : Begins u ob Z) :
    Meets (Builtin.«enumerate.__new__» ⟨[.type "enumerate", u], []⟩) (fun _ R z => Z z.heap ∧
      R (.ok (.ret (.ref (z.heap.push ob).objs.size))) { z with heap := (z.heap.push ob).push ⟨.type "enumerate", none, .fields #[.none, .bool false, .ref z.heap.objs.size, rawInt 0, .none, .none], #[]⟩ }) := by
  refine .of_wp fun pg wd B1 R z hz => ?_
  rcases z with ⟨hp, gs, dr, tk, out⟩
  rcases hz with ⟨hb, hz⟩
  have sub1 := sub_enumerate
  have go : ∀ {B' : Around} {E' Q' : Value → Shared → Prop}, Q' (.ref hp.objs.size) ⟨hp.push ob, gs, dr, tk, out⟩ → wpAny (model pg wd) B' (pyIter u) Q' E' ⟨hp, gs, dr, tk, out⟩ := fun y => B.iter pg wd _ _ _ _ hb y
  wp_walk using go
  refine wpAny_stack_any fun stk => wpAny_pure ?_
  split
  · rename_i c' _ _ _ _ _
    rcases hcc : c' == Value.type "enumerate" with _ | _ <;> (simp only [hcc]; wp_walk using go; exact ⟨_, rfl, hz⟩)
  · wp_walk using go; exact ⟨_, rfl, hz⟩
section
variable {pg : Program} {wd : World} {Ar : Around} {E : Value → Shared → Prop} {s : Shared}
theorem en_call {u : Value} {ob : Obj} {Z : Heap → Prop} {Q : Value → Shared → Prop} (B : Begins u ob Z) (hb : Z s.heap)
    (k : ∀ g : Heap, IsEnum g (s.heap.objs.size + 1) s.heap.objs.size 0 .none → g.get? s.heap.objs.size = some ob → g.objs.size = s.heap.objs.size + 2 → (∀ c x, s.heap.get? c = some x → g.get? c = some x) → Q (.ref (s.heap.objs.size + 1)) { s with heap := g }) :
    wpAny (model pg wd) Ar (call (.type "enumerate") [u]) Q E s := by
  have n1 : (s.heap.push ob).objs.size = s.heap.objs.size + 1 := Heap.size_push ..
  have at1 : ((s.heap.push ob).push ⟨.type "enumerate", none, .fields #[.none, .bool false, .ref s.heap.objs.size, rawInt 0, .none, .none], #[]⟩).get? (s.heap.objs.size + 1) = some ⟨.type "enumerate", none, .fields #[.none, .bool false, .ref s.heap.objs.size, rawInt 0, .none, .none], #[]⟩ := by
    rw [← n1]
    exact Heap.get?_push_size _ rfl
  refine callType_new F.called_enumerate (by decide) (F.typeCall_enumerate_1 _) (F.newCall_enumerate_1 _) (fun y => F.args_object_init_2 y _) F.entry_enumerate_new (en_new B) ⟨hb, ?_⟩
  show _ ∧ _
  rw [n1]
  refine ⟨⟨_, at1, rfl⟩, k _ at1 (Heap.get?_push_of_some _ (Heap.get?_push_size _ B.free)) ?_ fun c x ex => Heap.get?_push_of_some _ (Heap.get?_push_of_some _ ex)⟩
  rw [Heap.size_push, n1]
end
/-- the turns of enumerate over the tuple at a -/
def ItT (K : PySem.W.Frag) (a : Addr) : It where
  go := fun i H => ∃ xs x, SqT K H a xs ∧ xs[i]? = some x
  yld := fun i H v H' => ∃ t x, v = .ref t ∧ H t = none ∧ H' = upd H t (.tup [.int (i : Nat), x]) ∧ ∀ xs, SqT K H a xs → xs[i]? = some x
  stop := fun i H => ∃ xs : List V, SqT K H a xs ∧ xs.length ≤ i
theorem turn_en {pg : Program} {wd : World} {K : PySem.W.Frag} {elts : List Expr} {n : Nat} {tp : Pos} (a e it : Addr) :
    Turn pg wd K (.Tuple elts n tp) (ItT K a) [e, it] e (fun i h => (∃ y, IsEnum h e it ((i : Nat) : Int) y) ∧ h.IsTupleIter it a i ∧ e ≠ it) where
  mem := by simp
  obj := fun i h z b hb => by
    rcases z with ⟨⟨y, q1⟩, ⟨o, q2, _, q3⟩, _⟩
    rcases (show b = e ∨ b = it by simpa using hb) with rfl | rfl
    · exact ⟨_, q1, fun v c => nomatch c⟩
    · exact ⟨o, q2, fun v c => by rw [q3] at c; cases c⟩
  keep := fun i h g z k => ⟨⟨_, k e (by simp) _ z.1.choose_spec⟩, z.2.1.at fun o q => k it (by simp) o q, z.2.2⟩
  item := by
    intro X e1 e2 e3 calm i pins s σ H Ex I fps z gg
    subst e1 e2 e3
    rcases z with ⟨⟨y, q1⟩, q2, ne⟩
    rcases gg with ⟨xs, x, sq, ex⟩
    obtain ⟨us, rv, tp1, _⟩ := I.tuple sq
    obtain ⟨u, eu, ru⟩ := rv.get ex
    have la : e < s.heap.objs.size := Heap.lt_size q1
    have lb : it < s.heap.objs.size := by obtain ⟨_, q, _⟩ := q2; exact Heap.lt_size q
    have ai : a ≠ it := fun c => by
      obtain ⟨o, p1, p2, _⟩ := q2
      obtain ⟨o', r1, r2, _⟩ := tp1
      rw [c, p1] at r1
      cases r1
      rw [p2] at r2
      exact absurd r2 (by decide)
    have ae : a ≠ e := fun c => by
      obtain ⟨o', r1, r2, _⟩ := tp1
      rw [c] at r1
      have := q1.symm.trans r1
      cases this
      simp at r2
    have D := Draws.tuple (prog := X.prog) (w := X.w) (A := X.A.in1) (I.ok.hd calm) it a ai us.toArray
    have li : i < us.toArray.size := by
      have := (List.getElem?_eq_some_iff.mp eu).1
      simpa using this
    refine wpAny_pyNext_enum_itemD D q1 ⟨q2, tp1⟩ li ne (by simp [ne, ae.symm]) fun x' g tk px out st2 tup gs keepg => ?_
    have ux : x' = u := by
      have h1 : us.toArray[i]? = some u := by simpa using eu
      exact Option.some.inj (px.symm.trans h1)
    subst ux
    obtain ⟨st2, -⟩ := st2
    refine ⟨_, rfl, wpAny_letOwnedTupleGo_enum (s := { s with heap := g, toks := tk + 1 }) out fun g2 q3 sb => ?_⟩
    obtain ⟨sb1, sb⟩ := sb
    have nw : g2.get? s.heap.objs.size = some { cls := .type "tuple", data := .seq #[.int i tk, x'] } := by rw [← tup]; exact sb _ (Nat.ne_of_gt la)
    have kp : ∀ c o, c ∉ [e, it] → s.heap.get? c = some o → g2.get? c = some o := fun c o nc ec => by
      have c1 : c ≠ e := fun z => nc (by simp [z])
      have c2 : c ≠ it := fun z => nc (by simp [z])
      exact (sb c c1).trans (keepg c o c1 c2 ec)
    have wr : ObjOk X.prog X.w (upd H s.heap.objs.size (.tup [.int (i : Nat), x])) g2 s.heap.objs.size (.tup [.int (i : Nat), x]) := ⟨by show 2 ≤ sizeLine; decide, [.int i tk, x'], .cons ⟨_, rfl⟩ (.cons ru .nil), ⟨_, nw, rfl, _, rfl⟩⟩
    have I2 := I.turnedNew (t' := tk + 1) (ch := [e, it]) kp fps (Nat.le_refl _) wr
    have fr := I.hok.fresh (Nat.le_refl s.heap.objs.size)
    have q4 : IsEnum g2 e it ((i + 1 : Nat) : Int) x' := by
      rw [show ((i + 1 : Nat) : Int) = (i : Int) + 1 by omega]
      exact q3
    refine ⟨.ref s.heap.objs.size, _, I2, rfl, ⟨_, x, rfl, fr, rfl, fun ys hy => (I.tuple_inj hy sq) ▸ ex⟩, ⟨⟨_, q4⟩, st2.at fun o q => (sb it ne.symm).trans q, ne⟩, fun b hb => ?_⟩
    have lt : b < s.heap.objs.size := by
      rcases (show b = e ∨ b = it by simpa using hb) with rfl | rfl
      · exact la
      · exact lb
    rw [upd_ne (Nat.ne_of_lt lt)]
    exact (fps b hb).1
  done := by
    intro X e1 e2 e3 calm i pins s σ H Ex I fps z gg
    subst e1 e2 e3
    rcases z with ⟨⟨y, q1⟩, q2, ne⟩
    rcases gg with ⟨xs, sq, ex⟩
    obtain ⟨us, rv, tp1, _⟩ := I.tuple sq
    have ai : a ≠ it := fun c => by
      obtain ⟨o, p1, p2, _⟩ := q2
      obtain ⟨o', r1, r2, _⟩ := tp1
      rw [c, p1] at r1
      cases r1
      rw [p2] at r2
      exact absurd r2 (by decide)
    obtain ⟨f0, f1, f2, f3, f4, f5⟩ := fps it (by simp)
    have ln := rv.length
    have D : Draws X.prog X.w X.A.in1 it [it, a] 0 (fun _ _ => False) (fun _ h => h.IsTupleIter it a i ∧ h.IsTuple a us.toArray) := {
      live := fun _ _ st => let ⟨o, ho, _⟩ := st.1; ⟨o, ho⟩
      frame := fun _ _ _ st k => ⟨st.1.at fun o q => k it (by simp) o q, st.2.at fun o q => k a (by simp) o q⟩
      item := fun j _ _ _ lt => absurd lt (Nat.not_lt_zero j)
      done := fun s Q E st k => wpAny_nextOf_tuple_end (I.ok.hd calm) st.1 st.2 (by simp; omega) k }
    exact wpAny_pyNext_enum_endD D q1 ⟨q2, tp1⟩ fun g k => ⟨rfl, I.turned (t' := s.toks) (fun b o nb q => k b o nb q) f0 f1 f3 f4 f5⟩
  self := fun B i s Q Ex z k => wpAny_pyIter_enum z.1.choose_spec k
end Pr
/-! loops and comprehensions over anything that gives n things -/
namespace Pr
open PySem PySem.Spec PyProof.Rows L2
/-- while F holds, J goes through n things, as Y tells -/
structure Gives (J : It) (n : Nat) (F : Hp → Prop) (Y : Nat → V → Hp → Hp → Prop) : Prop where
  go : ∀ i H, i < n → F H → J.go i H
  yld : ∀ i H v H', i < n → F H → J.yld i H v H' → Y i v H H'
  stop : ∀ H, F H → J.stop n H
section
variable {K : PySem.W.Frag} {g : TG} {tb : TS} {D : Ends} {σ : L2.St} {H : Hp} {j k : Nat} {te : TE} {tt : TT} {vs : List Nat} {Q : VK} {J : It} {n : Nat} {F : Hp → Prop} {Y : Nat → V → Hp → Hp → Prop}
theorem loop_gen (G : Gives J n F Y) (Pv : Nat → L2.St → Hp → Prop) (h0 : Pv 0 σ H) (hF : ∀ i σ H, i ≤ n → Pv i σ H → F H)
    (hs : ∀ i v σ H H', i < n → Pv i σ H → Y i v H H' → g v σ H' fun σ2 H2 => tb { D with nx := Pv (i + 1), ct := Pv (i + 1), bk := D.nx } σ2 H2) (hd : ∀ σ H, Pv n σ H → D.nx σ H) : tLoop g tb D σ J H := by
  refine ⟨fun i m σ H => m + i = n ∧ Pv i σ H, ⟨n, rfl, h0⟩, fun i m σ H ⟨e, p⟩ => ?_⟩
  have f := hF i σ H (by omega) p
  rcases m with _ | m
  · have e' : i = n := by omega
    subst e'
    exact .inl ⟨G.stop H f, hd σ H p⟩
  · exact .inr ⟨G.go i H (by omega) f, Pv (i + 1), fun σ' H' p' => ⟨m, Nat.lt_succ_self m, by omega, p'⟩, fun v H' y => hs i v σ H H' (by omega) p (G.yld i H v H' (by omega) f y)⟩
theorem lc_gen (G : Gives J n F Y) (Pv : Addr → Nat → Hp → Prop) (h0 : ∀ A, H A = none → Pv A 0 (upd H A (.lst []))) (hF : ∀ A i H, i ≤ n → Pv A i H → F H)
    (hs : ∀ A i v H1 H', H A = none → i < n → Pv A i H1 → Y i v H1 H' → g v (wipe σ vs) H' fun σ2 H2 => wipe σ2 vs = wipe σ vs ∧ tt σ2 H2 fun b H3 =>
      if b = true then te σ2 H3 fun y H4 => ∃ acc, H4 A = some (.lst acc) ∧ acc.length < sizeLine ∧ Pv A (i + 1) (upd H4 A (.lst (acc ++ [y]))) else Pv A (i + 1) H3)
    (hd : ∀ A H', H A = none → Pv A n H' → Q (.ref A) H') : tLcIn g tt te vs σ Q J H := by
  intro A hA
  refine ⟨fun i m H' => m + i = n ∧ Pv A i H', ⟨n, rfl, h0 A hA⟩, fun i m H1 ⟨e, p⟩ => ?_⟩
  have f := hF A i H1 (by omega) p
  rcases m with _ | m
  · have e' : i = n := by omega
    subst e'
    exact .inl ⟨G.stop H1 f, hd A H1 hA p⟩
  · exact .inr ⟨G.go i H1 (by omega) f, Pv A (i + 1), fun H' p' => ⟨m, Nat.lt_succ_self m, by omega, p'⟩, fun v H' y => hs A i v H1 H' hA (by omega) p (G.yld i H1 v H' (by omega) f y)⟩
/-- a new pair of two things, told by R -/
def PY (R : Nat → V → V → Prop) : Nat → V → Hp → Hp → Prop := fun i v H H' => ∃ t x y, v = .ref t ∧ H t = none ∧ H' = upd H t (.tup [x, y]) ∧ R i x y
theorem gives_en {a : Addr} {xs : List V} : Gives (ItT K a) xs.length (fun H => H a = some (.tup xs)) (PY fun i x y => x = .int (i : Nat) ∧ xs[i]? = some y) where
  go := fun i H lt f => ⟨xs, xs[i], sqT_of f, by simp [lt]⟩
  yld := fun i H v H' lt f y => by
    obtain ⟨t, x, e1, e2, e3, e4⟩ := y
    exact ⟨t, _, x, e1, e2, e3, rfl, e4 xs (sqT_of f)⟩
  stop := fun H f => ⟨xs, sqT_of f, Nat.le_refl _⟩
theorem gives_enL {a : Addr} {xs : List V} : Gives (Ite K a) xs.length (fun H => H a = some (.lst xs)) (PY fun i x y => x = .int (i : Nat) ∧ xs[i]? = some y) where
  go := fun i H lt f => ⟨xs, xs[i], sqL_of f, by simp [lt]⟩
  yld := fun i H v H' lt f y => by
    obtain ⟨t, x, e1, e2, e3, e4⟩ := y
    exact ⟨t, _, x, e1, e2, e3, rfl, e4 xs (sqL_of f)⟩
  stop := fun H f => ⟨xs, sqL_of f, Nat.le_refl _⟩
theorem gives_zipT {a b : Addr} {xs ys : List V} (hl : xs.length = ys.length) : Gives (RZ.ItzT K a b) xs.length (fun H => H a = some (.tup xs) ∧ H b = some (.tup ys)) (PY fun i x y => xs[i]? = some x ∧ ys[i]? = some y) where
  go := fun i H lt f => ⟨xs, ys, xs[i], ys[i]'(hl ▸ lt), sqT_of f.1, sqT_of f.2, by simp [lt], by simp [hl ▸ lt]⟩
  yld := fun i H v H' lt f y => by
    obtain ⟨t, x, y, e1, e2, e3, e4, e5⟩ := y
    exact ⟨t, x, y, e1, e2, e3, e4 xs (sqT_of f.1), e5 ys (sqT_of f.2)⟩
  stop := fun H f => ⟨xs, ys, sqT_of f.1, sqT_of f.2, .inl (Nat.le_refl _)⟩
theorem pair_in {R : Nat → V → V → Prop} {u v i : Nat} {x : V} {H1 H' : Hp} {QN : L2.St → Hp → Prop} (y : PY R i x H1 H') (k : ∀ t a b, H1 t = none → R i a b → QN ((σ.set u (some a)).set v (some b)) (upd H1 t (.tup [a, b]))) : gTupH 2 (gCons (gName u) (gCons (gName v) gNil)) x σ H' QN := by
  obtain ⟨t, a, b, rfl, nt, rfl, r⟩ := y
  exact ⟨t, rfl, [a, b], upd_same, rfl, a, [b], rfl, b, [], rfl, rfl, k t a b nt r⟩
theorem loop_pair {R : Nat → V → V → Prop} {u v : Nat} (G : Gives J n F (PY R)) (Pv : Nat → L2.St → Hp → Prop) (h0 : Pv 0 σ H) (hF : ∀ i σ H, i ≤ n → Pv i σ H → F H)
    (hs : ∀ i a b t σ H1, i < n → Pv i σ H1 → H1 t = none → R i a b → tb { D with nx := Pv (i + 1), ct := Pv (i + 1), bk := D.nx } ((σ.set u (some a)).set v (some b)) (upd H1 t (.tup [a, b]))) (hd : ∀ σ H, Pv n σ H → D.nx σ H) :
    tLoop (gTupH 2 (gCons (gName u) (gCons (gName v) gNil))) tb D σ J H :=
  loop_gen G Pv h0 hF (fun i x σ H1 H' hi p y => pair_in y fun t a b nt r => hs i a b t σ H1 hi p nt r) hd
/-- a comprehension over pairs that gives ints -/
theorem lc_pairI {R : Nat → V → V → Prop} {u v : Nat} (G : Gives J n F (PY R)) (f : Nat → Int) (hn : n < 1000000) (hF : ∀ H', Same H H' → F H')
    (hw : ∀ x y, wipe (((wipe σ vs).set u (some x)).set v (some y)) vs = wipe σ vs)
    (he : ∀ i a b H', i < n → R i a b → Same H H' → ∀ Q' : VK, (∀ H'', Same H' H'' → Q' (.int (f i)) H'') → te (((wipe σ vs).set u (some a)).set v (some b)) H' Q')
    (hq : ∀ p H', H p = none → Same H H' → H' p = some (LI ((List.range n).map f)) → Q (.ref p) H') :
    tLcIn (gTupH 2 (gCons (gName u) (gCons (gName v) gNil))) tYes te vs σ Q J H := by
  refine lc_gen G (fun A i H' => Same H H' ∧ H' A = some (LI ((List.range i).map f))) (fun A hA => ⟨same_upd hA, upd_same⟩) (fun A i H' _ p => hF H' p.1) (fun A i x H1 H' hA hi p y => ?_) (fun A H' hA p => hq A H' hA p.1 p.2)
  refine pair_in y fun t a b nt r => ⟨hw a b, ?_⟩
  have s1 := same_upd (o := HO.tup [a, b]) nt
  refine he i a b _ hi r (p.1.trans s1) _ fun H2 s2 => ⟨_, s2 _ _ (s1 _ _ p.2), sz (by simp; omega), same_mut ((p.1.trans s1).trans s2) hA, ?_⟩
  rw [upd_same, List.range_succ, List.map_append]
  simp
theorem lc_tupI {a : Addr} {xs : List V} (f : Nat → Int) (hx : H a = some (.tup xs)) (hn : xs.length < 1000000) (hw : ∀ x, wipe ((wipe σ vs).set j (some x)) vs = wipe σ vs)
    (he : ∀ (i : Nat) x H', xs[i]? = some x → Same H H' → ∀ Q' : VK, (∀ H'', Same H' H'' → Q' (.int (f i)) H'') → te ((wipe σ vs).set j (some x)) H' Q')
    (hq : ∀ p H', H p = none → Same H H' → H' p = some (LI ((List.range xs.length).map f)) → Q (.ref p) H') :
    tLcIn (gName j) tYes te vs σ Q (Itt K a) H := by
  refine lc_gen (n := xs.length) (F := fun H' => H' a = some (.tup xs)) (Y := fun i v H H' => H' = H ∧ xs[i]? = some v) ⟨fun i H lt f => ⟨xs, xs[i], sqT_of f, by simp [lt]⟩, fun i H v H' lt f y => ⟨y.1, y.2 xs (sqT_of f)⟩, fun H f => ⟨xs, sqT_of f, Nat.le_refl _⟩⟩
    (fun A i H' => Same H H' ∧ H' A = some (LI ((List.range i).map f))) (fun A hA => ⟨same_upd hA, upd_same⟩) (fun A i H' _ p => p.1 _ _ hx) (fun A i x H1 H' hA hi p y => ?_) (fun A H' hA p => hq A H' hA p.1 p.2)
  obtain ⟨rfl, y⟩ := y
  refine ⟨hw _, he i x _ y p.1 _ fun H2 s2 => ⟨_, s2 _ _ p.2, sz (by simp; omega), same_mut (p.1.trans s2) hA, ?_⟩⟩
  rw [upd_same, List.range_succ, List.map_append]
  simp
/-- the made list, told another way -/
theorem range_map {f : Nat → Int} {ns : List Int} (h : ∀ i n, ns[i]? = some n → f i = n) : (List.range ns.length).map f = ns := by
  refine List.ext_getElem? fun i => ?_
  rw [List.getElem?_map]
  by_cases hi : i < ns.length
  · rw [List.getElem?_range hi, List.getElem?_eq_getElem hi]
    exact congrArg some (h i _ (List.getElem?_eq_getElem hi))
  · rw [List.getElem?_eq_none (by simpa using hi), List.getElem?_eq_none (by omega)]
    rfl
theorem gives_list {a : Addr} {xs : List V} : Gives (Itl K a) xs.length (fun H => H a = some (.lst xs)) (fun i v H H' => H' = H ∧ xs[i]? = some v) where
  go := fun i H lt f => ⟨xs, xs[i], sqL_of f, by simp [lt]⟩
  yld := fun i H v H' lt f y => ⟨y.1, y.2 xs (sqL_of f)⟩
  stop := fun H f => ⟨xs, sqL_of f, Nat.le_refl _⟩
theorem gives_tup {a : Addr} {xs : List V} : Gives (Itt K a) xs.length (fun H => H a = some (.tup xs)) (fun i v H H' => H' = H ∧ xs[i]? = some v) where
  go := fun i H lt f => ⟨xs, xs[i], sqT_of f, by simp [lt]⟩
  yld := fun i H v H' lt f y => ⟨y.1, y.2 xs (sqT_of f)⟩
  stop := fun H f => ⟨xs, sqT_of f, Nat.le_refl _⟩
end
section
variable {X : Cx}
def iEnT (K : PySem.W.Frag) (ta : TA) : L2.TI := fun σ H R => ta σ H fun vs H1 => ∃ a xs, vs = [.ref a] ∧ SqT K H1 a xs ∧ R (ItT K a) H1
theorem pi_enT {e : Expr} {ta : TA} {p pos tpos : Pos} {elts : List Expr} {kk : Nat} (hg : Gl X "enumerate") (hm : X.mg "enumerate" = none) (ha : PA X [e] ta) (hs : starEach [e] X.env = [(false, eval e X.env)] := by rfl) :
    PI X (.Tuple elts kk tpos) (.Call (.Name "enumerate" p) [e] [] pos) (iEnT X.K ta) := by
  constructor
  intro pins s σ H R I h
  refine Call_ (ld_blt I hg hm boot_enumerate (PyProof.Rows.callWith_type1 (thn (ha.run pos pins s σ H _ I h) fun us z ⟨ws, H1, I1, rel, q⟩ => ?_) hs rfl))
  rcases q with ⟨a, xs, ex, sq, k⟩
  subst ex
  rcases rel with _ | ⟨r, rr⟩
  cases rr
  cases r
  obtain ⟨its, -, tp, -⟩ := I1.tuple sq
  refine en_call (begins_tuple a its.toArray) tp fun g e1 e2 e3 e4 => wpAny_pyIter_enum e1 ?_
  have I2 : Inv X pins σ H1 { z with heap := g } := I1.kept (t' := z.toks) e4
  refine ⟨z.heap.objs.size + 1, [z.heap.objs.size + 1, z.heap.objs.size], _, _, H1, rfl, I2, turn_en a _ z.heap.objs.size, ⟨⟨.none, e1⟩, ⟨_, e2, rfl, rfl⟩, Nat.succ_ne_self _⟩, fun b hb => ?_, k⟩
  have le : z.heap.objs.size ≤ b := by
    rcases (show b = z.heap.objs.size + 1 ∨ b = z.heap.objs.size by simpa using hb) with rfl | rfl
    · exact Nat.le_succ _
    · exact Nat.le_refl _
  exact I1.fpOk le (I1.hok.fresh le)
theorem ap_iEnT {K : PySem.W.Frag} {ta : TA} {σ : L2.St} {H : Hp} {R : It → Hp → Prop} : iEnT K ta σ H R = ta σ H fun vs H1 => ∃ a xs, vs = [.ref a] ∧ SqT K H1 a xs ∧ R (ItT K a) H1 := rfl
theorem ap_iEnL {K : PySem.W.Frag} {ta : TA} {σ : L2.St} {H : Hp} {R : It → Hp → Prop} : iEnum K ta σ H R = ta σ H fun vs H1 => ∃ a xs, vs = [.ref a] ∧ SqL K H1 a xs ∧ R (Ite K a) H1 := rfl
theorem ap_iZipA {K : PySem.W.Frag} {ta : TA} {σ : L2.St} {H : Hp} {R : It → Hp → Prop} : RZ.iZipA K ta σ H R = ta σ H fun vs H1 => ∃ a b xs ys, vs = [.ref a, .ref b] ∧ ((SqL K H1 a xs ∧ SqL K H1 b ys ∧ R (Itz K a b) H1) ∨ (SqT K H1 a xs ∧ SqT K H1 b ys ∧ R (RZ.ItzT K a b) H1)) := rfl
theorem ap_all {K : PySem.W.Frag} {vs : List V} {H : Hp} {Q : VK} : rAll K vs H Q = ∃ (a : Addr) (bs : List Bool), vs = [V.ref a] ∧ SqL K H a (bs.map V.bl) ∧ Q (.bl (bs.all id)) H := rfl
end
section
variable {K : PySem.W.Frag} {g : TG} {D : Ends} {σ : L2.St} {H : Hp} {j : Nat} {te : TE} {vs : List Nat} {Q : VK} {tt : TT}
theorem lc_tupV {a : Addr} {xs : List V} (f : Nat → V) (hx : H a = some (.tup xs)) (hn : xs.length < 1000000) (hw : ∀ x, wipe ((wipe σ vs).set j (some x)) vs = wipe σ vs)
    (he : ∀ (i : Nat) x H', xs[i]? = some x → Same H H' → ∀ Q' : VK, (∀ H'', Same H' H'' → Q' (f i) H'') → te ((wipe σ vs).set j (some x)) H' Q')
    (hq : ∀ p H', H p = none → Same H H' → H' p = some (.lst ((List.range xs.length).map f)) → Q (.ref p) H') :
    tLcIn (gName j) tYes te vs σ Q (Itt K a) H := fun Dl hD => by
  refine lc_tup (g := gName j) (xs := xs) (fun i H' => Same H H' ∧ H' Dl = some (.lst ((List.range i).map f))) ⟨same_upd hD, ?_⟩ (fun i H' hi hP => sqT_of (hP.1 _ _ hx)) (fun i x H' hi hP => ?_) (fun H' hP => hq Dl H' hD hP.1 hP.2)
  · rw [upd_same]
    rfl
  · obtain ⟨sm, ed⟩ := hP
    have hl := (List.getElem?_eq_some_iff.mp hi).1
    refine ⟨hw _, he i x H' hi sm _ fun H'' sm' => ⟨_, sm' _ _ ed, sz (by simp; omega), same_mut (sm.trans sm') hD, ?_⟩⟩
    rw [upd_same, List.range_succ, List.map_append]
    simp
end
section
variable {X : Cx}
/-- tuple(t) of a tuple -/
def rTupT : List V → Hp → VK → Prop := fun vs H Q => ∃ p, vs = [.ref p] ∧ ∃ xs, H p = some (.tup xs) ∧ Q (.ref p) H
theorem ap_tupT {vs : List V} {H : Hp} {Q : VK} : rTupT vs H Q = ∃ p, vs = [.ref p] ∧ ∃ xs, H p = some (.tup xs) ∧ Q (.ref p) H := rfl
end
end Pr
/-! own operators of a class with plain instances -/
namespace Pr
open PySem PySem.Spec PyProof.Rows L2
section
variable {X : Cx} {CX : CXT} {k : Nat} {C g : Addr} {fd : FuncData} {ps : List Str} {sp : Sp} {E : XK} {op : Operator}
/-- x op y, both of the class at C -/
def rBin (C : Addr) (sp : Sp) (E : XK) : R2 := fun x y H Q => ∃ a dx fs b dy gs, x = .ref a ∧ y = .ref b ∧ H a = some (.ins C dx fs) ∧ H b = some (.ins C dy gs) ∧ sp [x, y] H Q E
theorem op_bin (first : PySem.W.selfFirst X.K C = true) (at_ : PySem.W.findIn X.K (.ref C) (PySem.dunder op.info.2) = some (some (.ref g))) (fn : PySem.W.isFn X.K (.ref g) = true)
    (F : FnOk X.prog X.w X.K X.mg X.base CX k g fd ps sp) (room : Room k X.A) (hb : Binds X.K fd ps []) (pass : Passes CX X E) : OpR X (binaryOp op) (rBin C sp E) := by
  intro pins s σ H x y v u Q I rx ry h
  obtain ⟨a, dx, fs, b, dy, gs, rfl, rfl, ea, eb, q⟩ := h
  cases (show v = Value.ref a from rx)
  cases (show u = Value.ref b from ry)
  obtain ⟨_, O, _⟩ := ins_get I.hok ea
  obtain ⟨_, J, _⟩ := O.look
  obtain ⟨_, O2, _⟩ := ins_get I.hok eb
  obtain ⟨_, J2, _⟩ := O2.look
  obtain ⟨m, fr⟩ := I.fr
  refine PySem.W.binop_K fr I.ok.mod.kin J J2.type first at_ fn (wpAny_mono (run_fn (vs := [.ref a, .ref b]) (us := [.ref a, .ref b]) F room hb .nil pass I (.cons rfl (.cons rfl .nil)) q) (fun z s' r => ?_) fun _ _ e => e)
  obtain ⟨z', H', I', rz, qz⟩ := r
  exact SlX.cmpback rz ⟨z', H', I', rz, qz⟩
/-- x op n, x of the class at C, n an int -/
def rBinI (C : Addr) (sp : Sp) (E : XK) : R2 := fun x y H Q => ∃ a dx fs n, x = .ref a ∧ y = .int n ∧ H a = some (.ins C dx fs) ∧ sp [x, y] H Q E
/-- -x -/
def rNeg (C : Addr) (sp : Sp) (E : XK) : V → Hp → VK → Prop := fun x H Q => ∃ a dx fs, x = .ref a ∧ H a = some (.ins C dx fs) ∧ sp [x] H Q E
/-- x == y, both of the class at C, by its own def; the other instance's class is C too -/
theorem op_eqOwn {cop : CmpOp} (hop : ∀ a b, compareOp cop a b = richCompare cop a b) (not : PySem.W.notFirst X.K C (.ref C) = true) (at_ : PySem.W.findIn X.K (.ref C) (cmpInfo cop).2.1 = some (some (.ref g))) (fn : PySem.W.isFn X.K (.ref g) = true)
    (F : FnOk X.prog X.w X.K X.mg X.base CX k g fd ps sp) (room : Room k X.A) (hb : Binds X.K fd ps []) (pass : Passes CX X E) : OpR X (compareOp cop) (rBin C sp E) := by
  intro pins s σ H x y v u Q I rx ry h
  obtain ⟨a, dx, fs, b, dy, gs, rfl, rfl, ea, eb, q⟩ := h
  cases (show v = Value.ref a from rx)
  cases (show u = Value.ref b from ry)
  obtain ⟨_, O, _⟩ := ins_get I.hok ea
  obtain ⟨_, J, _⟩ := O.look
  obtain ⟨_, O2, _⟩ := ins_get I.hok eb
  obtain ⟨_, J2, _⟩ := O2.look
  obtain ⟨m, fr⟩ := I.fr
  rw [hop]
  refine PySem.W.cmp_K (op := cop) (tb := .ref C) room.units0 fr I.ok.mod.kin J J2.type not at_ fn (wpAny_mono (run_fn (vs := [.ref a, .ref b]) (us := [.ref a, .ref b]) F room hb .nil pass I (.cons rfl (.cons rfl .nil)) q) (fun z s' r => ?_) fun _ _ e => e)
  obtain ⟨z', H', I', rz, qz⟩ := r
  exact SlX.cmpback rz ⟨z', H', I', rz, qz⟩
end
end Pr
/-! shifts, masks, bit lengths, comb, ranges with a step above 0 -/
namespace Pr
open PySem PySem.Spec PyProof.Rows L2
section
variable {X : Cx}
def rShl : R2 := fun x y H Q => ∃ (i : Int) (k : Nat), x = .int i ∧ y = .int (k : Int) ∧ CShl i (k : Int) ∧ Q (.int (i * 2 ^ k)) H
def rShr : R2 := fun x y H Q => ∃ (i : Int) (k : Nat), x = .int i ∧ y = .int (k : Int) ∧ Q (.int (i / 2 ^ k)) H
def rMask : R2 := fun x y H Q => ∃ (i : Int) (k : Nat), x = .int i ∧ y = .int (2 ^ k - 1) ∧ Q (.int (i % 2 ^ k)) H
def rComb : List V → Hp → VK → Prop := fun vs H Q => ∃ i j, vs = [.int i, .int j] ∧ 0 ≤ i ∧ 0 ≤ j ∧ i < 2 ^ 60 ∧ j ≤ 9000 ∧ Q (.int (PySem.W.mcComb i j)) H
theorem cr_comb : CallR X (.builtin "math.comb") rComb := by
  intro pins s σ H vs us Q I r h
  obtain ⟨i, j, rfl, h0, h1, h2, h3, q⟩ := h
  obtain ⟨u, w', rfl, ⟨t, rfl⟩, ⟨t', rfl⟩⟩ := vals2 r
  exact PySem.call_function_meets PySem.W.MGF.kind_comb PySem.W.MGF.plain_comb PySem.W.MGF.entry_comb (PySem.W.MGF.args_comb _ _) (PySem.W.mc_gives_comb t t' h0 h1 (by omega) (.inl h3)).meets ⟨.int _, H, I.tok _, ⟨_, rfl⟩, q⟩
end
section
variable {σ : L2.St} {H : Hp} {Q : VK} {x y : V} {R : It → Hp → Prop}
theorem ap_shl : rShl x y H Q = ∃ (i : Int) (k : Nat), x = .int i ∧ y = .int (k : Int) ∧ CShl i (k : Int) ∧ Q (.int (i * 2 ^ k)) H := rfl
theorem ap_shr : rShr x y H Q = ∃ (i : Int) (k : Nat), x = .int i ∧ y = .int (k : Int) ∧ Q (.int (i / 2 ^ k)) H := rfl
theorem ap_mask : rMask x y H Q = ∃ (i : Int) (k : Nat), x = .int i ∧ y = .int (2 ^ k - 1) ∧ Q (.int (i % 2 ^ k)) H := rfl
theorem ap_comb {vs : List V} : rComb vs H Q = ∃ i j, vs = [.int i, .int j] ∧ 0 ≤ i ∧ 0 ≤ j ∧ i < 2 ^ 60 ∧ j ≤ 9000 ∧ Q (.int (PySem.W.mcComb i j)) H := rfl
theorem ap_bits {to : TE} : tBits to σ H Q = to σ H fun x H1 => ∃ i, x = .int i ∧ Q (.int (Builtin.Int.intBits i : Nat)) H1 := rfl
theorem ap_rng3 {ta : TA} : iRng3 ta σ H R = ta σ H fun vs H1 => ∃ (i j c : Int) (n : Nat), vs = [.int i, .int j, .int c] ∧ RgC i j c n ∧ R (Itc i c n) H1 := rfl
end
end Pr
/-! plain instances with one attribute; != by an own __eq__; str and len by own defs; isinstance with an own class -/
namespace Pr
open PySem PySem.Spec PyProof.Rows L2
theorem pe_imp {X : Cx} {e : Expr} {t t' : TE} (h : PE X e t) (i : ∀ σ H Q, t' σ H Q → t σ H Q) : PE X e t' := ⟨fun pins s σ H Q I q => h.run pins s σ H Q I (i σ H Q q)⟩
/-- its attributes: one -/
def FE (f : Str) (t : Addr) : List (Str × V) := [(f, .ref t)]
theorem FE_inj {f : Str} {t u : Addr} : FE f t = FE f u ↔ t = u := by
  unfold FE
  simp
theorem FE_at {f : Str} {t : Addr} : (FE f t).lookup f = some (.ref t) := by
  unfold FE
  simp [List.lookup]
theorem FE_put {f : Str} {t u : Addr} : putF f (.ref u) (FE f t) = FE f u := by
  unfold FE putF
  simp
end Pr
namespace PySem.W
open PySem PySem.Spec PySem.Calls PyProof.Rows
section
variable {prog : Program} {w : World} {A : Around} {E : Value → Shared → Prop} {s : Shared} {K : Frag} {x C f : Addr} {ox : Obj} {od : Option Obj}
theorem own_bound_B {M : Model} {name : Str} {id : String} {args : List Value} {Q : Option Value → Shared → Prop} (X : K.In s.heap) (I : InstAt s.heap x ox C od) (hs : findIn K (.ref C) name = some (some (.builtin id)))
    (hb : ∀ self, bindSpecial (.builtin id) self = pure (.builtin id, [self])) (h : wpAny M A (call (.builtin id) (.ref x :: args)) (fun v => Q (some v)) E s) : wpAny M A (callSpecialIfBound? (.ref x) name args) Q E s := by
  simp only [callSpecialIfBound?, bindSpecialIfBound?]
  refine wpAny_holding (wpAny_bind (wpAny_bind (wpAny_bind (I.type.here ((looks_findIn X hs).here ?_)))))
  refine wpAny_bind (wpAny_askSetting (wpAny_ite ?_))
  have fin : wpAny M A (call (.builtin id) ([.ref x] ++ args) >>= fun v => pure (some v)) Q E s := wpAny_bind (wpAny_mono h (fun v s' h' => wpAny_pure h') fun _ _ h' => h')
  split
  · exact wpAny_bind ((Looks.of_pure (hb _)).here (wpAny_pure (by exact fin)))
  · exact wpAny_tryCatch (wpAny_bind ((Looks.of_pure (hb _)).here (wpAny_pure (by exact fin))))
open Builtin in
theorem own_ne_call {b : Value} {Q : Value → Shared → Prop} (hu : A.in1.units < cLine) (X : K.In s.heap) (I : InstAt s.heap x ox C od) (hm : mroIn K C (.type "object") = some true)
    (hs : findIn K (.ref C) "__eq__" = some (some (.ref f))) (hf : isFn K (.ref f) = true)
    (h : wpAny (model prog w) A.in1 (call (.ref f) [.ref x, b]) (fun v s' => ∃ r, v = .bool r ∧ Q (.bool (!r)) s') E s) : wpAny (model prog w) A (call (.builtin "object.__ne__") [.ref x, b]) Q E s := by
  refine wpAny_call (codeAny_call_builtin PySem.F.slot_object_ne.plain PySem.F.entry_object_ne (check_slot (i := "object.__ne__") (owner := "object") (n := "__ne__") (by decide +kernel) (by decide +kernel) (I.type.andThen (looks_mroIn X hm)) (PySem.F.args_object_ne_2 _ _) ?_))
  unfold Builtin.«object.__ne__»
  refine wpAny_bind (m := slotArgs "__ne__" 1 _) (wpAny_pure ?_)
  refine wpAny_bind (m := cRoomFor _ _) (wpAny_cRoomFor hu ?_)
  refine wpAny_bind (m := callSpecialIfBound? (.ref x) (Str.ofString "__eq__") _) (ifBound_K X I hs hf (wpAny_mono h (fun r s' hq => ?_) fun _ _ y => y))
  obtain ⟨r, rfl, hq⟩ := hq
  refine wpAny_bind (m := truthy (.bool r)) (wpAny_pure ?_)
  exact wpAny_pure hq
/-- x != b by the == of x's class -/
theorem own_ne {b tb : Value} {Q : Value → Shared → Prop} {h₀ : Heap} {L : Addr} {m : Str → Option Value} (hu : A.units < cLine) (hu1 : A.in1.units < cLine) (F : Fr h₀ L s.heap m) (X₀ : K.In h₀) (I : InstAt s.heap x ox C od) (hb : Looks (model prog w) s.heap (typeOf b) tb) (hn : notFirst K C tb = true)
    (hm : mroIn K C (.type "object") = some true) (hne : findIn K (.ref C) "__ne__" = some (some (.builtin "object.__ne__"))) (hs : findIn K (.ref C) "__eq__" = some (some (.ref f))) (hf : isFn K (.ref f) = true)
    (h : wpAny (model prog w) A.in1 (call (.ref f) [.ref x, b]) (fun v s' => ∃ r, v = .bool r ∧ Q (.bool (!r)) s') E s) : wpAny (model prog w) A (richCompare .NotEq (.ref x) b) Q E s := by
  have X := X₀.keeps F.keep
  have one : wpAny (model prog w) A (tryCompare (.ref x) (cmpInfo .NotEq).2.1 b) (fun r s' => ∃ v, r = some v ∧ Q v s') E s := by
    unfold tryCompare
    refine wpAny_bind (own_bound_B (name := (cmpInfo .NotEq).2.1) X I hne (fun self => PySem.F.slot_object_ne.bind self) (own_ne_call hu1 X I hm hs hf (wpAny_mono h (fun v s' hv => ?_) fun _ _ e => e)))
    obtain ⟨r, rfl, hq⟩ := hv
    exact ⟨r, rfl, wpAny_pure ⟨_, rfl, hq⟩⟩
  unfold richCompare
  simp only [oneThing_ref]
  refine wpAny_holding (wpAny_bind (wpAny_cRoomFor hu ?_))
  refine wpAny_bind (I.type.here (wpAny_bind (hb.here ?_)))
  split
  · rename_i q
    have e : subIn K tb (.ref C) = some false := by
      rcases Bool.or_eq_true_iff.mp hn with e | e
      · rw [beq_iff_eq.mp e] at q; simp at q
      · exact beq_iff_eq.mp e
    refine wpAny_bind ((looks_subIn X e).here ?_)
    simp only [Bool.false_eq_true, if_false]
    refine wpAny_bind (wpAny_mono one (fun r s' z => ?_) fun _ _ e => e)
    obtain ⟨v, rfl, hq⟩ := z
    exact wpAny_pure hq
  · refine wpAny_bind (wpAny_pure ?_)
    simp only [Bool.false_eq_true, if_false]
    refine wpAny_bind (wpAny_mono one (fun r s' z => ?_) fun _ _ e => e)
    obtain ⟨v, rfl, hq⟩ := z
    exact wpAny_pure hq
end
end PySem.W
namespace Pr
open PySem PySem.Spec PyProof.Rows L2
/-! isinstance with an own class -/
/-- what the class at C must have -/
structure IsC (K : PySem.W.Frag) (C : Addr) : Prop where
  cl : Cls K C
  ha : PySem.W.findIn K (.ref C) "__class__" = some (some (.builtin "object.__class__"))
  hn : PySem.W.specialIn K (.builtin "object.__class__") "__get__" = some (some (.builtin "getset_descriptor.__get__"))
  ht : PySem.W.takesIn K (.builtin "object.__class__") = some true
  hm : PySem.W.mroIn K C (.type "object") = some true
  ty : PySem.W.typeIn K (.ref C) = some (.type "type")
  int : PySem.W.subIn K (.type "int") (.ref C) = some false
  tup : PySem.W.subIn K (.type "tuple") (.ref C) = some false
theorem kit_own {K : PySem.W.Frag} {C : Addr} {t : Value} {b : Bool} (i : IsC K C) (hs : PySem.W.subIn K t (.ref C) = some b) (hne : (t == Value.ref C) = false) : PySem.W.kitOne K t (.ref C) = some b := by
  obtain ⟨cd, hc, _⟩ := PySem.W.any_some i.cl.hd
  unfold PySem.W.kitOne PySem.W.kitCls
  rw [hne]
  show (if ((PySem.W.clsIn K C).isSome && PySem.W.typeIn K (Value.ref C) == some (Value.type "type")) = true then PySem.W.subIn K t (Value.ref C) else none) = some b
  rw [hc, i.ty]
  simp [hs]
/-- whether it is an instance of C -/
inductive ObjIs (C : Addr) (H : Hp) : V → Bool → Prop where
  | obj {p dx : Addr} {fs : List (Str × V)} (h : H p = some (.ins C dx fs)) : ObjIs C H (.ref p) true
  | int (n : Int) : ObjIs C H (.int n) false
  | tup {p : Addr} {xs : List V} (h : H p = some (.tup xs)) : ObjIs C H (.ref p) false
def rIsO (C : Addr) : List V → Hp → VK → Prop := fun xs H Q => ∃ x b, xs = [x, .ref C] ∧ ObjIs C H x b ∧ Q (.bl b) H
theorem cr_isO {X : Cx} {C : Addr} (i : IsC X.K C) : CallR X (.builtin "isinstance") (rIsO C) := callImp call_isi fun vs H Q ⟨x, b, e, o, q⟩ => by
  cases o with
  | @obj p dx fs h =>
    refine ⟨.ref p, .ref C, .ref C, .ref C, true, e, .own C, .base (.ins h i.cl i.ha i.hn i.ht i.hm), ?_, q⟩
    unfold PySem.W.kitOne
    simp
  | int n => exact ⟨.int n, .ref C, .type "int", .ref C, false, e, .own C, .base (.int n), kit_own i i.int rfl, q⟩
  | @tup p xs h => exact ⟨.ref p, .ref C, .type "tuple", .ref C, false, e, .own C, .base (.tup h), kit_own i i.tup rfl, q⟩
/-! a def run one or two calls deeper -/
section
variable {X : Cx} {CX : CXT} {k : Nat} {C g : Addr} {fd : FuncData} {ps : List Str} {sp : Sp} {E : XK} {pins : List (Addr × Obj)} {σ : L2.St} {H : Hp} {s : Shared} {Q : VK} {us : List Value} {vs : List V}
theorem run_in1 (F : FnOk X.prog X.w X.K X.mg X.base CX k g fd ps sp) (hr : Room (k + 1) X.A) (hb : Binds X.K fd ps []) (hx : Passes CX X E) (I : Inv X pins σ H s) (r : Vals vs us) (h : sp vs H Q E) :
    wpAny (model X.prog X.w) X.A.in1 (call (.ref g) us) (EP X pins σ Q) X.xe s := by
  have hl : us.length = ps.length := by
    rw [← F.len _ _ _ _ h]
    exact r.length.symm
  have hb' := hb s us I.kIn (by rw [List.append_nil]; exact hl)
  rw [List.append_nil] at hb'
  refine wpAny_call (codeAny_mono (F.run X.A.in1 X.stack s H ⟨us, []⟩ us vs Q E hr.in1 I.env0.in1 hb' r h) fun r s' hq => ?_)
  cases r with
  | error e => exact hx pins σ H s e s' I hq
  | ok fl =>
    cases fl with
    | ret u => exact I.after hq
    | next => exact False.elim hq
    | brk => exact False.elim hq
    | cont => exact False.elim hq
/-- x != y, both of the class at C, by its own == -/
def rNe (C : Addr) (sp : Sp) (E : XK) : R2 := fun x y H Q => ∃ a dx fs b dy gs, x = .ref a ∧ y = .ref b ∧ H a = some (.ins C dx fs) ∧ H b = some (.ins C dy gs) ∧ sp [x, y] H (fun v H' => ∃ r, v = .bl r ∧ Q (.bl (!r)) H') E
theorem op_neOwn (nf : PySem.W.notFirst X.K C (.ref C) = true) (hm : PySem.W.mroIn X.K C (.type "object") = some true) (hne : PySem.W.findIn X.K (.ref C) "__ne__" = some (some (.builtin "object.__ne__")))
    (at_ : PySem.W.findIn X.K (.ref C) "__eq__" = some (some (.ref g))) (fn : PySem.W.isFn X.K (.ref g) = true)
    (F : FnOk X.prog X.w X.K X.mg X.base CX k g fd ps sp) (room : Room (k + 1) X.A) (hb : Binds X.K fd ps []) (pass : Passes CX X E) : OpR X (compareOp .NotEq) (rNe C sp E) := by
  intro pins s σ H x y v u Q I rx ry h
  obtain ⟨a, dx, fs, b, dy, gs, rfl, rfl, ea, eb, q⟩ := h
  cases (show v = Value.ref a from rx)
  cases (show u = Value.ref b from ry)
  obtain ⟨_, O, _⟩ := ins_get I.hok ea
  obtain ⟨_, J, _⟩ := O.look
  obtain ⟨_, O2, _⟩ := ins_get I.hok eb
  obtain ⟨_, J2, _⟩ := O2.look
  obtain ⟨m, fr⟩ := I.fr
  show wpAny _ _ (richCompare .NotEq (.ref a) (.ref b)) _ _ _
  refine PySem.W.own_ne (tb := .ref C) room.units0 room.in1.units0 fr I.ok.mod.kin J J2.type nf hm hne at_ fn (wpAny_mono (run_in1 (vs := [.ref a, .ref b]) (us := [.ref a, .ref b]) F room hb pass I (.cons rfl (.cons rfl .nil)) q) (fun z s' r => ?_) fun _ _ e => e)
  obtain ⟨z', H', I', rz, b', rfl, qz⟩ := r
  refine ⟨b', rz, .bl (!b'), H', I', rfl, qz⟩
end
/-- o.f, the one attribute -/
def tAtt (C : Addr) (f : Str) (ta : TE) : TE := fun σ H Q => ta σ H fun x H1 => ∃ p dx t, x = .ref p ∧ H1 p = some (.ins C dx (FE f t)) ∧ Q (.ref t) H1
theorem pe_att {X : Cx} {C : Addr} {e : Expr} {f : Str} {pos : Pos} {ta : TE} (h : PE X (.Attribute e f pos) (tFld X.K ta f)) (mono : ∀ σ H (Q Q' : VK), (∀ x H1, Q x H1 → Q' x H1) → ta σ H Q → ta σ H Q') (cl : Cls X.K C) (no : NoAttr X.K C f) : PE X (.Attribute e f pos) (tAtt C f ta) :=
  pe_imp h fun σ H Q q => mono σ H _ _ (fun x H1 ⟨p, dx, t, ex, hp, q1⟩ => ⟨p, C, dx, FE f t, .ref t, ex, hp, cl, no, FE_at, q1⟩) q
section
variable {σ : L2.St} {H : Hp} {Q : VK} {C : Addr} {f : Str} {good : List Int → Prop}
theorem ap_att {ta : TE} : tAtt C f ta σ H Q = ta σ H fun x H1 => ∃ p dx t, x = .ref p ∧ H1 p = some (.ins C dx (FE f t)) ∧ Q (.ref t) H1 := rfl
theorem ap_prop {sp : Sp} {dvs : List V} {E : XK} {ta : TE} : tProp C sp dvs E ta σ H Q = ta σ H fun x H1 => ∃ a dx fs, x = .ref a ∧ H1 a = some (.ins C dx fs) ∧ sp (.ref a :: dvs) H1 Q E := rfl
theorem ap_isO {vs : List V} : rIsO C vs H Q = ∃ x b, vs = [x, .ref C] ∧ ObjIs C H x b ∧ Q (.bl b) H := rfl
theorem ap_bin {sp : Sp} {E : XK} {x y : V} : rBin C sp E x y H Q = ∃ a dx fs b dy gs, x = .ref a ∧ y = .ref b ∧ H a = some (.ins C dx fs) ∧ H b = some (.ins C dy gs) ∧ sp [x, y] H Q E := rfl
theorem ap_ne {sp : Sp} {E : XK} {x y : V} : rNe C sp E x y H Q = ∃ a dx fs b dy gs, x = .ref a ∧ y = .ref b ∧ H a = some (.ins C dx fs) ∧ H b = some (.ins C dy gs) ∧ sp [x, y] H (fun v H' => ∃ r, v = .bl r ∧ Q (.bl (!r)) H') E := rfl
theorem ap_meth {C : Addr} {m : Str} {sp : Sp} {dvs : List V} {E : XK} {ta : TE} {t : TA} : tMeth C m sp dvs E ta t σ H Q = ta σ H fun x H1 => ∃ a dx fs, x = .ref a ∧ H1 a = some (.ins C dx fs) ∧ fs.lookup m = none ∧ t σ H1 fun vs H2 => sp (x :: (vs ++ dvs)) H2 Q E := rfl
end
end Pr
namespace Pr
open PySem PySem.Spec PyProof.Rows L2
/-- what comes of C(..) with the values vs -/
def NewV (C : Addr) (sp : Sp) (dvs : List V) (E : XK) (vs : List V) (H1 : Hp) (Q : VK) : Prop := ∀ x dx, H1 x = none → H1 dx = none → dx ≠ x →
  sp (.ref x :: (vs ++ dvs)) (upd (upd H1 dx (.own x)) x (.ins C dx [])) (fun v H2 => v = .non ∧ Q (.ref x) H2) E
theorem ap_make {σ : L2.St} {H : Hp} {Q : VK} {C : Addr} {sp : Sp} {dvs : List V} {E : XK} {t : TA} : tMake C sp dvs E t σ H Q = t σ H fun vs H1 => NewV C sp dvs E vs H1 Q := rfl
theorem ins_inj {C D dx dy : Addr} {fs gs : List (Str × V)} : HO.ins C dx fs = HO.ins D dy gs ↔ C = D ∧ dx = dy ∧ fs = gs := by
  constructor
  · intro h
    cases h
    exact ⟨rfl, rfl, rfl⟩
  · rintro ⟨rfl, rfl, rfl⟩
    rfl
theorem mono_var {i : Nat} (σ : L2.St) (H : Hp) (Q Q' : VK) (h : ∀ x H1, Q x H1 → Q' x H1) (q : tVar i σ H Q) : tVar i σ H Q' := let ⟨v, e, z⟩ := q; ⟨v, e, h _ _ z⟩
end Pr
/-! slices and sums of tuples of ints, whole ones too -/
namespace Pr
open PySem PySem.Spec PyProof.Rows L2
section
variable {X : Cx}
def cutI (ns : List Int) (lo hi : Option Int) : List Int := (ns.drop (HT.sIx ns.length 0 lo)).take (HT.sIx ns.length ns.length hi - HT.sIx ns.length 0 lo)
theorem cut_map (ns : List Int) (lo hi : Option Int) : cutV (ns.map V.int) lo hi = (cutI ns lo hi).map V.int := by
  unfold cutV cutI
  rw [List.map_take, List.map_drop, List.length_map]
theorem cut_drop (ns : List Int) (k : Nat) : cutI ns (some (k : Int)) none = ns.drop k := by
  unfold cutI
  rw [HT.sIx_nat, HT.sIx_none]
  by_cases h : k ≤ ns.length
  · rw [Nat.min_eq_left h, List.take_of_length_le (by rw [List.length_drop]; omega)]
  · rw [Nat.min_eq_right (by omega), List.drop_length, List.drop_of_length_le (by omega)]
    simp
def rSlI : V → Option Int → Option Int → Hp → VK → Prop := fun x lo hi H Q => ∃ a, x = .ref a ∧ ∃ ns, H a = some (TI ns) ∧ ∀ r H', Same H H' → H' r = some (TI (cutI ns lo hi)) → Q (.ref r) H'
theorem slImp {r r' : V → Option Int → Option Int → Hp → VK → Prop} (h : SlR X r) (i : ∀ x lo hi H Q, r' x lo hi H Q → r x lo hi H Q) : SlR X r' :=
  fun pins s σ H x v vl vu lo hi sl Q I rx hs pl pu q => h pins s σ H x v vl vu lo hi sl Q I rx hs pl pu (i _ _ _ _ _ q)
theorem sl_tupI : SlR X rSlI := slImp sl_tupA fun x lo hi H Q ⟨a, ex, ns, ha, q⟩ => by
  refine ⟨a, ns.map V.int, ex, .inl (.inl ha), fun hw => ?_, fun _ p np => ?_⟩
  · refine q a H (fun _ _ h => h) ?_
    have e : cutI ns lo hi = ns := by
      rw [List.length_map] at hw
      unfold cutI
      rw [hw.1, hw.2, List.drop_zero, Nat.sub_zero, List.take_length]
    rw [e]
    exact ha
  · refine q p _ (fun b o e => by rw [upd_ne (ne_of_none e np)]; exact e) ?_
    rw [upd_same, cut_map]
def rCatI : R2 := fun x y H Q => ∃ a b, x = .ref a ∧ y = .ref b ∧ ∃ ns, H a = some (TI ns) ∧ ∃ ms, H b = some (TI ms) ∧ ns.length + ms.length ≤ 10000 ∧ ∀ r H', Same H H' → H' r = some (TI (ns ++ ms)) → Q (.ref r) H'
end
section
variable {σ : L2.St} {H : Hp} {Q : VK} {x y : V} {lo hi : Option Int}
theorem ap_slI : rSlI x lo hi H Q = ∃ a, x = .ref a ∧ ∃ ns, H a = some (TI ns) ∧ ∀ r H', Same H H' → H' r = some (TI (cutI ns lo hi)) → Q (.ref r) H' := rfl
theorem ap_catI : rCatI x y H Q = ∃ a b, x = .ref a ∧ y = .ref b ∧ ∃ ns, H a = some (TI ns) ∧ ∃ ms, H b = some (TI ms) ∧ ns.length + ms.length ≤ 10000 ∧ ∀ r H', Same H H' → H' r = some (TI (ns ++ ms)) → Q (.ref r) H' := rfl
end
end Pr
/-! perm -/
namespace Pr
open PySem PySem.Spec PyProof.Rows L2
section
variable {X : Cx}
def rPerm : List V → Hp → VK → Prop := fun vs H Q => ∃ i j, vs = [.int i, .int j] ∧ 0 ≤ i ∧ 0 ≤ j ∧ i < 2 ^ 60 ∧ j ≤ 9000 ∧ Q (.int (PySem.W.mcPerm i j)) H
theorem cr_perm : CallR X (.builtin "math.perm") rPerm := by
  intro pins s σ H vs us Q I r h
  obtain ⟨i, j, rfl, h0, h1, h2, h3, q⟩ := h
  obtain ⟨u, w', rfl, ⟨t, rfl⟩, ⟨t', rfl⟩⟩ := vals2 r
  exact PySem.call_function_meets PySem.W.MGF.kind_perm PySem.W.MGF.plain_perm PySem.W.MGF.entry_perm (PySem.W.MGF.args_perm _ _) (PySem.W.mc_gives_perm t t' h0 h1 (by omega) (by omega)).meets ⟨.int _, H, I.tok _, ⟨_, rfl⟩, q⟩
end
theorem ap_perm {vs : List V} {H : Hp} {Q : VK} : rPerm vs H Q = ∃ i j, vs = [.int i, .int j] ∧ 0 ≤ i ∧ 0 ≤ j ∧ i < 2 ^ 60 ∧ j ≤ 9000 ∧ Q (.int (PySem.W.mcPerm i j)) H := rfl
/-- the product of k numbers from n down -/
def fall (n : Nat) : Nat → Nat
  | 0 => 1
  | k + 1 => fall n k * (n - k)
theorem fall_fp (n : Nat) : ∀ k, k ≤ n → Builtin.Math.fallingProduct (n : Int) k = (fall n k : Int)
  | 0, _ => rfl
  | k + 1, h => by
    rw [PySem.W.mc_fp_succ, fall_fp n k (by omega)]
    show _ = ((fall n k * (n - k) : Nat) : Int)
    rw [Int.natCast_mul]
    congr 1
    omega
theorem perm_fall {n k : Nat} (h : k ≤ n) : PySem.W.mcPerm (n : Int) (k : Int) = (fall n k : Int) := by
  rw [PySem.W.mcPerm_at (by omega), Int.toNat_natCast, fall_fp n k h]
theorem fall_le (n : Nat) : ∀ k, fall n k ≤ n ^ k
  | 0 => Nat.le_refl 1
  | k + 1 => by
    show fall n k * (n - k) ≤ n ^ k * n
    exact Nat.mul_le_mul (fall_le n k) (Nat.sub_le n k)
end Pr
namespace Pr
open PySem PySem.Spec PyProof.Rows L2
/-! classmethods read off a class; any of a list of truth values -/
theorem _root_.L2.FnOk.rawN {P : Program} {w : World} {K : PySem.W.Frag} {mg : Str → Option Value} {base : Heap} {CX : CXT} {k : Nat} {f : Addr} {fd : FuncData} {ps : List Str} {sp : Sp}
    (F : FnOk P w K mg base CX k f fd ps sp) (hb : Binds K fd ps []) : FnR P w K mg base CX k f sp :=
  (F.raw hb .nil).imp fun vs H Q E h => by rw [List.append_nil]; exact h
theorem ap_cm {C : Addr} {sp : Sp} {E : XK} {ta : TE} {t : TA} {σ : L2.St} {H : Hp} {Q : VK} : ClX.tCMeth C sp E ta t σ H Q = ta σ H fun x H1 => x = .ref C ∧ t σ H1 fun vs H2 => sp (.ref C :: vs) H2 Q E := rfl
end Pr
/-! len(o), list(o), str(o) of plain instances by own defs; iter of a tuple; repr of a bool; o != t, t a tuple -/
namespace PySem.W
open PySem PySem.Spec PySem.Calls PyProof.Rows
end PySem.W
namespace Pr
open PySem PySem.Spec PyProof.Rows L2
section
variable {X : Cx} {CX : CXT} {k : Nat} {C g : Addr} {fd : FuncData} {ps : List Str} {sp : Sp} {E : XK} {pins : List (Addr × Obj)} {σ : L2.St} {H : Hp} {s : Shared} {Q : VK} {us : List Value} {vs : List V}
/-! ### len(o) -/
def rLenO (C : Addr) (sp : Sp) (E : XK) : List V → Hp → VK → Prop := fun xs H Q => ∃ a dx fs, xs = [.ref a] ∧ H a = some (.ins C dx fs) ∧ sp [.ref a] H (fun v H' => ∃ n : Nat, v = .int n ∧ n < 1000000 ∧ Q (.int n) H') E
/-! ### str(o) -/
def rStrO (C : Addr) (sp : Sp) (E : XK) : List V → Hp → VK → Prop := fun xs H Q => ∃ a dx fs, xs = [.ref a] ∧ H a = some (.ins C dx fs) ∧ sp [.ref a] H (fun v H' => ∃ z, v = .str z ∧ Q (.str z) H') E
/-! ### repr of a bool -/
def rReprB : List V → Hp → VK → Prop := fun xs H Q => ∃ b, xs = [.bl b] ∧ Q (.str (if b then "True" else "False")) H
end
/-! ### o != t, t a tuple, by the own == -/
section
variable {X : Cx} {CX : CXT} {k : Nat} {C g : Addr} {fd : FuncData} {ps : List Str} {sp : Sp} {E : XK}
def rNeT (C : Addr) (sp : Sp) (E : XK) : R2 := fun x y H Q => ∃ a dx fs b xs, x = .ref a ∧ y = .ref b ∧ H a = some (.ins C dx fs) ∧ H b = some (.tup xs) ∧ sp [x, y] H (fun v H' => ∃ r, v = .bl r ∧ Q (.bl (!r)) H') E
end
end Pr
/-! iter(t), t a tuple; list(o) of an instance whose own __iter__ gives the iterator of a tuple, and whose own __len__ tells its length -/
namespace Pr
open PySem PySem.Spec PyProof.Rows L2
/-- at it an iterator over the tuple at t, i items are drawn -/
def TtO (t it : Addr) (i : Nat) : HO := .ext fun h => h.IsTupleIter it t i
section
variable {X : Cx}
def rIterT : List V → Hp → VK → Prop := fun xs H Q => ∃ l, xs = [.ref l] ∧ ∃ zs, H l = some (.tup zs) ∧ ∀ it, H it = none → Q (.ref it) (upd H it (TtO l it 0))
end
section
variable {X : Cx} {pins : List (Addr × Obj)} {σ : L2.St} {H : Hp} {s : Shared} {C fi fl a q t it : Addr} {fdI fdL : FuncData} {psI psL : List Str} {A1 : Around} {f : Str} {n : Nat}
/-- list(o) -/
def rListO (C : Addr) (f : Str) : List V → Hp → VK → Prop := fun xs H Q => ∃ a dx t ys, xs = [.ref a] ∧ H a = some (.ins C dx (FE f t)) ∧ H t = some (.tup ys) ∧ ys.length < 1000000 ∧ ∀ q, H q = none → Q (.ref q) (upd H q (.lst ys))
end
section
variable {X : Cx}
/-- xs + ys, two lists -/
def rCatL : R2 := fun x y H Q => ∃ p q, x = .ref p ∧ y = .ref q ∧ ∃ xs, H p = some (.lst xs) ∧ ∃ ys, H q = some (.lst ys) ∧ xs.length + ys.length < 1000000 ∧ ∀ l, H l = none → Q (.ref l) (upd H l (.lst (xs ++ ys)))
/-- (n,) * k -/
def rRepTI : R2 := fun x y H Q => ∃ l k, x = .ref l ∧ y = .int k ∧ ∃ n, H l = some (TI [n]) ∧ 2 ≤ k ∧ k ≤ 1000 ∧ ∀ p, H p = none → Q (.ref p) (upd H p (TI (List.replicate k.toNat n)))
theorem op_repTI : OpR X (binaryOp .Mult) rRepTI := opImp op_repT fun x y H Q ⟨l, k, ex, ey, n, hl, h0, h1, q⟩ =>
  ⟨l, k, [V.int n], ex, ey, .inl (.inl hl), by simp, h0, h1, by simp, fun p hp => by
    rw [flat_rep]
    exact q p hp⟩
end
section
variable {σ : L2.St} {H : Hp} {Q : VK} {C : Addr} {f : Str} {sp : Sp} {E : XK} {vs : List V}
theorem ap_repTI {x y : V} : rRepTI x y H Q = ∃ l k, x = .ref l ∧ y = .int k ∧ ∃ n, H l = some (TI [n]) ∧ 2 ≤ k ∧ k ≤ 1000 ∧ ∀ p, H p = none → Q (.ref p) (upd H p (TI (List.replicate k.toNat n))) := rfl
theorem ap_lenO : rLenO C sp E vs H Q = ∃ a dx fs, vs = [.ref a] ∧ H a = some (.ins C dx fs) ∧ sp [.ref a] H (fun v H' => ∃ n : Nat, v = .int n ∧ n < 1000000 ∧ Q (.int n) H') E := rfl
theorem ap_strO : rStrO C sp E vs H Q = ∃ a dx fs, vs = [.ref a] ∧ H a = some (.ins C dx fs) ∧ sp [.ref a] H (fun v H' => ∃ z, v = .str z ∧ Q (.str z) H') E := rfl
theorem ap_listO : rListO C f vs H Q = ∃ a dx t ys, vs = [.ref a] ∧ H a = some (.ins C dx (FE f t)) ∧ H t = some (.tup ys) ∧ ys.length < 1000000 ∧ ∀ q, H q = none → Q (.ref q) (upd H q (.lst ys)) := rfl
theorem ap_reprB : rReprB vs H Q = ∃ b, vs = [.bl b] ∧ Q (.str (if b then "True" else "False")) H := rfl
theorem ap_iterT : rIterT vs H Q = ∃ l, vs = [.ref l] ∧ ∃ zs, H l = some (.tup zs) ∧ ∀ it, H it = none → Q (.ref it) (upd H it (TtO l it 0)) := rfl
theorem ap_neT {x y : V} : rNeT C sp E x y H Q = ∃ a dx fs b xs, x = .ref a ∧ y = .ref b ∧ H a = some (.ins C dx fs) ∧ H b = some (.tup xs) ∧ sp [x, y] H (fun v H' => ∃ r, v = .bl r ∧ Q (.bl (!r)) H') E := rfl
theorem ap_negO {x : V} : rNeg C sp E x H Q = ∃ a dx fs, x = .ref a ∧ H a = some (.ins C dx fs) ∧ sp [x] H Q E := rfl
theorem ap_binI {x y : V} : rBinI C sp E x y H Q = ∃ a dx fs n, x = .ref a ∧ y = .int n ∧ H a = some (.ins C dx fs) ∧ sp [x, y] H Q E := rfl
theorem ap_catL {x y : V} : rCatL x y H Q = ∃ p q, x = .ref p ∧ y = .ref q ∧ ∃ xs, H p = some (.lst xs) ∧ ∃ ys, H q = some (.lst ys) ∧ xs.length + ys.length < 1000000 ∧ ∀ l, H l = none → Q (.ref l) (upd H l (.lst (xs ++ ys))) := rfl
theorem ap_tM1 {r : V → List V → Hp → VK → Prop} {to te : TE} : tM1 r to te σ H Q = to σ H fun x H1 => (∃ a, x = .str a) ∧ te σ H1 fun y H2 => r x [y] H2 Q := rfl
end
end Pr
/-! list.count of a tuple of ints in a list of such; `in`, set and sorted of tuples of ints -/
namespace Pr
open PySem PySem.Spec PyProof.Rows L2
/-- the tuples of ints at these places -/
def RowsAt (H : Hp) (rs : List Addr) (nss : List (List Int)) : Prop := rs.length = nss.length ∧ ∀ (i : Nat) (r : Addr) (ns : List Int), rs[i]? = some r → nss[i]? = some ns → H r = some (TI ns)
theorem RowsAt.same {H H' : Hp} {rs : List Addr} {nss : List (List Int)} (h : RowsAt H rs nss) (s : Same H H') : RowsAt H' rs nss := ⟨h.1, fun i r ns e1 e2 => s _ _ (h.2 i r ns e1 e2)⟩
theorem RowsAt.nil {H : Hp} : RowsAt H [] [] := ⟨rfl, fun i r ns e => by simp at e⟩
theorem RowsAt.cons {H : Hp} {r : Addr} {rs : List Addr} {n : List Int} {nss : List (List Int)} (h0 : H r = some (TI n)) (h : RowsAt H rs nss) : RowsAt H (r :: rs) (n :: nss) := by
  refine ⟨by simp [h.1], fun i => ?_⟩
  match i with
  | 0 => intro r' ns e1 e2; simp at e1 e2; subst e1 e2; exact h0
  | i + 1 => intro r' ns e1 e2; exact h.2 i r' ns (by simpa using e1) (by simpa using e2)
section
variable {X : Cx}
/-- xs.count(t), tuples of ints -/
def rCountT : V → List V → Hp → VK → Prop := fun x xs H Q => ∃ (a : Addr) (y : Addr), x = V.ref a ∧ xs = [.ref y] ∧ ∃ rs nss ns, H a = some (.lst (rs.map V.ref)) ∧ RowsAt H rs nss ∧ H y = some (TI ns) ∧ Q (.int ((nss.count ns : Nat))) H
/-- t not in xs -/
def rNotInT : R2 := fun x y H Q => ∃ (t a : Addr), x = .ref t ∧ y = .ref a ∧ ∃ rs nss ns, H a = some (.lst (rs.map V.ref)) ∧ RowsAt H rs nss ∧ H t = some (TI ns) ∧ Q (.bl (!decide (ns ∈ nss))) H
/-- [v] * k -/
def rRepL1 : R2 := fun x y H Q => ∃ l k, x = .ref l ∧ y = .int k ∧ ∃ v, H l = some (.lst [v]) ∧ k < 1000000 ∧ -1000000 < k ∧ ∀ p, H p = none → Q (.ref p) (upd H p (.lst (List.replicate k.toNat v)))
end
section
variable {σ : L2.St} {H : Hp} {Q : VK} {K : PySem.W.Frag} {P : Program} {w : World}
theorem ap_countT {x : V} {xs : List V} : rCountT x xs H Q = ∃ (a : Addr) (y : Addr), x = V.ref a ∧ xs = [.ref y] ∧ ∃ rs nss ns, H a = some (.lst (rs.map V.ref)) ∧ RowsAt H rs nss ∧ H y = some (TI ns) ∧ Q (.int ((nss.count ns : Nat))) H := rfl
theorem ap_notInT {x y : V} : rNotInT x y H Q = ∃ (t a : Addr), x = .ref t ∧ y = .ref a ∧ ∃ rs nss ns, H a = some (.lst (rs.map V.ref)) ∧ RowsAt H rs nss ∧ H t = some (TI ns) ∧ Q (.bl (!decide (ns ∈ nss))) H := rfl
theorem ap_repL1 {x y : V} : rRepL1 x y H Q = ∃ l k, x = .ref l ∧ y = .int k ∧ ∃ v, H l = some (.lst [v]) ∧ k < 1000000 ∧ -1000000 < k ∧ ∀ p, H p = none → Q (.ref p) (upd H p (.lst (List.replicate k.toNat v))) := rfl
end
end Pr
/-! sorted(s), s a set of pairs of ints of any sign -/
namespace Pr
open PySem PySem.Spec PyProof.Rows L2
end Pr
namespace Pr
open PySem PySem.Spec PyProof.Rows L2
/-- the number that a value is -/
def intOf : Value → Option Int
  | .int i _ => some i
  | _ => none
theorem vals_ints : ∀ {us : List Value} {ns : List Int}, us.map intOf = ns.map some → Vals (ns.map V.int) us
  | [], [], _ => .nil
  | u :: us, n :: ns, h => by
    rw [List.map_cons, List.map_cons, List.cons.injEq] at h
    refine .cons ?_ (vals_ints h.2)
    match u, h.1 with
    | .int i t, e =>
      have e : some i = some n := e
      cases e
      exact ⟨_, rfl⟩
theorem sqT_const {K : PySem.W.Frag} {H : Hp} {a : Addr} {d : Option Addr} {its : Array Value} {n : Nat} {sl : Array (Option Value)} {ns : List Int} (l : K.lookup a = some ⟨.type "tuple", d, .seq its n, sl⟩) (e : its.toList.map intOf = ns.map some) (hs : ns.length ≤ sizeLine) : SqT K H a (ns.map V.int) := by
  refine .inr ⟨_, its, n, l, rfl, rfl, ?_, vals_ints e⟩
  have := congrArg List.length e
  rw [List.length_map, List.length_map, Array.length_toList] at this
  omega
section
variable {X : Cx}
/-- t + u, two tuples of anything that are not empty -/
def rCatTT : R2 := fun x y H Q => ∃ a b, x = .ref a ∧ y = .ref b ∧ ∃ xs, H a = some (.tup xs) ∧ ∃ ys, H b = some (.tup ys) ∧ xs ≠ [] ∧ ys ≠ [] ∧ xs.length + ys.length < 1000000 ∧ ∀ p, H p = none → Q (.ref p) (upd H p (.tup (xs ++ ys)))
/-- xs.pop(i) for a place within the list -/
def rPopN : V → List V → Hp → VK → Prop := fun x vs H Q => ∃ l xs, ∃ i : Int, x = .ref l ∧ vs = [.int i] ∧ 0 ≤ i ∧ H l = some (.lst xs) ∧ xs.length < 1000000 ∧ ∃ y, xs[i.toNat]? = some y ∧ Q y (upd H l (.lst (xs.eraseIdx i.toNat)))
end
section
variable {σ : L2.St} {H : Hp} {Q : VK} {K : PySem.W.Frag} {P : Program} {w : World}
theorem ap_par3 {i j l : Nat} {ta : TA} {D : Ends} : tPar3 i j l ta D σ H = ta σ H (fun vs H1 => ∃ u v w, vs = [u, v, w] ∧ D.nx (((σ.set i (some u)).set j (some v)).set l (some w)) H1) := rfl
theorem ap_catTT {x y : V} : rCatTT x y H Q = ∃ a b, x = V.ref a ∧ y = V.ref b ∧ ∃ xs, H a = some (.tup xs) ∧ ∃ ys, H b = some (.tup ys) ∧ xs ≠ [] ∧ ys ≠ [] ∧ xs.length + ys.length < 1000000 ∧ ∀ p, H p = none → Q (.ref p) (upd H p (.tup (xs ++ ys))) := rfl
theorem ap_popN {x : V} {vs : List V} : rPopN x vs H Q = ∃ l xs, ∃ i : Int, x = V.ref l ∧ vs = [V.int i] ∧ 0 ≤ i ∧ H l = some (.lst xs) ∧ xs.length < 1000000 ∧ ∃ y, xs[i.toNat]? = some y ∧ Q y (upd H l (.lst (xs.eraseIdx i.toNat))) := rfl
end
end Pr
/-! (n,) * k for k from 1 on: once is the tuple itself -/
namespace Pr
open PySem PySem.Spec PyProof.Rows L2
theorem tuple_mul1 (l : Addr) (items : Array Value) (n : Nat) (dd : Option Addr) (sl : Array (Option Value)) (u : Tok) :
    Meets (Builtin.«tuple.__mul__» ⟨[.ref l, .int 1 u], []⟩) (fun _ R s => s.heap.get? l = some { cls := .type "tuple", dict := dd, data := .seq items n, slots := sl } ∧
      R (.ok (.ret (Value.ref l))) s) :=
  .of_wp fun prog w A R s h => by
    obtain ⟨hp, g, d, tk, os⟩ := s
    obtain ⟨hl, h⟩ := h
    have f1 := AutoSeq1.idx_int
    wp_walk using wpAny_loadPart' hl
    exact ⟨_, rfl, h⟩
section
variable {X : Cx}
/-- t * k of a tuple of one int -/
def rRepTA : R2 := fun x y H Q => ∃ l k, x = .ref l ∧ y = .int k ∧ ∃ n, H l = some (TI [n]) ∧ 1 ≤ k ∧ k ≤ 1000 ∧ ∀ p H', Same H H' → H' p = some (TI (List.replicate k.toNat n)) → Q (.ref p) H'
theorem op_repTA : OpR X (binaryOp .Mult) rRepTA := by
  intro pins s σ H x y v u Q I rx ry h
  obtain ⟨l, k, rfl, rfl, n, hl, h1, h2, q⟩ := h
  by_cases hk : k = 1
  · subst hk
    cases rx
    obtain ⟨t, rfl⟩ := ry
    obtain ⟨its, r, ⟨⟨cls, dd, data, sl⟩, ho, hc, m, hd⟩, hs⟩ := I.tuple (.inl (.inl hl))
    simp only at hc hd
    subst hc hd
    refine wpAny_binaryOp_repeat_ref (T := "tuple") (U := "int") (by decide) ⟨_, ho, rfl⟩ (fun s' => typeIs_int s' 1 t) noFill_tuple_mul F.fills_int_mul F.slot_int_rmul repeat_tuple F.slot_int_index.lookup
      (call_meets F.slot_int_rmul (typeIs_int s 1 t) F.entry_int_rmul (F.args_int_rmul_2 _ _) (int_rmul_tuple 1 t l its.toArray m dd sl)
        ⟨ho, rfl, ⟨_, ho, rfl⟩, call_meets F.slot_tuple_mul ⟨_, ho, rfl⟩ F.entry_tuple_mul (F.args_tuple_mul_2 _ _) (tuple_mul1 l its.toArray m dd sl t) ⟨ho, ?_⟩⟩)
    exact ⟨.ref l, H, I, rfl, q l H (Same.refl H) hl⟩
  · refine op_repTI pins s σ H (.ref l) (.int k) v u Q I rx ry ⟨l, k, rfl, rfl, n, hl, by omega, h2, fun p hp => q p _ (same_upd hp) upd_same⟩
end
theorem ap_repTA {x y : V} {H : Hp} {Q : VK} : rRepTA x y H Q = ∃ l k, x = .ref l ∧ y = .int k ∧ ∃ n, H l = some (TI [n]) ∧ 1 ≤ k ∧ k ≤ 1000 ∧ ∀ p H', Same H H' → H' p = some (TI (List.replicate k.toNat n)) → Q (.ref p) H' := rfl
end Pr
/-! instances with several attributes; a class that a local name holds, called -/
namespace Pr
open PySem PySem.Spec PyProof.Rows L2
/-- o.f, one of several attributes -/
def tAttF (C : Addr) (f : Str) (ta : TE) : TE := fun σ H Q => ta σ H fun x H1 => ∃ p dx fs, x = .ref p ∧ H1 p = some (.ins C dx fs) ∧ ∃ v, fs.lookup f = some v ∧ Q v H1
theorem pe_attF {X : Cx} {C : Addr} {e : Expr} {f : Str} {pos : Pos} {ta : TE} (h : PE X (.Attribute e f pos) (tFld X.K ta f)) (mono : ∀ σ H (Q Q' : VK), (∀ x H1, Q x H1 → Q' x H1) → ta σ H Q → ta σ H Q') (cl : Cls X.K C) (no : NoAttr X.K C f) : PE X (.Attribute e f pos) (tAttF C f ta) :=
  pe_imp h fun σ H Q q => mono σ H _ _ (fun x H1 ⟨p, dx, fs, ex, hp, v, hv, q1⟩ => ⟨p, C, dx, fs, v, ex, hp, cl, no, hv, q1⟩) q
theorem ap_attF {C : Addr} {f : Str} {ta : TE} {σ : L2.St} {H : Hp} {Q : VK} : tAttF C f ta σ H Q = ta σ H fun x H1 => ∃ p dx fs, x = .ref p ∧ H1 p = some (.ins C dx fs) ∧ ∃ v, fs.lookup f = some v ∧ Q v H1 := rfl
/-- the i-th slot holds the class at C, which is called -/
def tMakeL (i : Nat) (C : Addr) (sp : Sp) (dvs : List V) (E : XK) (t : TA) : TE := fun σ H Q => σ[i]? = some (some (.ref C)) ∧ tMake C sp dvs E t σ H Q
section
variable {X : Cx} {CX : CXT} {k i : Nat} {f C : Addr} {fd : FuncData} {ps : List Str} {sp : Sp} {dvs : List V} {ds : List Value} {E : XK} {x : Str} {p pos : Pos} {e : Expr} {es : List Expr} {t : TA}
theorem pe_makeL (M : Mk X.K C f) (F : FnOk X.prog X.w X.K X.mg X.base CX k f fd ps sp) (room : Room (k + 1) X.A) (nm : X.N[i]? = some x) (vis : Vis X.env.scope x) (bind : Binds X.K fd ps ds) (dflt : Vals dvs ds) (pass : Passes CX X E) (ha : PA X (e :: es) t)
    (hdb : (x == ("__debug__" : Str)) = false := by decide) (hcd : (x == ("__classdict__" : Str)) = false := by decide)
    (he : starEach (e :: es) X.env = (false, eval e X.env) :: starEach es X.env := by rfl) (hpl : (backTo pos (starEach es X.env)).any (·.1) = false := by rfl) : PE X (.Call (.Name x p) (e :: es) [] pos) (tMakeL i C sp dvs E t) :=
  ⟨fun pins s σ H Q I h => wpAny_Call_Name_kw (thn ((pe_var (pos := p) nm vis hdb hcd).run pins s σ H (fun v H1 => v = .ref C ∧ H1 = H) I ⟨.ref C, h.1, rfl, rfl⟩) fun u s1 ⟨v, H1, I1, r1, q1⟩ => by
    obtain ⟨ev, eH⟩ := q1
    subst ev eH
    have eu : u = Value.ref C := r1
    subst eu
    exact PySem.W.callWith_K (h₀ := X.base) I1.ok.mod.kin M.kp (thn (ha.run pos pins s1 σ _ _ I1 h.2) fun us s2 ⟨vs, H2, I2, r, q⟩ => ⟨I2.kIn, run_make M F room bind dflt pass I2 r q⟩) he hpl)⟩
end
theorem ap_makeL {i : Nat} {C : Addr} {sp : Sp} {dvs : List V} {E : XK} {t : TA} {σ : L2.St} {H : Hp} {Q : VK} : tMakeL i C sp dvs E t σ H Q = (σ[i]? = some (some (.ref C)) ∧ tMake C sp dvs E t σ H Q) := rfl
end Pr
namespace Pr
open PySem PySem.Spec PyProof.Rows L2
section
variable {X : Cx}
theorem op_isNotB : OpR X (compareOp .IsNot) (fun x y H Q => ∃ a b, x = .bl a ∧ y = .bl b ∧ Q (.bl (!decide (a = b))) H) := by
  intro pins s σ H x y v u Q I rx ry h
  obtain ⟨a, b, rfl, rfl, q⟩ := h
  cases (show v = Value.bool a from rx)
  cases (show u = Value.bool b from ry)
  refine wpAny_isNot_plain rfl ⟨.bl (!decide (a = b)), H, I, ?_, q⟩
  cases a <;> cases b <;> rfl
end
end Pr
namespace My
open PySem PySem.Spec PyProof.Rows L2 Pr
def topS (i : Nat) : Stmt := PySem.Challenge.pw_sourceforms_k52_whole_layings_over_prime.main.body.getD i (.Pass ⟨0, 0, 0, 0⟩)
abbrev s_wall : Stmt := topS 1
abbrev p_wall : List Str := ["k"]
abbrev s_is_integer : Stmt := topS 12
abbrev n_is_integer : List Str := ["value"]
abbrev p_is_integer : List Str := ["value"]
theorem st_is_integer {v0 : V} : L2.start n_is_integer [v0] = [some v0] := rfl
theorem sc_is_integer : FnScope n_is_integer p_is_integer (defScope s_is_integer) := ⟨rfl, rfl, rfl, by decide +kernel, rfl, by decide +kernel, by decide +kernel⟩
abbrev s_is_within : Stmt := topS 14
abbrev n_is_within : List Str := ["value", "low", "high"]
abbrev p_is_within : List Str := ["value", "low", "high"]
theorem st_is_within {v0 : V} {v1 : V} {v2 : V} : L2.start n_is_within [v0, v1, v2] = [some v0, some v1, some v2] := rfl
theorem sc_is_within : FnScope n_is_within p_is_within (defScope s_is_within) := ⟨rfl, rfl, rfl, by decide +kernel, rfl, by decide +kernel, by decide +kernel⟩
abbrev s_need_number : Stmt := topS 15
abbrev n_need_number : List Str := ["value", "low", "high"]
abbrev p_need_number : List Str := ["value", "low", "high"]
theorem st_need_number {v0 : V} {v1 : V} {v2 : V} : L2.start n_need_number [v0, v1, v2] = [some v0, some v1, some v2] := rfl
theorem sc_need_number : FnScope n_need_number p_need_number (defScope s_need_number) := ⟨rfl, rfl, rfl, by decide +kernel, rfl, by decide +kernel, by decide +kernel⟩
abbrev s_is_row : Stmt := topS 16
abbrev n_is_row : List Str := ["value", "part"]
abbrev p_is_row : List Str := ["value"]
theorem st_is_row {v0 : V} : L2.start n_is_row [v0] = [some v0, none] := rfl
theorem sc_is_row : FnScope n_is_row p_is_row (defScope s_is_row) := ⟨rfl, rfl, rfl, by decide +kernel, rfl, by decide +kernel, by decide +kernel⟩
abbrev s_is_pair : Stmt := topS 17
abbrev n_is_pair : List Str := ["value"]
abbrev p_is_pair : List Str := ["value"]
theorem st_is_pair {v0 : V} : L2.start n_is_pair [v0] = [some v0] := rfl
theorem sc_is_pair : FnScope n_is_pair p_is_pair (defScope s_is_pair) := ⟨rfl, rfl, rfl, by decide +kernel, rfl, by decide +kernel, by decide +kernel⟩
abbrev s_is_change : Stmt := topS 18
abbrev n_is_change : List Str := ["value", "row"]
abbrev p_is_change : List Str := ["value"]
theorem st_is_change {v0 : V} : L2.start n_is_change [v0] = [some v0, none] := rfl
theorem sc_is_change : FnScope n_is_change p_is_change (defScope s_is_change) := ⟨rfl, rfl, rfl, by decide +kernel, rfl, by decide +kernel, by decide +kernel⟩
abbrev s_lead_of : Stmt := topS 19
abbrev n_lead_of : List Str := ["row", "index", "number"]
abbrev p_lead_of : List Str := ["row"]
theorem st_lead_of {v0 : V} : L2.start n_lead_of [v0] = [some v0, none, none] := rfl
theorem sc_lead_of : FnScope n_lead_of p_lead_of (defScope s_lead_of) := ⟨rfl, rfl, rfl, by decide +kernel, rfl, by decide +kernel, by decide +kernel⟩
abbrev s_powers_of : Stmt := topS 20
abbrev p_powers_of : List Str := ["number", "most"]
abbrev s_need_form : Stmt := topS 23
abbrev n_need_form : List Str := ["value"]
abbrev p_need_form : List Str := ["value"]
theorem st_need_form {v0 : V} : L2.start n_need_form [v0] = [some v0] := rfl
theorem sc_need_form : FnScope n_need_form p_need_form (defScope s_need_form) := ⟨rfl, rfl, rfl, by decide +kernel, rfl, by decide +kernel, by decide +kernel⟩
abbrev s_product_row : Stmt := topS 24
abbrev n_product_row : List Str := ["one", "other", "found", "i", "first", "j", "second", "_"]
abbrev p_product_row : List Str := ["one", "other"]
theorem st_product_row {v0 : V} {v1 : V} : L2.start n_product_row [v0, v1] = [some v0, some v1, none, none, none, none, none, none] := rfl
theorem sc_product_row : FnScope n_product_row p_product_row (defScope s_product_row) := ⟨rfl, rfl, rfl, by decide +kernel, rfl, by decide +kernel, by decide +kernel⟩
abbrev s_sum_row : Stmt := topS 25
abbrev n_sum_row : List Str := ["one", "other", "first", "second"]
abbrev p_sum_row : List Str := ["one", "other"]
theorem st_sum_row {v0 : V} {v1 : V} : L2.start n_sum_row [v0, v1] = [some v0, some v1, none, none] := rfl
theorem sc_sum_row : FnScope n_sum_row p_sum_row (defScope s_sum_row) := ⟨rfl, rfl, rfl, by decide +kernel, rfl, by decide +kernel, by decide +kernel⟩
abbrev s_multiple_row : Stmt := topS 26
abbrev n_multiple_row : List Str := ["row", "number", "entry"]
abbrev p_multiple_row : List Str := ["row", "number"]
theorem st_multiple_row {v0 : V} {v1 : V} : L2.start n_multiple_row [v0, v1] = [some v0, some v1, none] := rfl
theorem sc_multiple_row : FnScope n_multiple_row p_multiple_row (defScope s_multiple_row) := ⟨rfl, rfl, rfl, by decide +kernel, rfl, by decide +kernel, by decide +kernel⟩
abbrev s_derived_row : Stmt := topS 27
abbrev n_derived_row : List Str := ["row", "one", "other", "degree", "i"]
abbrev p_derived_row : List Str := ["row", "one", "other"]
theorem st_derived_row {v0 : V} {v1 : V} {v2 : V} : L2.start n_derived_row [v0, v1, v2] = [some v0, some v1, some v2, none, none] := rfl
theorem sc_derived_row : FnScope n_derived_row p_derived_row (defScope s_derived_row) := ⟨rfl, rfl, rfl, by decide +kernel, rfl, by decide +kernel, by decide +kernel⟩
abbrev s_changed_row : Stmt := topS 28
abbrev n_changed_row : List Str := ["row", "table", "first", "second", "total", "power", "entry"]
abbrev p_changed_row : List Str := ["row", "table"]
theorem st_changed_row {v0 : V} {v1 : V} : L2.start n_changed_row [v0, v1] = [some v0, some v1, none, none, none, none, none] := rfl
theorem sc_changed_row : FnScope n_changed_row p_changed_row (defScope s_changed_row) := ⟨rfl, rfl, rfl, by decide +kernel, rfl, by decide +kernel, by decide +kernel⟩
abbrev s_power_row : Stmt := topS 29
abbrev p_power_row : List Str := ["first", "second", "degree"]
abbrev s_row_value : Stmt := topS 30
abbrev p_row_value : List Str := ["row", "x", "y"]
abbrev s_made_form : Stmt := topS 31
abbrev n_made_form : List Str := ["entries", "made"]
abbrev p_made_form : List Str := ["entries"]
theorem st_made_form {v0 : V} : L2.start n_made_form [v0] = [some v0, none] := rfl
theorem sc_made_form : FnScope n_made_form p_made_form (defScope s_made_form) := ⟨rfl, rfl, rfl, by decide +kernel, rfl, by decide +kernel, by decide +kernel⟩
abbrev s_need_one_degree : Stmt := topS 33
abbrev p_need_one_degree : List Str := ["one", "other"]
abbrev s_laid_row : Stmt := topS 35
abbrev n_laid_row : List Str := ["one", "other", "times", "total", "i", "first", "second", "sign", "factor", "entry"]
abbrev p_laid_row : List Str := ["one", "other", "times"]
theorem st_laid_row {v0 : V} {v1 : V} {v2 : V} : L2.start n_laid_row [v0, v1, v2] = [some v0, some v1, some v2, none, none, none, none, none, none, none] := rfl
theorem sc_laid_row : FnScope n_laid_row p_laid_row (defScope s_laid_row) := ⟨rfl, rfl, rfl, by decide +kernel, rfl, by decide +kernel, by decide +kernel⟩
abbrev s_laid : Stmt := topS 36
abbrev n_laid : List Str := ["one", "other", "times"]
abbrev p_laid : List Str := ["one", "other", "times"]
theorem st_laid {v0 : V} {v1 : V} {v2 : V} : L2.start n_laid [v0, v1, v2] = [some v0, some v1, some v2] := rfl
theorem sc_laid : FnScope n_laid p_laid (defScope s_laid) := ⟨rfl, rfl, rfl, by decide +kernel, rfl, by decide +kernel, by decide +kernel⟩
abbrev s_modulo : Stmt := topS 38
abbrev n_modulo : List Str := ["row", "prime", "number"]
abbrev p_modulo : List Str := ["row", "prime"]
theorem st_modulo {v0 : V} {v1 : V} : L2.start n_modulo [v0, v1] = [some v0, some v1, none] := rfl
theorem sc_modulo : FnScope n_modulo p_modulo (defScope s_modulo) := ⟨rfl, rfl, rfl, by decide +kernel, rfl, by decide +kernel, by decide +kernel⟩
abbrev s_need_prime : Stmt := topS 42
abbrev n_need_prime : List Str := ["value"]
abbrev p_need_prime : List Str := ["value"]
theorem st_need_prime {v0 : V} : L2.start n_need_prime [v0] = [some v0] := rfl
theorem sc_need_prime : FnScope n_need_prime p_need_prime (defScope s_need_prime) := ⟨rfl, rfl, rfl, by decide +kernel, rfl, by decide +kernel, by decide +kernel⟩
abbrev s_determinant_of : Stmt := topS 43
abbrev n_determinant_of : List Str := ["table"]
abbrev p_determinant_of : List Str := ["table"]
theorem st_determinant_of {v0 : V} : L2.start n_determinant_of [v0] = [some v0] := rfl
theorem sc_determinant_of : FnScope n_determinant_of p_determinant_of (defScope s_determinant_of) := ⟨rfl, rfl, rfl, by decide +kernel, rfl, by decide +kernel, by decide +kernel⟩
abbrev s_need_prime_table : Stmt := topS 44
abbrev n_need_prime_table : List Str := ["value", "prime"]
abbrev p_need_prime_table : List Str := ["value", "prime"]
theorem st_need_prime_table {v0 : V} {v1 : V} : L2.start n_need_prime_table [v0, v1] = [some v0, some v1] := rfl
theorem sc_need_prime_table : FnScope n_need_prime_table p_need_prime_table (defScope s_need_prime_table) := ⟨rfl, rfl, rfl, by decide +kernel, rfl, by decide +kernel, by decide +kernel⟩
abbrev s_value_at : Stmt := topS 45
abbrev p_value_at : List Str := ["entries", "x", "y", "prime"]
abbrev s_changed_modulo : Stmt := topS 46
abbrev n_changed_modulo : List Str := ["entries", "table", "prime", "small"]
abbrev p_changed_modulo : List Str := ["entries", "table", "prime"]
theorem st_changed_modulo {v0 : V} {v1 : V} {v2 : V} : L2.start n_changed_modulo [v0, v1, v2] = [some v0, some v1, some v2, none] := rfl
theorem sc_changed_modulo : FnScope n_changed_modulo p_changed_modulo (defScope s_changed_modulo) := ⟨rfl, rfl, rfl, by decide +kernel, rfl, by decide +kernel, by decide +kernel⟩
abbrev s_need_like : Stmt := topS 48
abbrev n_need_like : List Str := ["one", "value"]
abbrev p_need_like : List Str := ["one", "value"]
theorem st_need_like {v0 : V} {v1 : V} : L2.start n_need_like [v0, v1] = [some v0, some v1] := rfl
theorem sc_need_like : FnScope n_need_like p_need_like (defScope s_need_like) := ⟨rfl, rfl, rfl, by decide +kernel, rfl, by decide +kernel, by decide +kernel⟩
abbrev s_law_dice : Stmt := topS 50
abbrev n_law_dice : List Str := ["_law_script", "_law_spot", "_law_cell", "_law_left"]
abbrev p_law_dice : List Str := ["_law_script", "_law_spot"]
theorem st_law_dice {v0 : V} {v1 : V} : L2.start n_law_dice [v0, v1] = [some v0, some v1, none, none] := rfl
theorem sc_law_dice : FnScope n_law_dice p_law_dice (defScope s_law_dice) := ⟨rfl, rfl, rfl, by decide +kernel, rfl, by decide +kernel, by decide +kernel⟩
abbrev s_law_roll : Stmt := topS 51
abbrev n_law_roll : List Str := ["_law_dice_here", "_law_total", "_law_found", "_law_one", "_law_two"]
abbrev p_law_roll : List Str := ["_law_dice_here", "_law_total"]
theorem st_law_roll {v0 : V} {v1 : V} : L2.start n_law_roll [v0, v1] = [some v0, some v1, none, none, none] := rfl
theorem sc_law_roll : FnScope n_law_roll p_law_roll (defScope s_law_roll) := ⟨rfl, rfl, rfl, by decide +kernel, rfl, by decide +kernel, by decide +kernel⟩
abbrev s_law_pick : Stmt := topS 52
abbrev n_law_pick : List Str := ["_law_dice_here", "_law_items"]
abbrev p_law_pick : List Str := ["_law_dice_here", "_law_items"]
theorem st_law_pick {v0 : V} {v1 : V} : L2.start n_law_pick [v0, v1] = [some v0, some v1] := rfl
theorem sc_law_pick : FnScope n_law_pick p_law_pick (defScope s_law_pick) := ⟨rfl, rfl, rfl, by decide +kernel, rfl, by decide +kernel, by decide +kernel⟩
abbrev s_law_near : Stmt := topS 53
abbrev n_law_near : List Str := ["_law_dice_here", "_law_most"]
abbrev p_law_near : List Str := ["_law_dice_here", "_law_most"]
theorem st_law_near {v0 : V} {v1 : V} : L2.start n_law_near [v0, v1] = [some v0, some v1] := rfl
theorem sc_law_near : FnScope n_law_near p_law_near (defScope s_law_near) := ⟨rfl, rfl, rfl, by decide +kernel, rfl, by decide +kernel, by decide +kernel⟩
abbrev s_law_gcd : Stmt := topS 54
abbrev n_law_gcd : List Str := ["_law_one", "_law_other"]
abbrev p_law_gcd : List Str := ["_law_one", "_law_other"]
theorem st_law_gcd {v0 : V} {v1 : V} : L2.start n_law_gcd [v0, v1] = [some v0, some v1] := rfl
theorem sc_law_gcd : FnScope n_law_gcd p_law_gcd (defScope s_law_gcd) := ⟨rfl, rfl, rfl, by decide +kernel, rfl, by decide +kernel, by decide +kernel⟩
abbrev s_law_shared : Stmt := topS 55
abbrev n_law_shared : List Str := ["_law_numbers", "_law_found", "_law_number"]
abbrev p_law_shared : List Str := ["_law_numbers"]
theorem st_law_shared {v0 : V} : L2.start n_law_shared [v0] = [some v0, none, none] := rfl
theorem sc_law_shared : FnScope n_law_shared p_law_shared (defScope s_law_shared) := ⟨rfl, rfl, rfl, by decide +kernel, rfl, by decide +kernel, by decide +kernel⟩
abbrev s_law_raised : Stmt := topS 56
abbrev n_law_raised : List Str := ["_law_number", "_law_times", "_law_found", "_law_turn"]
abbrev p_law_raised : List Str := ["_law_number", "_law_times"]
theorem st_law_raised {v0 : V} {v1 : V} : L2.start n_law_raised [v0, v1] = [some v0, some v1, none, none] := rfl
theorem sc_law_raised : FnScope n_law_raised p_law_raised (defScope s_law_raised) := ⟨rfl, rfl, rfl, by decide +kernel, rfl, by decide +kernel, by decide +kernel⟩
abbrev s_law_choose : Stmt := topS 57
abbrev n_law_choose : List Str := ["_law_many", "_law_few", "_law_found", "_law_at"]
abbrev p_law_choose : List Str := ["_law_many", "_law_few"]
theorem st_law_choose {v0 : V} {v1 : V} : L2.start n_law_choose [v0, v1] = [some v0, some v1, none, none] := rfl
theorem sc_law_choose : FnScope n_law_choose p_law_choose (defScope s_law_choose) := ⟨rfl, rfl, rfl, by decide +kernel, rfl, by decide +kernel, by decide +kernel⟩
abbrev s_law_plus : Stmt := topS 58
abbrev n_law_plus : List Str := ["_law_one", "_law_other", "_law_first", "_law_second"]
abbrev p_law_plus : List Str := ["_law_one", "_law_other"]
theorem st_law_plus {v0 : V} {v1 : V} : L2.start n_law_plus [v0, v1] = [some v0, some v1, none, none] := rfl
theorem sc_law_plus : FnScope n_law_plus p_law_plus (defScope s_law_plus) := ⟨rfl, rfl, rfl, by decide +kernel, rfl, by decide +kernel, by decide +kernel⟩
abbrev s_law_scaled : Stmt := topS 59
abbrev n_law_scaled : List Str := ["_law_form_here", "_law_factor", "_law_entry"]
abbrev p_law_scaled : List Str := ["_law_form_here", "_law_factor"]
theorem st_law_scaled {v0 : V} {v1 : V} : L2.start n_law_scaled [v0, v1] = [some v0, some v1, none] := rfl
theorem sc_law_scaled : FnScope n_law_scaled p_law_scaled (defScope s_law_scaled) := ⟨rfl, rfl, rfl, by decide +kernel, rfl, by decide +kernel, by decide +kernel⟩
abbrev s_law_product : Stmt := topS 60
abbrev n_law_product : List Str := ["_law_one", "_law_other", "_law_found", "_law_at", "_law_first", "_law_place", "_law_second"]
abbrev p_law_product : List Str := ["_law_one", "_law_other"]
theorem st_law_product {v0 : V} {v1 : V} : L2.start n_law_product [v0, v1] = [some v0, some v1, none, none, none, none, none] := rfl
theorem sc_law_product : FnScope n_law_product p_law_product (defScope s_law_product) := ⟨rfl, rfl, rfl, by decide +kernel, rfl, by decide +kernel, by decide +kernel⟩
abbrev s_law_all_product : Stmt := topS 61
abbrev n_law_all_product : List Str := ["_law_forms", "_law_found", "_law_form_here"]
abbrev p_law_all_product : List Str := ["_law_forms"]
theorem st_law_all_product {v0 : V} : L2.start n_law_all_product [v0] = [some v0, none, none] := rfl
theorem sc_law_all_product : FnScope n_law_all_product p_law_all_product (defScope s_law_all_product) := ⟨rfl, rfl, rfl, by decide +kernel, rfl, by decide +kernel, by decide +kernel⟩
abbrev s_law_power : Stmt := topS 62
abbrev n_law_power : List Str := ["_law_pair", "_law_times", "_law_found", "_law_turn"]
abbrev p_law_power : List Str := ["_law_pair", "_law_times"]
theorem st_law_power {v0 : V} {v1 : V} : L2.start n_law_power [v0, v1] = [some v0, some v1, none, none] := rfl
theorem sc_law_power : FnScope n_law_power p_law_power (defScope s_law_power) := ⟨rfl, rfl, rfl, by decide +kernel, rfl, by decide +kernel, by decide +kernel⟩
abbrev s_law_by_x : Stmt := topS 63
abbrev n_law_by_x : List Str := ["_law_form_here", "_law_at", "_law_entry"]
abbrev p_law_by_x : List Str := ["_law_form_here"]
theorem st_law_by_x {v0 : V} : L2.start n_law_by_x [v0] = [some v0, none, none] := rfl
theorem sc_law_by_x : FnScope n_law_by_x p_law_by_x (defScope s_law_by_x) := ⟨rfl, rfl, rfl, by decide +kernel, rfl, by decide +kernel, by decide +kernel⟩
abbrev s_law_by_y : Stmt := topS 64
abbrev n_law_by_y : List Str := ["_law_form_here", "_law_at", "_law_entry"]
abbrev p_law_by_y : List Str := ["_law_form_here"]
theorem st_law_by_y {v0 : V} : L2.start n_law_by_y [v0] = [some v0, none, none] := rfl
theorem sc_law_by_y : FnScope n_law_by_y p_law_by_y (defScope s_law_by_y) := ⟨rfl, rfl, rfl, by decide +kernel, rfl, by decide +kernel, by decide +kernel⟩
abbrev s_law_derived : Stmt := topS 65
abbrev n_law_derived : List Str := ["_law_form_here", "_law_one", "_law_other", "_law_turn"]
abbrev p_law_derived : List Str := ["_law_form_here", "_law_one", "_law_other"]
theorem st_law_derived {v0 : V} {v1 : V} {v2 : V} : L2.start n_law_derived [v0, v1, v2] = [some v0, some v1, some v2, none] := rfl
theorem sc_law_derived : FnScope n_law_derived p_law_derived (defScope s_law_derived) := ⟨rfl, rfl, rfl, by decide +kernel, rfl, by decide +kernel, by decide +kernel⟩
abbrev s_law_laid : Stmt := topS 66
abbrev n_law_laid : List Str := ["_law_one", "_law_other", "_law_times", "_law_found", "_law_at", "_law_piece", "_law_number", "_law_place"]
abbrev p_law_laid : List Str := ["_law_one", "_law_other", "_law_times"]
theorem st_law_laid {v0 : V} {v1 : V} {v2 : V} : L2.start n_law_laid [v0, v1, v2] = [some v0, some v1, some v2, none, none, none, none, none] := rfl
theorem sc_law_laid : FnScope n_law_laid p_law_laid (defScope s_law_laid) := ⟨rfl, rfl, rfl, by decide +kernel, rfl, by decide +kernel, by decide +kernel⟩
abbrev s_law_plain : Stmt := topS 67
abbrev n_law_plain : List Str := ["_law_form_here", "_law_part", "_law_first", "_law_entry"]
abbrev p_law_plain : List Str := ["_law_form_here"]
theorem st_law_plain {v0 : V} : L2.start n_law_plain [v0] = [some v0, none, none, none] := rfl
theorem sc_law_plain : FnScope n_law_plain p_law_plain (defScope s_law_plain) := ⟨rfl, rfl, rfl, by decide +kernel, rfl, by decide +kernel, by decide +kernel⟩
abbrev s_law_line : Stmt := topS 68
abbrev n_law_line : List Str := ["_law_point_here"]
abbrev p_law_line : List Str := ["_law_point_here"]
theorem st_law_line {v0 : V} : L2.start n_law_line [v0] = [some v0] := rfl
theorem sc_law_line : FnScope n_law_line p_law_line (defScope s_law_line) := ⟨rfl, rfl, rfl, by decide +kernel, rfl, by decide +kernel, by decide +kernel⟩
abbrev s_law_point : Stmt := topS 69
abbrev n_law_point : List Str := ["_law_dice_here", "_law_most", "_law_one", "_law_other"]
abbrev p_law_point : List Str := ["_law_dice_here", "_law_most"]
theorem st_law_point {v0 : V} {v1 : V} : L2.start n_law_point [v0, v1] = [some v0, some v1, none, none] := rfl
theorem sc_law_point : FnScope n_law_point p_law_point (defScope s_law_point) := ⟨rfl, rfl, rfl, by decide +kernel, rfl, by decide +kernel, by decide +kernel⟩
abbrev s_law_small_form : Stmt := topS 70
abbrev n_law_small_form : List Str := ["_law_dice_here", "_law_degree", "_law_most", "_law_place"]
abbrev p_law_small_form : List Str := ["_law_dice_here", "_law_degree", "_law_most"]
theorem st_law_small_form {v0 : V} {v1 : V} {v2 : V} : L2.start n_law_small_form [v0, v1, v2] = [some v0, some v1, some v2, none] := rfl
theorem sc_law_small_form : FnScope n_law_small_form p_law_small_form (defScope s_law_small_form) := ⟨rfl, rfl, rfl, by decide +kernel, rfl, by decide +kernel, by decide +kernel⟩
abbrev s_law_form : Stmt := topS 71
abbrev n_law_form : List Str := ["_law_dice_here", "_law_degree", "_law_way", "_law_line_here", "_law_often", "_law_found", "_law_turn", "_law_place"]
abbrev p_law_form : List Str := ["_law_dice_here", "_law_degree"]
theorem st_law_form {v0 : V} {v1 : V} : L2.start n_law_form [v0, v1] = [some v0, some v1, none, none, none, none, none, none] := rfl
theorem sc_law_form : FnScope n_law_form p_law_form (defScope s_law_form) := ⟨rfl, rfl, rfl, by decide +kernel, rfl, by decide +kernel, by decide +kernel⟩
abbrev s_law_det : Stmt := topS 72
abbrev n_law_det : List Str := ["_law_table"]
abbrev p_law_det : List Str := ["_law_table"]
theorem st_law_det {v0 : V} : L2.start n_law_det [v0] = [some v0] := rfl
theorem sc_law_det : FnScope n_law_det p_law_det (defScope s_law_det) := ⟨rfl, rfl, rfl, by decide +kernel, rfl, by decide +kernel, by decide +kernel⟩
abbrev s_law_some_prime : Stmt := topS 73
abbrev n_law_some_prime : List Str := ["_law_dice_here"]
abbrev p_law_some_prime : List Str := ["_law_dice_here"]
theorem st_law_some_prime {v0 : V} : L2.start n_law_some_prime [v0] = [some v0] := rfl
theorem sc_law_some_prime : FnScope n_law_some_prime p_law_some_prime (defScope s_law_some_prime) := ⟨rfl, rfl, rfl, by decide +kernel, rfl, by decide +kernel, by decide +kernel⟩
abbrev s_law_prime_table : Stmt := topS 74
abbrev n_law_prime_table : List Str := ["_law_dice_here", "_law_prime", "_law_most", "_law_found", "_law_row"]
abbrev p_law_prime_table : List Str := ["_law_dice_here", "_law_prime"]
theorem st_law_prime_table {v0 : V} {v1 : V} : L2.start n_law_prime_table [v0, v1] = [some v0, some v1, none, none, none] := rfl
theorem sc_law_prime_table : FnScope n_law_prime_table p_law_prime_table (defScope s_law_prime_table) := ⟨rfl, rfl, rfl, by decide +kernel, rfl, by decide +kernel, by decide +kernel⟩
abbrev s_law_right : Stmt := topS 75
abbrev n_law_right : List Str := ["_law_dice_here", "_law_prime", "_law_size", "_law_more", "_law_one", "_law_other", "_law_third", "_law_times", "_law_first", "_law_second", "_law_told", "_law_sign", "_law_table", "_law_factor", "_law_both"]
abbrev p_law_right : List Str := ["_law_dice_here"]
theorem st_law_right {v0 : V} : L2.start n_law_right [v0] = [some v0, none, none, none, none, none, none, none, none, none, none, none, none, none, none] := rfl
theorem sc_law_right : FnScope n_law_right p_law_right (defScope s_law_right) := ⟨rfl, rfl, rfl, by decide +kernel, rfl, by decide +kernel, by decide +kernel⟩
abbrev s_law : Stmt := topS 76
abbrev n_law : List Str := ["_law_script", "_law_spot", "_law_dice_here", "_law_cubic", "_law_hesse", "_law_great"]
abbrev p_law : List Str := ["_law_script"]
theorem st_law {v0 : V} : L2.start n_law [v0] = [some v0, none, none, none, none, none] := rfl
theorem sc_law : FnScope n_law p_law (defScope s_law) := ⟨rfl, rfl, rfl, by decide +kernel, rfl, by decide +kernel, by decide +kernel⟩
abbrev s_Form___init__ : Stmt := inClass (topS 32) 0
abbrev n_Form___init__ : List Str := ["self", "entries"]
abbrev p_Form___init__ : List Str := ["self", "entries"]
theorem st_Form___init__ {v0 : V} {v1 : V} : L2.start n_Form___init__ [v0, v1] = [some v0, some v1] := rfl
theorem sc_Form___init__ : FnScope n_Form___init__ p_Form___init__ (defScope s_Form___init__) := ⟨rfl, rfl, rfl, by decide +kernel, rfl, by decide +kernel, by decide +kernel⟩
abbrev s_Form_entries : Stmt := inClass (topS 32) 3
abbrev n_Form_entries : List Str := ["self"]
abbrev p_Form_entries : List Str := ["self"]
theorem st_Form_entries {v0 : V} : L2.start n_Form_entries [v0] = [some v0] := rfl
theorem sc_Form_entries : FnScope n_Form_entries p_Form_entries (defScope s_Form_entries) := ⟨rfl, rfl, rfl, by decide +kernel, rfl, by decide +kernel, by decide +kernel⟩
abbrev s_Form_degree : Stmt := inClass (topS 32) 4
abbrev n_Form_degree : List Str := ["self"]
abbrev p_Form_degree : List Str := ["self"]
theorem st_Form_degree {v0 : V} : L2.start n_Form_degree [v0] = [some v0] := rfl
theorem sc_Form_degree : FnScope n_Form_degree p_Form_degree (defScope s_Form_degree) := ⟨rfl, rfl, rfl, by decide +kernel, rfl, by decide +kernel, by decide +kernel⟩
abbrev s_PrimeForm___init__ : Stmt := inClass (topS 47) 0
abbrev n_PrimeForm___init__ : List Str := ["self", "prime", "entries"]
abbrev p_PrimeForm___init__ : List Str := ["self", "prime", "entries"]
theorem st_PrimeForm___init__ {v0 : V} {v1 : V} {v2 : V} : L2.start n_PrimeForm___init__ [v0, v1, v2] = [some v0, some v1, some v2] := rfl
theorem sc_PrimeForm___init__ : FnScope n_PrimeForm___init__ p_PrimeForm___init__ (defScope s_PrimeForm___init__) := ⟨rfl, rfl, rfl, by decide +kernel, rfl, by decide +kernel, by decide +kernel⟩
abbrev s_PrimeForm_of_form : Stmt := inClass (topS 47) 1
abbrev n_PrimeForm_of_form : List Str := ["cls", "form", "prime"]
abbrev p_PrimeForm_of_form : List Str := ["cls", "form", "prime"]
theorem st_PrimeForm_of_form {v0 : V} {v1 : V} {v2 : V} : L2.start n_PrimeForm_of_form [v0, v1, v2] = [some v0, some v1, some v2] := rfl
theorem sc_PrimeForm_of_form : FnScope n_PrimeForm_of_form p_PrimeForm_of_form (defScope s_PrimeForm_of_form) := ⟨rfl, rfl, rfl, by decide +kernel, rfl, by decide +kernel, by decide +kernel⟩
abbrev s_PrimeForm_prime : Stmt := inClass (topS 47) 2
abbrev n_PrimeForm_prime : List Str := ["self"]
abbrev p_PrimeForm_prime : List Str := ["self"]
theorem st_PrimeForm_prime {v0 : V} : L2.start n_PrimeForm_prime [v0] = [some v0] := rfl
theorem sc_PrimeForm_prime : FnScope n_PrimeForm_prime p_PrimeForm_prime (defScope s_PrimeForm_prime) := ⟨rfl, rfl, rfl, by decide +kernel, rfl, by decide +kernel, by decide +kernel⟩
abbrev s_PrimeForm_entries : Stmt := inClass (topS 47) 3
abbrev n_PrimeForm_entries : List Str := ["self"]
abbrev p_PrimeForm_entries : List Str := ["self"]
theorem st_PrimeForm_entries {v0 : V} : L2.start n_PrimeForm_entries [v0] = [some v0] := rfl
theorem sc_PrimeForm_entries : FnScope n_PrimeForm_entries p_PrimeForm_entries (defScope s_PrimeForm_entries) := ⟨rfl, rfl, rfl, by decide +kernel, rfl, by decide +kernel, by decide +kernel⟩
abbrev s_PrimeForm_degree : Stmt := inClass (topS 47) 4
abbrev n_PrimeForm_degree : List Str := ["self"]
abbrev p_PrimeForm_degree : List Str := ["self"]
theorem st_PrimeForm_degree {v0 : V} : L2.start n_PrimeForm_degree [v0] = [some v0] := rfl
theorem sc_PrimeForm_degree : FnScope n_PrimeForm_degree p_PrimeForm_degree (defScope s_PrimeForm_degree) := ⟨rfl, rfl, rfl, by decide +kernel, rfl, by decide +kernel, by decide +kernel⟩
abbrev s_PrimeForm_is_zero : Stmt := inClass (topS 47) 5
abbrev n_PrimeForm_is_zero : List Str := ["self"]
abbrev p_PrimeForm_is_zero : List Str := ["self"]
theorem st_PrimeForm_is_zero {v0 : V} : L2.start n_PrimeForm_is_zero [v0] = [some v0] := rfl
theorem sc_PrimeForm_is_zero : FnScope n_PrimeForm_is_zero p_PrimeForm_is_zero (defScope s_PrimeForm_is_zero) := ⟨rfl, rfl, rfl, by decide +kernel, rfl, by decide +kernel, by decide +kernel⟩
abbrev s_PrimeForm_value : Stmt := inClass (topS 47) 7
abbrev p_PrimeForm_value : List Str := ["self", "x", "y"]
abbrev s_PrimeForm_changed : Stmt := inClass (topS 47) 8
abbrev n_PrimeForm_changed : List Str := ["self", "table"]
abbrev p_PrimeForm_changed : List Str := ["self", "table"]
theorem st_PrimeForm_changed {v0 : V} {v1 : V} : L2.start n_PrimeForm_changed [v0, v1] = [some v0, some v1] := rfl
theorem sc_PrimeForm_changed : FnScope n_PrimeForm_changed p_PrimeForm_changed (defScope s_PrimeForm_changed) := ⟨rfl, rfl, rfl, by decide +kernel, rfl, by decide +kernel, by decide +kernel⟩
abbrev s_PrimeForm_laid : Stmt := inClass (topS 47) 9
abbrev n_PrimeForm_laid : List Str := ["self", "other", "times"]
abbrev p_PrimeForm_laid : List Str := ["self", "other", "times"]
theorem st_PrimeForm_laid {v0 : V} {v1 : V} {v2 : V} : L2.start n_PrimeForm_laid [v0, v1, v2] = [some v0, some v1, some v2] := rfl
theorem sc_PrimeForm_laid : FnScope n_PrimeForm_laid p_PrimeForm_laid (defScope s_PrimeForm_laid) := ⟨rfl, rfl, rfl, by decide +kernel, rfl, by decide +kernel, by decide +kernel⟩
abbrev s_PrimeForm___mul__ : Stmt := inClass (topS 47) 13
abbrev n_PrimeForm___mul__ : List Str := ["self", "other"]
abbrev p_PrimeForm___mul__ : List Str := ["self", "other"]
theorem st_PrimeForm___mul__ {v0 : V} {v1 : V} : L2.start n_PrimeForm___mul__ [v0, v1] = [some v0, some v1] := rfl
theorem sc_PrimeForm___mul__ : FnScope n_PrimeForm___mul__ p_PrimeForm___mul__ (defScope s_PrimeForm___mul__) := ⟨rfl, rfl, rfl, by decide +kernel, rfl, by decide +kernel, by decide +kernel⟩
abbrev s_PrimeForm___eq__ : Stmt := inClass (topS 47) 14
abbrev n_PrimeForm___eq__ : List Str := ["self", "other"]
abbrev p_PrimeForm___eq__ : List Str := ["self", "other"]
theorem st_PrimeForm___eq__ {v0 : V} {v1 : V} : L2.start n_PrimeForm___eq__ [v0, v1] = [some v0, some v1] := rfl
theorem sc_PrimeForm___eq__ : FnScope n_PrimeForm___eq__ p_PrimeForm___eq__ (defScope s_PrimeForm___eq__) := ⟨rfl, rfl, rfl, by decide +kernel, rfl, by decide +kernel, by decide +kernel⟩
abbrev s_PrimeForm___str__ : Stmt := inClass (topS 47) 15
abbrev p_PrimeForm___str__ : List Str := ["self"]
set_option genInjectivity false in
set_option genSizeOf false in
structure Tx (K : PySem.W.Frag) (mg : Str → Option Value) where
  f_wall : Addr
  d_wall : FuncData
  F_wall : Fun K "_wall" "_wall" s_wall f_wall d_wall
  b_wall : Binds K d_wall p_wall []
  m_wall : mg "_wall" = some (.ref f_wall)
  f_is_integer : Addr
  d_is_integer : FuncData
  F_is_integer : Fun K "is_integer" "is_integer" s_is_integer f_is_integer d_is_integer
  b_is_integer : Binds K d_is_integer p_is_integer []
  m_is_integer : mg "is_integer" = some (.ref f_is_integer)
  f_is_within : Addr
  d_is_within : FuncData
  F_is_within : Fun K "is_within" "is_within" s_is_within f_is_within d_is_within
  b_is_within : Binds K d_is_within p_is_within []
  m_is_within : mg "is_within" = some (.ref f_is_within)
  f_need_number : Addr
  d_need_number : FuncData
  F_need_number : Fun K "need_number" "need_number" s_need_number f_need_number d_need_number
  b_need_number : Binds K d_need_number p_need_number []
  m_need_number : mg "need_number" = some (.ref f_need_number)
  f_is_row : Addr
  d_is_row : FuncData
  F_is_row : Fun K "is_row" "is_row" s_is_row f_is_row d_is_row
  b_is_row : Binds K d_is_row p_is_row []
  m_is_row : mg "is_row" = some (.ref f_is_row)
  f_is_pair : Addr
  d_is_pair : FuncData
  F_is_pair : Fun K "is_pair" "is_pair" s_is_pair f_is_pair d_is_pair
  b_is_pair : Binds K d_is_pair p_is_pair []
  m_is_pair : mg "is_pair" = some (.ref f_is_pair)
  f_is_change : Addr
  d_is_change : FuncData
  F_is_change : Fun K "is_change" "is_change" s_is_change f_is_change d_is_change
  b_is_change : Binds K d_is_change p_is_change []
  m_is_change : mg "is_change" = some (.ref f_is_change)
  f_lead_of : Addr
  d_lead_of : FuncData
  F_lead_of : Fun K "lead_of" "lead_of" s_lead_of f_lead_of d_lead_of
  b_lead_of : Binds K d_lead_of p_lead_of []
  m_lead_of : mg "lead_of" = some (.ref f_lead_of)
  f_powers_of : Addr
  d_powers_of : FuncData
  F_powers_of : Fun K "powers_of" "powers_of" s_powers_of f_powers_of d_powers_of
  b_powers_of : Binds K d_powers_of p_powers_of []
  m_powers_of : mg "powers_of" = some (.ref f_powers_of)
  f_need_form : Addr
  d_need_form : FuncData
  F_need_form : Fun K "need_form" "need_form" s_need_form f_need_form d_need_form
  b_need_form : Binds K d_need_form p_need_form []
  m_need_form : mg "need_form" = some (.ref f_need_form)
  f_product_row : Addr
  d_product_row : FuncData
  F_product_row : Fun K "product_row" "product_row" s_product_row f_product_row d_product_row
  b_product_row : Binds K d_product_row p_product_row []
  m_product_row : mg "product_row" = some (.ref f_product_row)
  f_sum_row : Addr
  d_sum_row : FuncData
  F_sum_row : Fun K "sum_row" "sum_row" s_sum_row f_sum_row d_sum_row
  b_sum_row : Binds K d_sum_row p_sum_row []
  m_sum_row : mg "sum_row" = some (.ref f_sum_row)
  f_multiple_row : Addr
  d_multiple_row : FuncData
  F_multiple_row : Fun K "multiple_row" "multiple_row" s_multiple_row f_multiple_row d_multiple_row
  b_multiple_row : Binds K d_multiple_row p_multiple_row []
  m_multiple_row : mg "multiple_row" = some (.ref f_multiple_row)
  f_derived_row : Addr
  d_derived_row : FuncData
  F_derived_row : Fun K "derived_row" "derived_row" s_derived_row f_derived_row d_derived_row
  b_derived_row : Binds K d_derived_row p_derived_row []
  m_derived_row : mg "derived_row" = some (.ref f_derived_row)
  f_changed_row : Addr
  d_changed_row : FuncData
  F_changed_row : Fun K "changed_row" "changed_row" s_changed_row f_changed_row d_changed_row
  b_changed_row : Binds K d_changed_row p_changed_row []
  m_changed_row : mg "changed_row" = some (.ref f_changed_row)
  f_power_row : Addr
  d_power_row : FuncData
  F_power_row : Fun K "power_row" "power_row" s_power_row f_power_row d_power_row
  b_power_row : Binds K d_power_row p_power_row []
  m_power_row : mg "power_row" = some (.ref f_power_row)
  f_row_value : Addr
  d_row_value : FuncData
  F_row_value : Fun K "row_value" "row_value" s_row_value f_row_value d_row_value
  b_row_value : Binds K d_row_value p_row_value []
  m_row_value : mg "row_value" = some (.ref f_row_value)
  f_made_form : Addr
  d_made_form : FuncData
  F_made_form : Fun K "made_form" "made_form" s_made_form f_made_form d_made_form
  b_made_form : Binds K d_made_form p_made_form []
  m_made_form : mg "made_form" = some (.ref f_made_form)
  f_need_one_degree : Addr
  d_need_one_degree : FuncData
  F_need_one_degree : Fun K "need_one_degree" "need_one_degree" s_need_one_degree f_need_one_degree d_need_one_degree
  b_need_one_degree : Binds K d_need_one_degree p_need_one_degree []
  m_need_one_degree : mg "need_one_degree" = some (.ref f_need_one_degree)
  f_laid_row : Addr
  d_laid_row : FuncData
  F_laid_row : Fun K "laid_row" "laid_row" s_laid_row f_laid_row d_laid_row
  b_laid_row : Binds K d_laid_row p_laid_row []
  m_laid_row : mg "laid_row" = some (.ref f_laid_row)
  f_laid : Addr
  d_laid : FuncData
  F_laid : Fun K "laid" "laid" s_laid f_laid d_laid
  b_laid : Binds K d_laid p_laid []
  m_laid : mg "laid" = some (.ref f_laid)
  f_modulo : Addr
  d_modulo : FuncData
  F_modulo : Fun K "modulo" "modulo" s_modulo f_modulo d_modulo
  b_modulo : Binds K d_modulo p_modulo []
  m_modulo : mg "modulo" = some (.ref f_modulo)
  f_need_prime : Addr
  d_need_prime : FuncData
  F_need_prime : Fun K "need_prime" "need_prime" s_need_prime f_need_prime d_need_prime
  b_need_prime : Binds K d_need_prime p_need_prime []
  m_need_prime : mg "need_prime" = some (.ref f_need_prime)
  f_determinant_of : Addr
  d_determinant_of : FuncData
  F_determinant_of : Fun K "determinant_of" "determinant_of" s_determinant_of f_determinant_of d_determinant_of
  b_determinant_of : Binds K d_determinant_of p_determinant_of []
  m_determinant_of : mg "determinant_of" = some (.ref f_determinant_of)
  f_need_prime_table : Addr
  d_need_prime_table : FuncData
  F_need_prime_table : Fun K "need_prime_table" "need_prime_table" s_need_prime_table f_need_prime_table d_need_prime_table
  b_need_prime_table : Binds K d_need_prime_table p_need_prime_table []
  m_need_prime_table : mg "need_prime_table" = some (.ref f_need_prime_table)
  f_value_at : Addr
  d_value_at : FuncData
  F_value_at : Fun K "value_at" "value_at" s_value_at f_value_at d_value_at
  b_value_at : Binds K d_value_at p_value_at []
  m_value_at : mg "value_at" = some (.ref f_value_at)
  f_changed_modulo : Addr
  d_changed_modulo : FuncData
  F_changed_modulo : Fun K "changed_modulo" "changed_modulo" s_changed_modulo f_changed_modulo d_changed_modulo
  b_changed_modulo : Binds K d_changed_modulo p_changed_modulo []
  m_changed_modulo : mg "changed_modulo" = some (.ref f_changed_modulo)
  f_need_like : Addr
  d_need_like : FuncData
  F_need_like : Fun K "need_like" "need_like" s_need_like f_need_like d_need_like
  b_need_like : Binds K d_need_like p_need_like []
  m_need_like : mg "need_like" = some (.ref f_need_like)
  f_law_dice : Addr
  d_law_dice : FuncData
  F_law_dice : Fun K "_law_dice" "_law_dice" s_law_dice f_law_dice d_law_dice
  b_law_dice : Binds K d_law_dice p_law_dice []
  m_law_dice : mg "_law_dice" = some (.ref f_law_dice)
  f_law_roll : Addr
  d_law_roll : FuncData
  F_law_roll : Fun K "_law_roll" "_law_roll" s_law_roll f_law_roll d_law_roll
  b_law_roll : Binds K d_law_roll p_law_roll []
  m_law_roll : mg "_law_roll" = some (.ref f_law_roll)
  f_law_pick : Addr
  d_law_pick : FuncData
  F_law_pick : Fun K "_law_pick" "_law_pick" s_law_pick f_law_pick d_law_pick
  b_law_pick : Binds K d_law_pick p_law_pick []
  m_law_pick : mg "_law_pick" = some (.ref f_law_pick)
  f_law_near : Addr
  d_law_near : FuncData
  F_law_near : Fun K "_law_near" "_law_near" s_law_near f_law_near d_law_near
  b_law_near : Binds K d_law_near p_law_near []
  m_law_near : mg "_law_near" = some (.ref f_law_near)
  f_law_gcd : Addr
  d_law_gcd : FuncData
  F_law_gcd : Fun K "_law_gcd" "_law_gcd" s_law_gcd f_law_gcd d_law_gcd
  b_law_gcd : Binds K d_law_gcd p_law_gcd []
  m_law_gcd : mg "_law_gcd" = some (.ref f_law_gcd)
  f_law_shared : Addr
  d_law_shared : FuncData
  F_law_shared : Fun K "_law_shared" "_law_shared" s_law_shared f_law_shared d_law_shared
  b_law_shared : Binds K d_law_shared p_law_shared []
  m_law_shared : mg "_law_shared" = some (.ref f_law_shared)
  f_law_raised : Addr
  d_law_raised : FuncData
  F_law_raised : Fun K "_law_raised" "_law_raised" s_law_raised f_law_raised d_law_raised
  b_law_raised : Binds K d_law_raised p_law_raised []
  m_law_raised : mg "_law_raised" = some (.ref f_law_raised)
  f_law_choose : Addr
  d_law_choose : FuncData
  F_law_choose : Fun K "_law_choose" "_law_choose" s_law_choose f_law_choose d_law_choose
  b_law_choose : Binds K d_law_choose p_law_choose []
  m_law_choose : mg "_law_choose" = some (.ref f_law_choose)
  f_law_plus : Addr
  d_law_plus : FuncData
  F_law_plus : Fun K "_law_plus" "_law_plus" s_law_plus f_law_plus d_law_plus
  b_law_plus : Binds K d_law_plus p_law_plus []
  m_law_plus : mg "_law_plus" = some (.ref f_law_plus)
  f_law_scaled : Addr
  d_law_scaled : FuncData
  F_law_scaled : Fun K "_law_scaled" "_law_scaled" s_law_scaled f_law_scaled d_law_scaled
  b_law_scaled : Binds K d_law_scaled p_law_scaled []
  m_law_scaled : mg "_law_scaled" = some (.ref f_law_scaled)
  f_law_product : Addr
  d_law_product : FuncData
  F_law_product : Fun K "_law_product" "_law_product" s_law_product f_law_product d_law_product
  b_law_product : Binds K d_law_product p_law_product []
  m_law_product : mg "_law_product" = some (.ref f_law_product)
  f_law_all_product : Addr
  d_law_all_product : FuncData
  F_law_all_product : Fun K "_law_all_product" "_law_all_product" s_law_all_product f_law_all_product d_law_all_product
  b_law_all_product : Binds K d_law_all_product p_law_all_product []
  m_law_all_product : mg "_law_all_product" = some (.ref f_law_all_product)
  f_law_power : Addr
  d_law_power : FuncData
  F_law_power : Fun K "_law_power" "_law_power" s_law_power f_law_power d_law_power
  b_law_power : Binds K d_law_power p_law_power []
  m_law_power : mg "_law_power" = some (.ref f_law_power)
  f_law_by_x : Addr
  d_law_by_x : FuncData
  F_law_by_x : Fun K "_law_by_x" "_law_by_x" s_law_by_x f_law_by_x d_law_by_x
  b_law_by_x : Binds K d_law_by_x p_law_by_x []
  m_law_by_x : mg "_law_by_x" = some (.ref f_law_by_x)
  f_law_by_y : Addr
  d_law_by_y : FuncData
  F_law_by_y : Fun K "_law_by_y" "_law_by_y" s_law_by_y f_law_by_y d_law_by_y
  b_law_by_y : Binds K d_law_by_y p_law_by_y []
  m_law_by_y : mg "_law_by_y" = some (.ref f_law_by_y)
  f_law_derived : Addr
  d_law_derived : FuncData
  F_law_derived : Fun K "_law_derived" "_law_derived" s_law_derived f_law_derived d_law_derived
  b_law_derived : Binds K d_law_derived p_law_derived []
  m_law_derived : mg "_law_derived" = some (.ref f_law_derived)
  f_law_laid : Addr
  d_law_laid : FuncData
  F_law_laid : Fun K "_law_laid" "_law_laid" s_law_laid f_law_laid d_law_laid
  b_law_laid : Binds K d_law_laid p_law_laid []
  m_law_laid : mg "_law_laid" = some (.ref f_law_laid)
  f_law_plain : Addr
  d_law_plain : FuncData
  F_law_plain : Fun K "_law_plain" "_law_plain" s_law_plain f_law_plain d_law_plain
  b_law_plain : Binds K d_law_plain p_law_plain []
  m_law_plain : mg "_law_plain" = some (.ref f_law_plain)
  f_law_line : Addr
  d_law_line : FuncData
  F_law_line : Fun K "_law_line" "_law_line" s_law_line f_law_line d_law_line
  b_law_line : Binds K d_law_line p_law_line []
  m_law_line : mg "_law_line" = some (.ref f_law_line)
  f_law_point : Addr
  d_law_point : FuncData
  F_law_point : Fun K "_law_point" "_law_point" s_law_point f_law_point d_law_point
  b_law_point : Binds K d_law_point p_law_point []
  m_law_point : mg "_law_point" = some (.ref f_law_point)
  f_law_small_form : Addr
  d_law_small_form : FuncData
  F_law_small_form : Fun K "_law_small_form" "_law_small_form" s_law_small_form f_law_small_form d_law_small_form
  b_law_small_form : Binds K d_law_small_form p_law_small_form []
  m_law_small_form : mg "_law_small_form" = some (.ref f_law_small_form)
  f_law_form : Addr
  d_law_form : FuncData
  F_law_form : Fun K "_law_form" "_law_form" s_law_form f_law_form d_law_form
  b_law_form : Binds K d_law_form p_law_form []
  m_law_form : mg "_law_form" = some (.ref f_law_form)
  f_law_det : Addr
  d_law_det : FuncData
  F_law_det : Fun K "_law_det" "_law_det" s_law_det f_law_det d_law_det
  b_law_det : Binds K d_law_det p_law_det []
  m_law_det : mg "_law_det" = some (.ref f_law_det)
  f_law_some_prime : Addr
  d_law_some_prime : FuncData
  F_law_some_prime : Fun K "_law_some_prime" "_law_some_prime" s_law_some_prime f_law_some_prime d_law_some_prime
  b_law_some_prime : Binds K d_law_some_prime p_law_some_prime []
  m_law_some_prime : mg "_law_some_prime" = some (.ref f_law_some_prime)
  f_law_prime_table : Addr
  d_law_prime_table : FuncData
  F_law_prime_table : Fun K "_law_prime_table" "_law_prime_table" s_law_prime_table f_law_prime_table d_law_prime_table
  b_law_prime_table : Binds K d_law_prime_table p_law_prime_table []
  m_law_prime_table : mg "_law_prime_table" = some (.ref f_law_prime_table)
  f_law_right : Addr
  d_law_right : FuncData
  F_law_right : Fun K "_law_right" "_law_right" s_law_right f_law_right d_law_right
  b_law_right : Binds K d_law_right p_law_right []
  m_law_right : mg "_law_right" = some (.ref f_law_right)
  f_law : Addr
  d_law : FuncData
  F_law : Fun K "law" "law" s_law f_law d_law
  b_law : Binds K d_law p_law []
  m_law : mg "law" = some (.ref f_law)
  f_Form___init__ : Addr
  d_Form___init__ : FuncData
  F_Form___init__ : Fun K "__init__" "Form.__init__" s_Form___init__ f_Form___init__ d_Form___init__
  b_Form___init__ : Binds K d_Form___init__ p_Form___init__ []
  f_Form_entries : Addr
  d_Form_entries : FuncData
  F_Form_entries : Fun K "entries" "Form.entries" s_Form_entries f_Form_entries d_Form_entries
  b_Form_entries : Binds K d_Form_entries p_Form_entries []
  f_Form_degree : Addr
  d_Form_degree : FuncData
  F_Form_degree : Fun K "degree" "Form.degree" s_Form_degree f_Form_degree d_Form_degree
  b_Form_degree : Binds K d_Form_degree p_Form_degree []
  f_PrimeForm___init__ : Addr
  d_PrimeForm___init__ : FuncData
  F_PrimeForm___init__ : Fun K "__init__" "PrimeForm.__init__" s_PrimeForm___init__ f_PrimeForm___init__ d_PrimeForm___init__
  b_PrimeForm___init__ : Binds K d_PrimeForm___init__ p_PrimeForm___init__ []
  f_PrimeForm_of_form : Addr
  d_PrimeForm_of_form : FuncData
  F_PrimeForm_of_form : Fun K "of_form" "PrimeForm.of_form" s_PrimeForm_of_form f_PrimeForm_of_form d_PrimeForm_of_form
  b_PrimeForm_of_form : Binds K d_PrimeForm_of_form p_PrimeForm_of_form []
  f_PrimeForm_prime : Addr
  d_PrimeForm_prime : FuncData
  F_PrimeForm_prime : Fun K "prime" "PrimeForm.prime" s_PrimeForm_prime f_PrimeForm_prime d_PrimeForm_prime
  b_PrimeForm_prime : Binds K d_PrimeForm_prime p_PrimeForm_prime []
  f_PrimeForm_entries : Addr
  d_PrimeForm_entries : FuncData
  F_PrimeForm_entries : Fun K "entries" "PrimeForm.entries" s_PrimeForm_entries f_PrimeForm_entries d_PrimeForm_entries
  b_PrimeForm_entries : Binds K d_PrimeForm_entries p_PrimeForm_entries []
  f_PrimeForm_degree : Addr
  d_PrimeForm_degree : FuncData
  F_PrimeForm_degree : Fun K "degree" "PrimeForm.degree" s_PrimeForm_degree f_PrimeForm_degree d_PrimeForm_degree
  b_PrimeForm_degree : Binds K d_PrimeForm_degree p_PrimeForm_degree []
  f_PrimeForm_is_zero : Addr
  d_PrimeForm_is_zero : FuncData
  F_PrimeForm_is_zero : Fun K "is_zero" "PrimeForm.is_zero" s_PrimeForm_is_zero f_PrimeForm_is_zero d_PrimeForm_is_zero
  b_PrimeForm_is_zero : Binds K d_PrimeForm_is_zero p_PrimeForm_is_zero []
  f_PrimeForm_value : Addr
  d_PrimeForm_value : FuncData
  F_PrimeForm_value : Fun K "value" "PrimeForm.value" s_PrimeForm_value f_PrimeForm_value d_PrimeForm_value
  b_PrimeForm_value : Binds K d_PrimeForm_value p_PrimeForm_value []
  f_PrimeForm_changed : Addr
  d_PrimeForm_changed : FuncData
  F_PrimeForm_changed : Fun K "changed" "PrimeForm.changed" s_PrimeForm_changed f_PrimeForm_changed d_PrimeForm_changed
  b_PrimeForm_changed : Binds K d_PrimeForm_changed p_PrimeForm_changed []
  f_PrimeForm_laid : Addr
  d_PrimeForm_laid : FuncData
  F_PrimeForm_laid : Fun K "laid" "PrimeForm.laid" s_PrimeForm_laid f_PrimeForm_laid d_PrimeForm_laid
  b_PrimeForm_laid : Binds K d_PrimeForm_laid p_PrimeForm_laid []
  f_PrimeForm___mul__ : Addr
  d_PrimeForm___mul__ : FuncData
  F_PrimeForm___mul__ : Fun K "__mul__" "PrimeForm.__mul__" s_PrimeForm___mul__ f_PrimeForm___mul__ d_PrimeForm___mul__
  b_PrimeForm___mul__ : Binds K d_PrimeForm___mul__ p_PrimeForm___mul__ []
  f_PrimeForm___eq__ : Addr
  d_PrimeForm___eq__ : FuncData
  F_PrimeForm___eq__ : Fun K "__eq__" "PrimeForm.__eq__" s_PrimeForm___eq__ f_PrimeForm___eq__ d_PrimeForm___eq__
  b_PrimeForm___eq__ : Binds K d_PrimeForm___eq__ p_PrimeForm___eq__ []
  f_PrimeForm___str__ : Addr
  d_PrimeForm___str__ : FuncData
  F_PrimeForm___str__ : Fun K "__str__" "PrimeForm.__str__" s_PrimeForm___str__ f_PrimeForm___str__ d_PrimeForm___str__
  b_PrimeForm___str__ : Binds K d_PrimeForm___str__ p_PrimeForm___str__ []
  C_Form : Addr
  mg_Form : mg "Form" = some (.ref C_Form)
  cl_Form : Cls K C_Form
  mk_Form : Mk K C_Form f_Form___init__
  sf_Form : PySem.W.selfFirst K C_Form = true
  nf_Form : PySem.W.notFirst K C_Form (.ref C_Form) = true
  no_Form_entries : NoAttr K C_Form "_entries"
  me_Form___init__ : Meth K C_Form "__init__" f_Form___init__
  pa_Form_entries : Addr
  pr_Form_entries : PropOf K C_Form "entries" pa_Form_entries f_Form_entries
  pa_Form_degree : Addr
  pr_Form_degree : PropOf K C_Form "degree" pa_Form_degree f_Form_degree
  x_int : PySem.W.subIn K (.type "int") (.ref C_Form) = some false
  x_tup : PySem.W.subIn K (.type "tuple") (.ref C_Form) = some false
  x_ty : PySem.W.typeIn K (.ref C_Form) = some (.type "type")
  x_obj : PySem.W.mroIn K C_Form (.type "object") = some true
  x_cls : PySem.W.findIn K (.ref C_Form) "__class__" = some (some (.builtin "object.__class__"))
  x_get : PySem.W.specialIn K (.builtin "object.__class__") "__get__" = some (some (.builtin "getset_descriptor.__get__"))
  x_tak : PySem.W.takesIn K (.builtin "object.__class__") = some true
  x_rmul : PySem.W.findIn K (.ref C_Form) "__rmul__" = some none
  x_imul : PySem.W.findIn K (.type "int") "__mul__" = some (some (.builtin "int.__mul__"))
  x_irmul : PySem.W.findIn K (.type "int") "__rmul__" = some (some (.builtin "int.__rmul__"))
  x_ne : PySem.W.findIn K (.ref C_Form) "__ne__" = some (some (.builtin "object.__ne__"))
  C_PrimeForm : Addr
  mg_PrimeForm : mg "PrimeForm" = some (.ref C_PrimeForm)
  cl_PrimeForm : Cls K C_PrimeForm
  mk_PrimeForm : Mk K C_PrimeForm f_PrimeForm___init__
  sf_PrimeForm : PySem.W.selfFirst K C_PrimeForm = true
  nf_PrimeForm : PySem.W.notFirst K C_PrimeForm (.ref C_PrimeForm) = true
  no_PrimeForm_prime : NoAttr K C_PrimeForm "_prime"
  no_PrimeForm_entries : NoAttr K C_PrimeForm "_entries"
  me_PrimeForm___init__ : Meth K C_PrimeForm "__init__" f_PrimeForm___init__
  cr_PrimeForm : ClX.CRead K C_PrimeForm (.type "type")
  pa_PrimeForm_of_form : Addr
  cm_PrimeForm_of_form : ClX.CMet K C_PrimeForm (.type "type") "of_form" pa_PrimeForm_of_form f_PrimeForm_of_form
  pa_PrimeForm_prime : Addr
  pr_PrimeForm_prime : PropOf K C_PrimeForm "prime" pa_PrimeForm_prime f_PrimeForm_prime
  pa_PrimeForm_entries : Addr
  pr_PrimeForm_entries : PropOf K C_PrimeForm "entries" pa_PrimeForm_entries f_PrimeForm_entries
  pa_PrimeForm_degree : Addr
  pr_PrimeForm_degree : PropOf K C_PrimeForm "degree" pa_PrimeForm_degree f_PrimeForm_degree
  pa_PrimeForm_is_zero : Addr
  pr_PrimeForm_is_zero : PropOf K C_PrimeForm "is_zero" pa_PrimeForm_is_zero f_PrimeForm_is_zero
  me_PrimeForm_value : Meth K C_PrimeForm "value" f_PrimeForm_value
  me_PrimeForm_changed : Meth K C_PrimeForm "changed" f_PrimeForm_changed
  me_PrimeForm_laid : Meth K C_PrimeForm "laid" f_PrimeForm_laid
  me_PrimeForm___mul__ : Meth K C_PrimeForm "__mul__" f_PrimeForm___mul__
  me_PrimeForm___eq__ : Meth K C_PrimeForm "__eq__" f_PrimeForm___eq__
  me_PrimeForm___str__ : Meth K C_PrimeForm "__str__" f_PrimeForm___str__
  px_int : PySem.W.subIn K (.type "int") (.ref C_PrimeForm) = some false
  px_tup : PySem.W.subIn K (.type "tuple") (.ref C_PrimeForm) = some false
  px_ty : PySem.W.typeIn K (.ref C_PrimeForm) = some (.type "type")
  px_ne : PySem.W.findIn K (.ref C_PrimeForm) "__ne__" = some (some (.builtin "object.__ne__"))
  px_obj : PySem.W.mroIn K C_PrimeForm (.type "object") = some true
  px_nft : PySem.W.notFirst K C_PrimeForm (.type "tuple") = true
  px_cls : PySem.W.findIn K (.ref C_PrimeForm) "__class__" = some (some (.builtin "object.__class__"))
  px_get : PySem.W.specialIn K (.builtin "object.__class__") "__get__" = some (some (.builtin "getset_descriptor.__get__"))
  px_tak : PySem.W.takesIn K (.builtin "object.__class__") = some true
  z_NotImplemented : mg "NotImplemented" = none
  z_abs : mg "abs" = none
  z_all : mg "all" = none
  z_bool : mg "bool" = none
  z_classmethod : mg "classmethod" = none
  z_enumerate : mg "enumerate" = none
  z_int : mg "int" = none
  z_isinstance : mg "isinstance" = none
  z_len : mg "len" = none
  z_max : mg "max" = none
  z_min : mg "min" = none
  z_property : mg "property" = none
  z_range : mg "range" = none
  z_str : mg "str" = none
  z_tuple : mg "tuple" = none
  z_zip : mg "zip" = none
  i_comb : mg "comb" = some (.builtin "math.comb")
  i_perm : mg "perm" = some (.builtin "math.perm")
  t_TOO_LONG : Tok
  c_TOO_LONG : mg "TOO_LONG" = some (.int 1000000000000000000000000000000000000000000000000000000000000 t_TOO_LONG)
  t_MAX_DEGREE : Tok
  c_MAX_DEGREE : mg "MAX_DEGREE" = some (.int 40 t_MAX_DEGREE)
  t_MOST_DEGREE : Tok
  c_MOST_DEGREE : mg "MOST_DEGREE" = some (.int 12 t_MOST_DEGREE)
  o_PRIMES : Addr
  c_PRIMES : mg "PRIMES" = some (.ref o_PRIMES)
  v_PRIMES : ∀ H, SqT K H o_PRIMES (([13, 17, 19, 23, 29, 31, 37, 41, 43, 47, 53, 59, 61, 67, 71, 73, 79, 83, 89, 97, 101] : List Int).map V.int)
end My
namespace My
open PySem PySem.Spec PyProof.Rows L2 Pr
section
variable {P : Program} {w : World} {K : PySem.W.Frag} {mg : Str → Option Value} {base : Heap}
def isI : V → Bool
  | .int i => decide (-(10 ^ 60) < i ∧ i < 10 ^ 60)
  | _ => false
def sp_is_integer : Sp := fun vs H Q _ => ∃ x, vs = [x] ∧ (∃ t, tyOf x H = some t) ∧ Q (.bl (isI x)) H
theorem kit_ii : kitB "int" "int" = some true := by decide +kernel
theorem kit_ib : kitB "int" "bool" = some false := by decide +kernel
theorem kit_bi : kitB "bool" "int" = some true := by decide +kernel
theorem kit_bb : kitB "bool" "bool" = some true := by decide +kernel
theorem kit_ni : kitB "NoneType" "int" = some false := by decide +kernel
theorem kit_si : kitB "str" "int" = some false := by decide +kernel
theorem kit_li : kitB "list" "int" = some false := by decide +kernel
theorem kit_ti : kitB "tuple" "int" = some false := by decide +kernel
theorem kit_di : kitB "dict" "int" = some false := by decide +kernel
theorem kit_tt : kitB "tuple" "tuple" = some true := by decide +kernel
theorem ok_is_integer (T : Tx K mg) : FnOk P w K mg base CX0 1 T.f_is_integer T.d_is_integer p_is_integer sp_is_integer := by
  refine T.F_is_integer.ok sc_is_integer (fun vs H Q E h => ?_) (fun cdv A outer s H vs Q E hr h => ?_)
  · obtain ⟨i, rfl, _⟩ := h
    rfl
  · obtain ⟨x, rfl, ⟨t, ht⟩, q⟩ := h
    refine ⟨_, (pss_cons (ps_if (PW.pt (pw_or (pt_not (pt_val (pe_callB cr_isiS (by rfl) T.z_isinstance (by decide +kernel) (pa_cons (pv 0) (pa_cons (pe_bltn (v := .ty "int") (by rfl) T.z_int (by decide +kernel) rfl) pa_nil))))) (pw_or1 (pt_val (pe_callB cr_isiS (by rfl) T.z_isinstance (by decide +kernel) (pa_cons (pv 0) (pa_cons (pe_bltn (v := .ty "bool") (by rfl) T.z_bool (by decide +kernel) rfl) pa_nil))))))) (pss_one (ps_ret pe_bl)) pss_nil)
      (pss_one (ps_ret (pe_chain op_lt op_lt (pe_un un_neg (pe_glob (v := .int 1000000000000000000000000000000000000000000000000000000000000) (by rfl) T.c_TOO_LONG ⟨_, rfl⟩)) (pv 0) (pe_glob (v := .int 1000000000000000000000000000000000000000000000000000000000000) (by rfl) T.c_TOO_LONG ⟨_, rfl⟩))))), ?_⟩
    rw [st_is_integer]
    rcases ty_cases ht with rfl | ⟨b, rfl⟩ | ⟨i, rfl⟩ | ⟨x, rfl⟩ | ⟨a, rfl, ht2⟩
    · simp only [ap_seq, ap_next, ap_asg, ap_gName, ap_ret, ap_retN, ap_drop, ap_ifS, ap_break, ap_cont, ap_par, ap_aug, ap_ip, ap_gSub, ap_gTup, ap_gNil, ap_gCons, ap_var, ap_c, ap_op, ap_un, ap_if, ap_test, ap_B, ap_and, ap_or, ap_not, ap_andV, ap_orV, ap_notV, ap_nil, ap_cons, ap_tup, ap_lst, ap_cb, ap_bm, ap_call, ap_chain, ap_rI, ap_rI0, ap_rU, ap_rEq, ap_rNe, ap_revT, ap_sl, ap_part, ap_noPart, ap_ixLI, ap_ixTI, ap_ixLV, ap_ixTV, ap_len, ap_setLI, ap_setLV, ap_appI, ap_appV, ap_tupL, ap_listS, ap_sumLI, ap_sumTI, ap_repLI, ap_intI, ap_intB, ap_eqTI, ap_neTI, ap_eqLI, ap_neLI, ap_isi, ap_for, ap_rng1, ap_rng2, ap_iList, ap_iTup, ap_lc, ap_yes, ap_cut, ap_gTupH, ap_fmt, ap_jsn, ap_jsc, ap_gcd, ap_isqrt, ap_ixL, tyV_l, wipe_nil, wipe_cons, upd_same, ap_iEnT, ap_iEnL, ap_iZipA, ap_all, ap_tupT, ap_attF, ap_makeL, ap_att, ap_prop, ap_isO, ap_bin, ap_ne, ap_meth, ap_make, ins_inj, FE_inj, ap_slI, ap_catI, ap_perm, ap_lenO, ap_strO, ap_listO, ap_reprB, ap_iterT, ap_neT, ap_negO, ap_binI, ap_catL, ap_tM1, ap_repTI, ap_popN, ap_par3, ap_catTT, ap_repTA, ap_countT, ap_notInT, ap_repL1, ap_cm, ap_shl, ap_shr, ap_mask, ap_comb, ap_bits, ap_rng3, List.set_cons_zero, List.set_cons_succ, List.getElem?_cons_zero, List.getElem?_cons_succ, List.cons_append, List.nil_append, List.append_nil, Option.some.injEq, V.int.injEq, V.ref.injEq, V.bl.injEq, V.str.injEq, V.ty.injEq, Bool.not_true, Bool.not_false, HO.lst.injEq, HO.tup.injEq, reduceCtorEq, Int.reduceToNat, Int.reduceLT, Int.reduceLE, Nat.reduceAdd, Int.cast_ofNat_Int, gi_c0, gi_c1, gi_c2, gi_c3, Int.natCast_inj, map_int_inj, map_nil_iff, List.cons.injEq, exists_eq_left, exists_eq_left', exists_eq, exists_eq', exists_and_left, exists_and_right, exists_const, and_assoc, and_true, true_and, and_false, false_and, or_false, false_or, or_true, true_or, ite_true, ite_false, if_true, if_false, Bool.false_eq_true, own_cons, own_nil, le1, le2, le3, le4, me_cons, me_nil, List.length_map, List.length_cons, List.length_nil, ne_eq, not_false_eq_true, not_true_eq_false, decide_eq_true_eq, ty_non, kit_ni]
      exact q
    · simp only [ap_seq, ap_next, ap_asg, ap_gName, ap_ret, ap_retN, ap_drop, ap_ifS, ap_break, ap_cont, ap_par, ap_aug, ap_ip, ap_gSub, ap_gTup, ap_gNil, ap_gCons, ap_var, ap_c, ap_op, ap_un, ap_if, ap_test, ap_B, ap_and, ap_or, ap_not, ap_andV, ap_orV, ap_notV, ap_nil, ap_cons, ap_tup, ap_lst, ap_cb, ap_bm, ap_call, ap_chain, ap_rI, ap_rI0, ap_rU, ap_rEq, ap_rNe, ap_revT, ap_sl, ap_part, ap_noPart, ap_ixLI, ap_ixTI, ap_ixLV, ap_ixTV, ap_len, ap_setLI, ap_setLV, ap_appI, ap_appV, ap_tupL, ap_listS, ap_sumLI, ap_sumTI, ap_repLI, ap_intI, ap_intB, ap_eqTI, ap_neTI, ap_eqLI, ap_neLI, ap_isi, ap_for, ap_rng1, ap_rng2, ap_iList, ap_iTup, ap_lc, ap_yes, ap_cut, ap_gTupH, ap_fmt, ap_jsn, ap_jsc, ap_gcd, ap_isqrt, ap_ixL, tyV_l, wipe_nil, wipe_cons, upd_same, ap_iEnT, ap_iEnL, ap_iZipA, ap_all, ap_tupT, ap_attF, ap_makeL, ap_att, ap_prop, ap_isO, ap_bin, ap_ne, ap_meth, ap_make, ins_inj, FE_inj, ap_slI, ap_catI, ap_perm, ap_lenO, ap_strO, ap_listO, ap_reprB, ap_iterT, ap_neT, ap_negO, ap_binI, ap_catL, ap_tM1, ap_repTI, ap_popN, ap_par3, ap_catTT, ap_repTA, ap_countT, ap_notInT, ap_repL1, ap_cm, ap_shl, ap_shr, ap_mask, ap_comb, ap_bits, ap_rng3, List.set_cons_zero, List.set_cons_succ, List.getElem?_cons_zero, List.getElem?_cons_succ, List.cons_append, List.nil_append, List.append_nil, Option.some.injEq, V.int.injEq, V.ref.injEq, V.bl.injEq, V.str.injEq, V.ty.injEq, Bool.not_true, Bool.not_false, HO.lst.injEq, HO.tup.injEq, reduceCtorEq, Int.reduceToNat, Int.reduceLT, Int.reduceLE, Nat.reduceAdd, Int.cast_ofNat_Int, gi_c0, gi_c1, gi_c2, gi_c3, Int.natCast_inj, map_int_inj, map_nil_iff, List.cons.injEq, exists_eq_left, exists_eq_left', exists_eq, exists_eq', exists_and_left, exists_and_right, exists_const, and_assoc, and_true, true_and, and_false, false_and, or_false, false_or, or_true, true_or, ite_true, ite_false, if_true, if_false, Bool.false_eq_true, own_cons, own_nil, le1, le2, le3, le4, me_cons, me_nil, List.length_map, List.length_cons, List.length_nil, ne_eq, not_false_eq_true, not_true_eq_false, decide_eq_true_eq, ty_bl, kit_bi, kit_bb]
      exact q
    · simp only [ap_seq, ap_next, ap_asg, ap_gName, ap_ret, ap_retN, ap_drop, ap_ifS, ap_break, ap_cont, ap_par, ap_aug, ap_ip, ap_gSub, ap_gTup, ap_gNil, ap_gCons, ap_var, ap_c, ap_op, ap_un, ap_if, ap_test, ap_B, ap_and, ap_or, ap_not, ap_andV, ap_orV, ap_notV, ap_nil, ap_cons, ap_tup, ap_lst, ap_cb, ap_bm, ap_call, ap_chain, ap_rI, ap_rI0, ap_rU, ap_rEq, ap_rNe, ap_revT, ap_sl, ap_part, ap_noPart, ap_ixLI, ap_ixTI, ap_ixLV, ap_ixTV, ap_len, ap_setLI, ap_setLV, ap_appI, ap_appV, ap_tupL, ap_listS, ap_sumLI, ap_sumTI, ap_repLI, ap_intI, ap_intB, ap_eqTI, ap_neTI, ap_eqLI, ap_neLI, ap_isi, ap_for, ap_rng1, ap_rng2, ap_iList, ap_iTup, ap_lc, ap_yes, ap_cut, ap_gTupH, ap_fmt, ap_jsn, ap_jsc, ap_gcd, ap_isqrt, ap_ixL, tyV_l, wipe_nil, wipe_cons, upd_same, ap_iEnT, ap_iEnL, ap_iZipA, ap_all, ap_tupT, ap_attF, ap_makeL, ap_att, ap_prop, ap_isO, ap_bin, ap_ne, ap_meth, ap_make, ins_inj, FE_inj, ap_slI, ap_catI, ap_perm, ap_lenO, ap_strO, ap_listO, ap_reprB, ap_iterT, ap_neT, ap_negO, ap_binI, ap_catL, ap_tM1, ap_repTI, ap_popN, ap_par3, ap_catTT, ap_repTA, ap_countT, ap_notInT, ap_repL1, ap_cm, ap_shl, ap_shr, ap_mask, ap_comb, ap_bits, ap_rng3, List.set_cons_zero, List.set_cons_succ, List.getElem?_cons_zero, List.getElem?_cons_succ, List.cons_append, List.nil_append, List.append_nil, Option.some.injEq, V.int.injEq, V.ref.injEq, V.bl.injEq, V.str.injEq, V.ty.injEq, Bool.not_true, Bool.not_false, HO.lst.injEq, HO.tup.injEq, reduceCtorEq, Int.reduceToNat, Int.reduceLT, Int.reduceLE, Nat.reduceAdd, Int.cast_ofNat_Int, gi_c0, gi_c1, gi_c2, gi_c3, Int.natCast_inj, map_int_inj, map_nil_iff, List.cons.injEq, exists_eq_left, exists_eq_left', exists_eq, exists_eq', exists_and_left, exists_and_right, exists_const, and_assoc, and_true, true_and, and_false, false_and, or_false, false_or, or_true, true_or, ite_true, ite_false, if_true, if_false, Bool.false_eq_true, own_cons, own_nil, le1, le2, le3, le4, me_cons, me_nil, List.length_map, List.length_cons, List.length_nil, ne_eq, not_false_eq_true, not_true_eq_false, decide_eq_true_eq, ty_int, kit_ii, kit_ib]
      have e : isI (.int i) = decide (-(10 ^ 60) < i ∧ i < 10 ^ 60) := rfl
      refine iteC (fun c => ?_) (fun c => ?_)
      · have : decide (i < 1000000000000000000000000000000000000000000000000000000000000) = isI (.int i) := by
          rw [e]
          exact decide_eq_decide.mpr (by omega)
        rw [this]
        exact q
      · have : false = isI (.int i) := by
          rw [e, decide_eq_false (by omega)]
        rw [this]
        exact q
    · simp only [ap_seq, ap_next, ap_asg, ap_gName, ap_ret, ap_retN, ap_drop, ap_ifS, ap_break, ap_cont, ap_par, ap_aug, ap_ip, ap_gSub, ap_gTup, ap_gNil, ap_gCons, ap_var, ap_c, ap_op, ap_un, ap_if, ap_test, ap_B, ap_and, ap_or, ap_not, ap_andV, ap_orV, ap_notV, ap_nil, ap_cons, ap_tup, ap_lst, ap_cb, ap_bm, ap_call, ap_chain, ap_rI, ap_rI0, ap_rU, ap_rEq, ap_rNe, ap_revT, ap_sl, ap_part, ap_noPart, ap_ixLI, ap_ixTI, ap_ixLV, ap_ixTV, ap_len, ap_setLI, ap_setLV, ap_appI, ap_appV, ap_tupL, ap_listS, ap_sumLI, ap_sumTI, ap_repLI, ap_intI, ap_intB, ap_eqTI, ap_neTI, ap_eqLI, ap_neLI, ap_isi, ap_for, ap_rng1, ap_rng2, ap_iList, ap_iTup, ap_lc, ap_yes, ap_cut, ap_gTupH, ap_fmt, ap_jsn, ap_jsc, ap_gcd, ap_isqrt, ap_ixL, tyV_l, wipe_nil, wipe_cons, upd_same, ap_iEnT, ap_iEnL, ap_iZipA, ap_all, ap_tupT, ap_attF, ap_makeL, ap_att, ap_prop, ap_isO, ap_bin, ap_ne, ap_meth, ap_make, ins_inj, FE_inj, ap_slI, ap_catI, ap_perm, ap_lenO, ap_strO, ap_listO, ap_reprB, ap_iterT, ap_neT, ap_negO, ap_binI, ap_catL, ap_tM1, ap_repTI, ap_popN, ap_par3, ap_catTT, ap_repTA, ap_countT, ap_notInT, ap_repL1, ap_cm, ap_shl, ap_shr, ap_mask, ap_comb, ap_bits, ap_rng3, List.set_cons_zero, List.set_cons_succ, List.getElem?_cons_zero, List.getElem?_cons_succ, List.cons_append, List.nil_append, List.append_nil, Option.some.injEq, V.int.injEq, V.ref.injEq, V.bl.injEq, V.str.injEq, V.ty.injEq, Bool.not_true, Bool.not_false, HO.lst.injEq, HO.tup.injEq, reduceCtorEq, Int.reduceToNat, Int.reduceLT, Int.reduceLE, Nat.reduceAdd, Int.cast_ofNat_Int, gi_c0, gi_c1, gi_c2, gi_c3, Int.natCast_inj, map_int_inj, map_nil_iff, List.cons.injEq, exists_eq_left, exists_eq_left', exists_eq, exists_eq', exists_and_left, exists_and_right, exists_const, and_assoc, and_true, true_and, and_false, false_and, or_false, false_or, or_true, true_or, ite_true, ite_false, if_true, if_false, Bool.false_eq_true, own_cons, own_nil, le1, le2, le3, le4, me_cons, me_nil, List.length_map, List.length_cons, List.length_nil, ne_eq, not_false_eq_true, not_true_eq_false, decide_eq_true_eq, ty_str, kit_si]
      exact q
    · rcases ht2 with rfl | rfl | rfl
      · simp only [ap_seq, ap_next, ap_asg, ap_gName, ap_ret, ap_retN, ap_drop, ap_ifS, ap_break, ap_cont, ap_par, ap_aug, ap_ip, ap_gSub, ap_gTup, ap_gNil, ap_gCons, ap_var, ap_c, ap_op, ap_un, ap_if, ap_test, ap_B, ap_and, ap_or, ap_not, ap_andV, ap_orV, ap_notV, ap_nil, ap_cons, ap_tup, ap_lst, ap_cb, ap_bm, ap_call, ap_chain, ap_rI, ap_rI0, ap_rU, ap_rEq, ap_rNe, ap_revT, ap_sl, ap_part, ap_noPart, ap_ixLI, ap_ixTI, ap_ixLV, ap_ixTV, ap_len, ap_setLI, ap_setLV, ap_appI, ap_appV, ap_tupL, ap_listS, ap_sumLI, ap_sumTI, ap_repLI, ap_intI, ap_intB, ap_eqTI, ap_neTI, ap_eqLI, ap_neLI, ap_isi, ap_for, ap_rng1, ap_rng2, ap_iList, ap_iTup, ap_lc, ap_yes, ap_cut, ap_gTupH, ap_fmt, ap_jsn, ap_jsc, ap_gcd, ap_isqrt, ap_ixL, tyV_l, wipe_nil, wipe_cons, upd_same, ap_iEnT, ap_iEnL, ap_iZipA, ap_all, ap_tupT, ap_attF, ap_makeL, ap_att, ap_prop, ap_isO, ap_bin, ap_ne, ap_meth, ap_make, ins_inj, FE_inj, ap_slI, ap_catI, ap_perm, ap_lenO, ap_strO, ap_listO, ap_reprB, ap_iterT, ap_neT, ap_negO, ap_binI, ap_catL, ap_tM1, ap_repTI, ap_popN, ap_par3, ap_catTT, ap_repTA, ap_countT, ap_notInT, ap_repL1, ap_cm, ap_shl, ap_shr, ap_mask, ap_comb, ap_bits, ap_rng3, List.set_cons_zero, List.set_cons_succ, List.getElem?_cons_zero, List.getElem?_cons_succ, List.cons_append, List.nil_append, List.append_nil, Option.some.injEq, V.int.injEq, V.ref.injEq, V.bl.injEq, V.str.injEq, V.ty.injEq, Bool.not_true, Bool.not_false, HO.lst.injEq, HO.tup.injEq, reduceCtorEq, Int.reduceToNat, Int.reduceLT, Int.reduceLE, Nat.reduceAdd, Int.cast_ofNat_Int, gi_c0, gi_c1, gi_c2, gi_c3, Int.natCast_inj, map_int_inj, map_nil_iff, List.cons.injEq, exists_eq_left, exists_eq_left', exists_eq, exists_eq', exists_and_left, exists_and_right, exists_const, and_assoc, and_true, true_and, and_false, false_and, or_false, false_or, or_true, true_or, ite_true, ite_false, if_true, if_false, Bool.false_eq_true, own_cons, own_nil, le1, le2, le3, le4, me_cons, me_nil, List.length_map, List.length_cons, List.length_nil, ne_eq, not_false_eq_true, not_true_eq_false, decide_eq_true_eq, ht, kit_li]
        exact q
      · simp only [ap_seq, ap_next, ap_asg, ap_gName, ap_ret, ap_retN, ap_drop, ap_ifS, ap_break, ap_cont, ap_par, ap_aug, ap_ip, ap_gSub, ap_gTup, ap_gNil, ap_gCons, ap_var, ap_c, ap_op, ap_un, ap_if, ap_test, ap_B, ap_and, ap_or, ap_not, ap_andV, ap_orV, ap_notV, ap_nil, ap_cons, ap_tup, ap_lst, ap_cb, ap_bm, ap_call, ap_chain, ap_rI, ap_rI0, ap_rU, ap_rEq, ap_rNe, ap_revT, ap_sl, ap_part, ap_noPart, ap_ixLI, ap_ixTI, ap_ixLV, ap_ixTV, ap_len, ap_setLI, ap_setLV, ap_appI, ap_appV, ap_tupL, ap_listS, ap_sumLI, ap_sumTI, ap_repLI, ap_intI, ap_intB, ap_eqTI, ap_neTI, ap_eqLI, ap_neLI, ap_isi, ap_for, ap_rng1, ap_rng2, ap_iList, ap_iTup, ap_lc, ap_yes, ap_cut, ap_gTupH, ap_fmt, ap_jsn, ap_jsc, ap_gcd, ap_isqrt, ap_ixL, tyV_l, wipe_nil, wipe_cons, upd_same, ap_iEnT, ap_iEnL, ap_iZipA, ap_all, ap_tupT, ap_attF, ap_makeL, ap_att, ap_prop, ap_isO, ap_bin, ap_ne, ap_meth, ap_make, ins_inj, FE_inj, ap_slI, ap_catI, ap_perm, ap_lenO, ap_strO, ap_listO, ap_reprB, ap_iterT, ap_neT, ap_negO, ap_binI, ap_catL, ap_tM1, ap_repTI, ap_popN, ap_par3, ap_catTT, ap_repTA, ap_countT, ap_notInT, ap_repL1, ap_cm, ap_shl, ap_shr, ap_mask, ap_comb, ap_bits, ap_rng3, List.set_cons_zero, List.set_cons_succ, List.getElem?_cons_zero, List.getElem?_cons_succ, List.cons_append, List.nil_append, List.append_nil, Option.some.injEq, V.int.injEq, V.ref.injEq, V.bl.injEq, V.str.injEq, V.ty.injEq, Bool.not_true, Bool.not_false, HO.lst.injEq, HO.tup.injEq, reduceCtorEq, Int.reduceToNat, Int.reduceLT, Int.reduceLE, Nat.reduceAdd, Int.cast_ofNat_Int, gi_c0, gi_c1, gi_c2, gi_c3, Int.natCast_inj, map_int_inj, map_nil_iff, List.cons.injEq, exists_eq_left, exists_eq_left', exists_eq, exists_eq', exists_and_left, exists_and_right, exists_const, and_assoc, and_true, true_and, and_false, false_and, or_false, false_or, or_true, true_or, ite_true, ite_false, if_true, if_false, Bool.false_eq_true, own_cons, own_nil, le1, le2, le3, le4, me_cons, me_nil, List.length_map, List.length_cons, List.length_nil, ne_eq, not_false_eq_true, not_true_eq_false, decide_eq_true_eq, ht, kit_ti]
        exact q
      · simp only [ap_seq, ap_next, ap_asg, ap_gName, ap_ret, ap_retN, ap_drop, ap_ifS, ap_break, ap_cont, ap_par, ap_aug, ap_ip, ap_gSub, ap_gTup, ap_gNil, ap_gCons, ap_var, ap_c, ap_op, ap_un, ap_if, ap_test, ap_B, ap_and, ap_or, ap_not, ap_andV, ap_orV, ap_notV, ap_nil, ap_cons, ap_tup, ap_lst, ap_cb, ap_bm, ap_call, ap_chain, ap_rI, ap_rI0, ap_rU, ap_rEq, ap_rNe, ap_revT, ap_sl, ap_part, ap_noPart, ap_ixLI, ap_ixTI, ap_ixLV, ap_ixTV, ap_len, ap_setLI, ap_setLV, ap_appI, ap_appV, ap_tupL, ap_listS, ap_sumLI, ap_sumTI, ap_repLI, ap_intI, ap_intB, ap_eqTI, ap_neTI, ap_eqLI, ap_neLI, ap_isi, ap_for, ap_rng1, ap_rng2, ap_iList, ap_iTup, ap_lc, ap_yes, ap_cut, ap_gTupH, ap_fmt, ap_jsn, ap_jsc, ap_gcd, ap_isqrt, ap_ixL, tyV_l, wipe_nil, wipe_cons, upd_same, ap_iEnT, ap_iEnL, ap_iZipA, ap_all, ap_tupT, ap_attF, ap_makeL, ap_att, ap_prop, ap_isO, ap_bin, ap_ne, ap_meth, ap_make, ins_inj, FE_inj, ap_slI, ap_catI, ap_perm, ap_lenO, ap_strO, ap_listO, ap_reprB, ap_iterT, ap_neT, ap_negO, ap_binI, ap_catL, ap_tM1, ap_repTI, ap_popN, ap_par3, ap_catTT, ap_repTA, ap_countT, ap_notInT, ap_repL1, ap_cm, ap_shl, ap_shr, ap_mask, ap_comb, ap_bits, ap_rng3, List.set_cons_zero, List.set_cons_succ, List.getElem?_cons_zero, List.getElem?_cons_succ, List.cons_append, List.nil_append, List.append_nil, Option.some.injEq, V.int.injEq, V.ref.injEq, V.bl.injEq, V.str.injEq, V.ty.injEq, Bool.not_true, Bool.not_false, HO.lst.injEq, HO.tup.injEq, reduceCtorEq, Int.reduceToNat, Int.reduceLT, Int.reduceLE, Nat.reduceAdd, Int.cast_ofNat_Int, gi_c0, gi_c1, gi_c2, gi_c3, Int.natCast_inj, map_int_inj, map_nil_iff, List.cons.injEq, exists_eq_left, exists_eq_left', exists_eq, exists_eq', exists_and_left, exists_and_right, exists_const, and_assoc, and_true, true_and, and_false, false_and, or_false, false_or, or_true, true_or, ite_true, ite_false, if_true, if_false, Bool.false_eq_true, own_cons, own_nil, le1, le2, le3, le4, me_cons, me_nil, List.length_map, List.length_cons, List.length_nil, ne_eq, not_false_eq_true, not_true_eq_false, decide_eq_true_eq, ht, kit_di]
        exact q
/-- an int of less than sixty digits -/
def Sm (n : Int) : Prop := -(10 ^ 60) < n ∧ n < 10 ^ 60
def Wd (n : Int) : Prop := -(2 ^ 250) ^ 16 < n ∧ n < (2 ^ 250) ^ 16
def sp_is_row : Sp := fun vs H Q _ => ∃ (p : Addr) (ns : List Int), vs = [.ref p] ∧ H p = some (TI ns) ∧ ns.length < 1000 ∧ (∀ n ∈ ns, Sm n) ∧ ∀ H', Same H H' → Q (.bl true) H'
theorem ok_is_row (T : Tx K mg) : FnOk P w K mg base CX0 4 T.f_is_row T.d_is_row p_is_row sp_is_row := by
  refine T.F_is_row.ok sc_is_row (fun vs H Q E h => ?_) (fun cdv A outer s H vs Q E hr h => ?_)
  · obtain ⟨p, ns, rfl, _⟩ := h
    rfl
  · obtain ⟨p, ns, rfl, hp, hl, hn, q⟩ := h
    refine ⟨_, (pss_one (ps_ret (pe_and (pe_callB cr_isiS (by rfl) T.z_isinstance (by decide +kernel) (pa_cons (pv 0) (pa_cons (pe_bltn (v := .ty "tuple") (by rfl) T.z_tuple (by decide +kernel) rfl) pa_nil))) (pe_one (pe_callB (cr_all rfl) (by rfl) T.z_all (by decide +kernel) (pa_cons (pe_lc (own := [("part", 1)]) (g := gName 1) (tt := tYes) rfl sc_is_row.nd (pi_tup (pv 0)) (blkOk_by (N := n_is_row) (sc := defScope s_is_row) (by decide +kernel)) (fun _ _ _ _ _ => (pg_name (i := 1) sc_is_row.nd rfl (by first | exact .inl rfl | exact .inr rfl))) (fun _ _ _ _ _ => pts_nil) (fun _ _ _ _ _ => (pe_call (ok_is_integer T) (hr.mono (by decide)) (by rfl) T.m_is_integer T.F_is_integer.kp T.b_is_integer .nil pass0 (pa_cons (pv 1) pa_nil)))) pa_nil)))))), ?_⟩
    rw [st_is_row]
    have ht := ty_tup hp
    simp only [ap_seq, ap_next, ap_asg, ap_gName, ap_ret, ap_retN, ap_drop, ap_ifS, ap_break, ap_cont, ap_par, ap_aug, ap_ip, ap_gSub, ap_gTup, ap_gNil, ap_gCons, ap_var, ap_c, ap_op, ap_un, ap_if, ap_test, ap_B, ap_and, ap_or, ap_not, ap_andV, ap_orV, ap_notV, ap_nil, ap_cons, ap_tup, ap_lst, ap_cb, ap_bm, ap_call, ap_chain, ap_rI, ap_rI0, ap_rU, ap_rEq, ap_rNe, ap_revT, ap_sl, ap_part, ap_noPart, ap_ixLI, ap_ixTI, ap_ixLV, ap_ixTV, ap_len, ap_setLI, ap_setLV, ap_appI, ap_appV, ap_tupL, ap_listS, ap_sumLI, ap_sumTI, ap_repLI, ap_intI, ap_intB, ap_eqTI, ap_neTI, ap_eqLI, ap_neLI, ap_isi, ap_for, ap_rng1, ap_rng2, ap_iList, ap_iTup, ap_lc, ap_yes, ap_cut, ap_gTupH, ap_fmt, ap_jsn, ap_jsc, ap_gcd, ap_isqrt, ap_ixL, tyV_l, wipe_nil, wipe_cons, upd_same, ap_iEnT, ap_iEnL, ap_iZipA, ap_all, ap_tupT, ap_attF, ap_makeL, ap_att, ap_prop, ap_isO, ap_bin, ap_ne, ap_meth, ap_make, ins_inj, FE_inj, ap_slI, ap_catI, ap_perm, ap_lenO, ap_strO, ap_listO, ap_reprB, ap_iterT, ap_neT, ap_negO, ap_binI, ap_catL, ap_tM1, ap_repTI, ap_popN, ap_par3, ap_catTT, ap_repTA, ap_countT, ap_notInT, ap_repL1, ap_cm, ap_shl, ap_shr, ap_mask, ap_comb, ap_bits, ap_rng3, List.set_cons_zero, List.set_cons_succ, List.getElem?_cons_zero, List.getElem?_cons_succ, List.cons_append, List.nil_append, List.append_nil, Option.some.injEq, V.int.injEq, V.ref.injEq, V.bl.injEq, V.str.injEq, V.ty.injEq, Bool.not_true, Bool.not_false, HO.lst.injEq, HO.tup.injEq, reduceCtorEq, Int.reduceToNat, Int.reduceLT, Int.reduceLE, Nat.reduceAdd, Int.cast_ofNat_Int, gi_c0, gi_c1, gi_c2, gi_c3, Int.natCast_inj, map_int_inj, map_nil_iff, List.cons.injEq, exists_eq_left, exists_eq_left', exists_eq, exists_eq', exists_and_left, exists_and_right, exists_const, and_assoc, and_true, true_and, and_false, false_and, or_false, false_or, or_true, true_or, ite_true, ite_false, if_true, if_false, Bool.false_eq_true, own_cons, own_nil, le1, le2, le3, le4, me_cons, me_nil, List.length_map, List.length_cons, List.length_nil, ne_eq, not_false_eq_true, not_true_eq_false, decide_eq_true_eq, ht, kit_tt, sp_is_integer]
    refine ⟨⟨_, sqT_of hp⟩, lc_tupV (fun _ => .bl true) hp (by rw [List.length_map]; omega) (fun x => rfl) (fun i x G hx sm Q' hq => ?_) (fun D G nD sm eD => ?_)⟩
    · obtain ⟨n, hn1, rfl⟩ : ∃ n, n ∈ ns ∧ x = .int n := by
        rw [List.getElem?_map, Option.map_eq_some_iff] at hx
        obtain ⟨n, e1, e2⟩ := hx
        exact ⟨n, List.mem_of_getElem? e1, e2.symm⟩
      simp only [ap_seq, ap_next, ap_asg, ap_gName, ap_ret, ap_retN, ap_drop, ap_ifS, ap_break, ap_cont, ap_par, ap_aug, ap_ip, ap_gSub, ap_gTup, ap_gNil, ap_gCons, ap_var, ap_c, ap_op, ap_un, ap_if, ap_test, ap_B, ap_and, ap_or, ap_not, ap_andV, ap_orV, ap_notV, ap_nil, ap_cons, ap_tup, ap_lst, ap_cb, ap_bm, ap_call, ap_chain, ap_rI, ap_rI0, ap_rU, ap_rEq, ap_rNe, ap_revT, ap_sl, ap_part, ap_noPart, ap_ixLI, ap_ixTI, ap_ixLV, ap_ixTV, ap_len, ap_setLI, ap_setLV, ap_appI, ap_appV, ap_tupL, ap_listS, ap_sumLI, ap_sumTI, ap_repLI, ap_intI, ap_intB, ap_eqTI, ap_neTI, ap_eqLI, ap_neLI, ap_isi, ap_for, ap_rng1, ap_rng2, ap_iList, ap_iTup, ap_lc, ap_yes, ap_cut, ap_gTupH, ap_fmt, ap_jsn, ap_jsc, ap_gcd, ap_isqrt, ap_ixL, tyV_l, wipe_nil, wipe_cons, upd_same, ap_iEnT, ap_iEnL, ap_iZipA, ap_all, ap_tupT, ap_attF, ap_makeL, ap_att, ap_prop, ap_isO, ap_bin, ap_ne, ap_meth, ap_make, ins_inj, FE_inj, ap_slI, ap_catI, ap_perm, ap_lenO, ap_strO, ap_listO, ap_reprB, ap_iterT, ap_neT, ap_negO, ap_binI, ap_catL, ap_tM1, ap_repTI, ap_popN, ap_par3, ap_catTT, ap_repTA, ap_countT, ap_notInT, ap_repL1, ap_cm, ap_shl, ap_shr, ap_mask, ap_comb, ap_bits, ap_rng3, List.set_cons_zero, List.set_cons_succ, List.getElem?_cons_zero, List.getElem?_cons_succ, List.cons_append, List.nil_append, List.append_nil, Option.some.injEq, V.int.injEq, V.ref.injEq, V.bl.injEq, V.str.injEq, V.ty.injEq, Bool.not_true, Bool.not_false, HO.lst.injEq, HO.tup.injEq, reduceCtorEq, Int.reduceToNat, Int.reduceLT, Int.reduceLE, Nat.reduceAdd, Int.cast_ofNat_Int, gi_c0, gi_c1, gi_c2, gi_c3, Int.natCast_inj, map_int_inj, map_nil_iff, List.cons.injEq, exists_eq_left, exists_eq_left', exists_eq, exists_eq', exists_and_left, exists_and_right, exists_const, and_assoc, and_true, true_and, and_false, false_and, or_false, false_or, or_true, true_or, ite_true, ite_false, if_true, if_false, Bool.false_eq_true, own_cons, own_nil, le1, le2, le3, le4, me_cons, me_nil, List.length_map, List.length_cons, List.length_nil, ne_eq, not_false_eq_true, not_true_eq_false, decide_eq_true_eq]
      have e : isI (.int n) = true := decide_eq_true (hn n hn1)
      refine ⟨_, rfl, ⟨_, rfl⟩, ?_⟩
      rw [e]
      exact hq G (Same.refl G)
    · refine ⟨_, rfl, (List.range ns.length).map fun _ => true, sqL_of ?_, ?_⟩
      · rw [eD, List.length_map, List.map_map]
        rfl
      · have e : ((List.range ns.length).map fun _ => true).all id = true := by simp
        rw [e]
        exact q G sm
/-- the place of the first entry other than 0 -/
def leadV (ns : List Int) : V := match ns.findIdx? (fun n => decide (n ≠ 0)) with
  | none => .non
  | some i => .int (i : Nat)
theorem free_of {H H' : Hp} {l : Addr} (s : Same H H') (n : H' l = none) : H l = none := by
  rcases e : H l with _ | o
  · rfl
  · rw [s _ _ e] at n
    cases n
theorem leadV_none {ns : List Int} (h : ∀ n ∈ ns.take ns.length, n = 0) : leadV ns = .non := by
  rw [List.take_length] at h
  have e : ns.findIdx? (fun n => decide (n ≠ 0)) = none := by
    rw [List.findIdx?_eq_none_iff]
    intro n hn
    simp [h n hn]
  unfold leadV
  rw [e]
theorem leadV_some {ns : List Int} {i : Nat} {n : Int} (h : ∀ n ∈ ns.take i, n = 0) (e : ns[i]? = some n) (hn : n ≠ 0) : leadV ns = .int (i : Nat) := by
  obtain ⟨hi, e2⟩ := List.getElem?_eq_some_iff.mp e
  have e : ns.findIdx? (fun n => decide (n ≠ 0)) = some i := by
    rw [List.findIdx?_eq_some_iff_getElem]
    refine ⟨hi, by simp [e2, hn], fun j hj => ?_⟩
    have : ns[j] = 0 := h _ (List.mem_take_iff_getElem.mpr ⟨j, by omega, rfl⟩)
    simp [this]
  unfold leadV
  rw [e]
theorem at_int {ns : List Int} {i : Nat} {x : V} (h : (ns.map V.int)[i]? = some x) : ∃ n, x = .int n ∧ ns[i]? = some n := by
  rw [List.getElem?_map, Option.map_eq_some_iff] at h
  obtain ⟨n, e1, e2⟩ := h
  exact ⟨n, e2.symm, e1⟩
theorem take_step {ns : List Int} {i : Nat} {n : Int} {p : Int → Prop} (h : ∀ m ∈ ns.take i, p m) (e : ns[i]? = some n) (hn : p n) : ∀ m ∈ ns.take (i + 1), p m := by
  rw [List.take_succ, e]
  intro m hm
  rcases List.mem_append.mp hm with h1 | h1
  · exact h m h1
  · rw [show m = n by simpa using h1]
    exact hn
def sp_lead_of : Sp := fun vs H Q _ => ∃ (p : Addr) (ns : List Int), vs = [.ref p] ∧ H p = some (TI ns) ∧ ∀ H', Same H H' → Q (leadV ns) H'
theorem ok_lead_of (T : Tx K mg) : FnOk P w K mg base CX0 1 T.f_lead_of T.d_lead_of p_lead_of sp_lead_of := by
  refine T.F_lead_of.ok sc_lead_of (fun vs H Q E h => ?_) (fun cdv A outer s H vs Q E hr h => ?_)
  · obtain ⟨p, ns, rfl, _⟩ := h
    rfl
  · obtain ⟨p, ns, rfl, hp, q⟩ := h
    refine ⟨_, (pss_cons (ps_for PassesOwn.never rfl (pi_enT (by rfl) T.z_enumerate (pa_cons (pv 0) pa_nil)) (pg_tupH (n := 2) (by rfl) (pgs_cons (pg_name (i := 1) sc_lead_of.nd rfl (by first | exact .inl rfl | exact .inr rfl)) (pgs_cons (pg_name (i := 2) sc_lead_of.nd rfl (by first | exact .inl rfl | exact .inr rfl)) pgs_nil)))
      (pss_one (ps_if (pt_cmpR op_ne (pv 2) pe_int (nomark _)) (pss_one (ps_ret (pv 1))) pss_nil)))
      (pss_one (ps_ret pe_non))), ?_⟩
    rw [st_lead_of]
    simp only [ap_seq, ap_next, ap_asg, ap_gName, ap_ret, ap_retN, ap_drop, ap_ifS, ap_break, ap_cont, ap_par, ap_aug, ap_ip, ap_gSub, ap_gTup, ap_gNil, ap_gCons, ap_var, ap_c, ap_op, ap_un, ap_if, ap_test, ap_B, ap_and, ap_or, ap_not, ap_andV, ap_orV, ap_notV, ap_nil, ap_cons, ap_tup, ap_lst, ap_cb, ap_bm, ap_call, ap_chain, ap_rI, ap_rI0, ap_rU, ap_rEq, ap_rNe, ap_revT, ap_sl, ap_part, ap_noPart, ap_ixLI, ap_ixTI, ap_ixLV, ap_ixTV, ap_len, ap_setLI, ap_setLV, ap_appI, ap_appV, ap_tupL, ap_listS, ap_sumLI, ap_sumTI, ap_repLI, ap_intI, ap_intB, ap_eqTI, ap_neTI, ap_eqLI, ap_neLI, ap_isi, ap_for, ap_rng1, ap_rng2, ap_iList, ap_iTup, ap_lc, ap_yes, ap_cut, ap_gTupH, ap_fmt, ap_jsn, ap_jsc, ap_gcd, ap_isqrt, ap_ixL, tyV_l, wipe_nil, wipe_cons, upd_same, ap_iEnT, ap_iEnL, ap_iZipA, ap_all, ap_tupT, ap_attF, ap_makeL, ap_att, ap_prop, ap_isO, ap_bin, ap_ne, ap_meth, ap_make, ins_inj, FE_inj, ap_slI, ap_catI, ap_perm, ap_lenO, ap_strO, ap_listO, ap_reprB, ap_iterT, ap_neT, ap_negO, ap_binI, ap_catL, ap_tM1, ap_repTI, ap_popN, ap_par3, ap_catTT, ap_repTA, ap_countT, ap_notInT, ap_repL1, ap_cm, ap_shl, ap_shr, ap_mask, ap_comb, ap_bits, ap_rng3, List.set_cons_zero, List.set_cons_succ, List.getElem?_cons_zero, List.getElem?_cons_succ, List.cons_append, List.nil_append, List.append_nil, Option.some.injEq, V.int.injEq, V.ref.injEq, V.bl.injEq, V.str.injEq, V.ty.injEq, Bool.not_true, Bool.not_false, HO.lst.injEq, HO.tup.injEq, reduceCtorEq, Int.reduceToNat, Int.reduceLT, Int.reduceLE, Nat.reduceAdd, Int.cast_ofNat_Int, gi_c0, gi_c1, gi_c2, gi_c3, Int.natCast_inj, map_int_inj, map_nil_iff, List.cons.injEq, exists_eq_left, exists_eq_left', exists_eq, exists_eq', exists_and_left, exists_and_right, exists_const, and_assoc, and_true, true_and, and_false, false_and, or_false, false_or, or_true, true_or, ite_true, ite_false, if_true, if_false, Bool.false_eq_true, own_cons, own_nil, le1, le2, le3, le4, me_cons, me_nil, List.length_map, List.length_cons, List.length_nil, ne_eq, not_false_eq_true, not_true_eq_false, decide_eq_true_eq]
    refine ⟨⟨_, sqT_of hp⟩, loop_pair gives_en (fun i σ' H' => (∃ y z, σ' = [some (V.ref p), y, z]) ∧ Same H H' ∧ ∀ n ∈ ns.take i, n = 0) ⟨⟨_, _, rfl⟩, Same.refl H, by simp⟩ (fun i σ' H' hi hP => hP.2.1 _ _ hp) (fun i v x t σ' G hi hP nt hy => ?_) (fun σ' G hP => ?_)⟩
    · obtain ⟨⟨y, z, e⟩, sm, hz⟩ := hP
      obtain ⟨rfl, hx⟩ := hy
      obtain ⟨n, rfl, en⟩ := at_int hx
      subst e
      simp only [ap_seq, ap_next, ap_asg, ap_gName, ap_ret, ap_retN, ap_drop, ap_ifS, ap_break, ap_cont, ap_par, ap_aug, ap_ip, ap_gSub, ap_gTup, ap_gNil, ap_gCons, ap_var, ap_c, ap_op, ap_un, ap_if, ap_test, ap_B, ap_and, ap_or, ap_not, ap_andV, ap_orV, ap_notV, ap_nil, ap_cons, ap_tup, ap_lst, ap_cb, ap_bm, ap_call, ap_chain, ap_rI, ap_rI0, ap_rU, ap_rEq, ap_rNe, ap_revT, ap_sl, ap_part, ap_noPart, ap_ixLI, ap_ixTI, ap_ixLV, ap_ixTV, ap_len, ap_setLI, ap_setLV, ap_appI, ap_appV, ap_tupL, ap_listS, ap_sumLI, ap_sumTI, ap_repLI, ap_intI, ap_intB, ap_eqTI, ap_neTI, ap_eqLI, ap_neLI, ap_isi, ap_for, ap_rng1, ap_rng2, ap_iList, ap_iTup, ap_lc, ap_yes, ap_cut, ap_gTupH, ap_fmt, ap_jsn, ap_jsc, ap_gcd, ap_isqrt, ap_ixL, tyV_l, wipe_nil, wipe_cons, upd_same, ap_iEnT, ap_iEnL, ap_iZipA, ap_all, ap_tupT, ap_attF, ap_makeL, ap_att, ap_prop, ap_isO, ap_bin, ap_ne, ap_meth, ap_make, ins_inj, FE_inj, ap_slI, ap_catI, ap_perm, ap_lenO, ap_strO, ap_listO, ap_reprB, ap_iterT, ap_neT, ap_negO, ap_binI, ap_catL, ap_tM1, ap_repTI, ap_popN, ap_par3, ap_catTT, ap_repTA, ap_countT, ap_notInT, ap_repL1, ap_cm, ap_shl, ap_shr, ap_mask, ap_comb, ap_bits, ap_rng3, List.set_cons_zero, List.set_cons_succ, List.getElem?_cons_zero, List.getElem?_cons_succ, List.cons_append, List.nil_append, List.append_nil, Option.some.injEq, V.int.injEq, V.ref.injEq, V.bl.injEq, V.str.injEq, V.ty.injEq, Bool.not_true, Bool.not_false, HO.lst.injEq, HO.tup.injEq, reduceCtorEq, Int.reduceToNat, Int.reduceLT, Int.reduceLE, Nat.reduceAdd, Int.cast_ofNat_Int, gi_c0, gi_c1, gi_c2, gi_c3, Int.natCast_inj, map_int_inj, map_nil_iff, List.cons.injEq, exists_eq_left, exists_eq_left', exists_eq, exists_eq', exists_and_left, exists_and_right, exists_const, and_assoc, and_true, true_and, and_false, false_and, or_false, false_or, or_true, true_or, ite_true, ite_false, if_true, if_false, Bool.false_eq_true, own_cons, own_nil, le1, le2, le3, le4, me_cons, me_nil, List.length_map, List.length_cons, List.length_nil, ne_eq, not_false_eq_true, not_true_eq_false, decide_eq_true_eq]
      have s2 := sm.trans (same_upd (o := HO.tup [V.int (i : Nat), V.int n]) nt)
      refine ⟨rfl, iteC (fun c => ?_) (fun c => ⟨s2, take_step hz en (by simpa using c)⟩)⟩
      have q2 := q _ s2
      rw [leadV_some hz en (by simpa using c)] at q2
      exact q2
    · obtain ⟨⟨y, z, e⟩, sm, hz⟩ := hP
      subst e
      rw [List.length_map] at hz
      simp only [ap_seq, ap_next, ap_asg, ap_gName, ap_ret, ap_retN, ap_drop, ap_ifS, ap_break, ap_cont, ap_par, ap_aug, ap_ip, ap_gSub, ap_gTup, ap_gNil, ap_gCons, ap_var, ap_c, ap_op, ap_un, ap_if, ap_test, ap_B, ap_and, ap_or, ap_not, ap_andV, ap_orV, ap_notV, ap_nil, ap_cons, ap_tup, ap_lst, ap_cb, ap_bm, ap_call, ap_chain, ap_rI, ap_rI0, ap_rU, ap_rEq, ap_rNe, ap_revT, ap_sl, ap_part, ap_noPart, ap_ixLI, ap_ixTI, ap_ixLV, ap_ixTV, ap_len, ap_setLI, ap_setLV, ap_appI, ap_appV, ap_tupL, ap_listS, ap_sumLI, ap_sumTI, ap_repLI, ap_intI, ap_intB, ap_eqTI, ap_neTI, ap_eqLI, ap_neLI, ap_isi, ap_for, ap_rng1, ap_rng2, ap_iList, ap_iTup, ap_lc, ap_yes, ap_cut, ap_gTupH, ap_fmt, ap_jsn, ap_jsc, ap_gcd, ap_isqrt, ap_ixL, tyV_l, wipe_nil, wipe_cons, upd_same, ap_iEnT, ap_iEnL, ap_iZipA, ap_all, ap_tupT, ap_attF, ap_makeL, ap_att, ap_prop, ap_isO, ap_bin, ap_ne, ap_meth, ap_make, ins_inj, FE_inj, ap_slI, ap_catI, ap_perm, ap_lenO, ap_strO, ap_listO, ap_reprB, ap_iterT, ap_neT, ap_negO, ap_binI, ap_catL, ap_tM1, ap_repTI, ap_popN, ap_par3, ap_catTT, ap_repTA, ap_countT, ap_notInT, ap_repL1, ap_cm, ap_shl, ap_shr, ap_mask, ap_comb, ap_bits, ap_rng3, List.set_cons_zero, List.set_cons_succ, List.getElem?_cons_zero, List.getElem?_cons_succ, List.cons_append, List.nil_append, List.append_nil, Option.some.injEq, V.int.injEq, V.ref.injEq, V.bl.injEq, V.str.injEq, V.ty.injEq, Bool.not_true, Bool.not_false, HO.lst.injEq, HO.tup.injEq, reduceCtorEq, Int.reduceToNat, Int.reduceLT, Int.reduceLE, Nat.reduceAdd, Int.cast_ofNat_Int, gi_c0, gi_c1, gi_c2, gi_c3, Int.natCast_inj, map_int_inj, map_nil_iff, List.cons.injEq, exists_eq_left, exists_eq_left', exists_eq, exists_eq', exists_and_left, exists_and_right, exists_const, and_assoc, and_true, true_and, and_false, false_and, or_false, false_or, or_true, true_or, ite_true, ite_false, if_true, if_false, Bool.false_eq_true, own_cons, own_nil, le1, le2, le3, le4, me_cons, me_nil, List.length_map, List.length_cons, List.length_nil, ne_eq, not_false_eq_true, not_true_eq_false, decide_eq_true_eq]
      have q2 := q _ sm
      rw [leadV_none hz] at q2
      exact q2
/-- the greatest common divisor of all -/
def gcdL (ns : List Int) : Int := ns.foldl (fun a b => (Int.gcd a b : Nat)) 0
def sp_sum_row : Sp := fun vs H Q _ => ∃ (p q : Addr) (ns ms : List Int), vs = [.ref p, .ref q] ∧ H p = some (TI ns) ∧ H q = some (TI ms) ∧ ns.length = ms.length ∧ ns.length < 1000 ∧
  ∀ H' r, Same H H' → H r = none → H' r = some (TI (List.zipWith (· + ·) ns ms)) → Q (.ref r) H'
theorem ok_sum_row (T : Tx K mg) : FnOk P w K mg base CX0 1 T.f_sum_row T.d_sum_row p_sum_row sp_sum_row := by
  refine T.F_sum_row.ok sc_sum_row (fun vs H Q E h => ?_) (fun cdv A outer s H vs Q E hr h => ?_)
  · obtain ⟨p, q, ns, ms, rfl, _⟩ := h
    rfl
  · obtain ⟨p, q, ns, ms, rfl, hp, hq, hl, h1, k⟩ := h
    refine ⟨_, (pss_one (ps_ret (pe_callTy cr_tupL (by rfl) T.z_tuple (by decide +kernel) (pa_cons (pe_lc (own := [("first", 2), ("second", 3)]) (tt := tYes) rfl sc_sum_row.nd (RZ.pi_zipA (by rfl) T.z_zip (pa_cons (pv 0) (pa_cons (pv 1) pa_nil))) (blkOk_by (N := n_sum_row) (sc := defScope s_sum_row) (by decide +kernel)) (fun _ _ _ _ _ => (pg_tupH (n := 2) (by rfl) (pgs_cons (pg_name (i := 2) sc_sum_row.nd rfl (by first | exact .inl rfl | exact .inr rfl)) (pgs_cons (pg_name (i := 3) sc_sum_row.nd rfl (by first | exact .inl rfl | exact .inr rfl)) pgs_nil)))) (fun _ _ _ _ _ => pts_nil) (fun _ _ _ _ _ => (pe_op op_add (pv 2) (pv 3)))) pa_nil)))), ?_⟩
    rw [st_sum_row]
    simp only [ap_seq, ap_next, ap_asg, ap_gName, ap_ret, ap_retN, ap_drop, ap_ifS, ap_break, ap_cont, ap_par, ap_aug, ap_ip, ap_gSub, ap_gTup, ap_gNil, ap_gCons, ap_var, ap_c, ap_op, ap_un, ap_if, ap_test, ap_B, ap_and, ap_or, ap_not, ap_andV, ap_orV, ap_notV, ap_nil, ap_cons, ap_tup, ap_lst, ap_cb, ap_bm, ap_call, ap_chain, ap_rI, ap_rI0, ap_rU, ap_rEq, ap_rNe, ap_revT, ap_sl, ap_part, ap_noPart, ap_ixLI, ap_ixTI, ap_ixLV, ap_ixTV, ap_len, ap_setLI, ap_setLV, ap_appI, ap_appV, ap_tupL, ap_listS, ap_sumLI, ap_sumTI, ap_repLI, ap_intI, ap_intB, ap_eqTI, ap_neTI, ap_eqLI, ap_neLI, ap_isi, ap_for, ap_rng1, ap_rng2, ap_iList, ap_iTup, ap_lc, ap_yes, ap_cut, ap_gTupH, ap_fmt, ap_jsn, ap_jsc, ap_gcd, ap_isqrt, ap_ixL, tyV_l, wipe_nil, wipe_cons, upd_same, ap_iEnT, ap_iEnL, ap_iZipA, ap_all, ap_tupT, ap_attF, ap_makeL, ap_att, ap_prop, ap_isO, ap_bin, ap_ne, ap_meth, ap_make, ins_inj, FE_inj, ap_slI, ap_catI, ap_perm, ap_lenO, ap_strO, ap_listO, ap_reprB, ap_iterT, ap_neT, ap_negO, ap_binI, ap_catL, ap_tM1, ap_repTI, ap_popN, ap_par3, ap_catTT, ap_repTA, ap_countT, ap_notInT, ap_repL1, ap_cm, ap_shl, ap_shr, ap_mask, ap_comb, ap_bits, ap_rng3, List.set_cons_zero, List.set_cons_succ, List.getElem?_cons_zero, List.getElem?_cons_succ, List.cons_append, List.nil_append, List.append_nil, Option.some.injEq, V.int.injEq, V.ref.injEq, V.bl.injEq, V.str.injEq, V.ty.injEq, Bool.not_true, Bool.not_false, HO.lst.injEq, HO.tup.injEq, reduceCtorEq, Int.reduceToNat, Int.reduceLT, Int.reduceLE, Nat.reduceAdd, Int.cast_ofNat_Int, gi_c0, gi_c1, gi_c2, gi_c3, Int.natCast_inj, map_int_inj, map_nil_iff, List.cons.injEq, exists_eq_left, exists_eq_left', exists_eq, exists_eq', exists_and_left, exists_and_right, exists_const, and_assoc, and_true, true_and, and_false, false_and, or_false, false_or, or_true, true_or, ite_true, ite_false, if_true, if_false, Bool.false_eq_true, own_cons, own_nil, le1, le2, le3, le4, me_cons, me_nil, List.length_map, List.length_cons, List.length_nil, ne_eq, not_false_eq_true, not_true_eq_false, decide_eq_true_eq]
    refine ⟨_, _, .inr ⟨sqT_of hp, sqT_of hq, lc_pairI (gives_zipT (by simpa using hl)) (fun i => ns.getD i 0 + ms.getD i 0) (by rw [List.length_map]; omega) (fun H' s => ⟨s _ _ hp, s _ _ hq⟩) (fun x y => rfl) (fun i a b H' hi r sm Q' k' => ?_) (fun A H' hA sm e => ?_)⟩⟩
    · obtain ⟨r1, r2⟩ := r
      obtain ⟨n, rfl, en⟩ := at_int r1
      obtain ⟨m, rfl, em⟩ := at_int r2
      simp only [ap_seq, ap_next, ap_asg, ap_gName, ap_ret, ap_retN, ap_drop, ap_ifS, ap_break, ap_cont, ap_par, ap_aug, ap_ip, ap_gSub, ap_gTup, ap_gNil, ap_gCons, ap_var, ap_c, ap_op, ap_un, ap_if, ap_test, ap_B, ap_and, ap_or, ap_not, ap_andV, ap_orV, ap_notV, ap_nil, ap_cons, ap_tup, ap_lst, ap_cb, ap_bm, ap_call, ap_chain, ap_rI, ap_rI0, ap_rU, ap_rEq, ap_rNe, ap_revT, ap_sl, ap_part, ap_noPart, ap_ixLI, ap_ixTI, ap_ixLV, ap_ixTV, ap_len, ap_setLI, ap_setLV, ap_appI, ap_appV, ap_tupL, ap_listS, ap_sumLI, ap_sumTI, ap_repLI, ap_intI, ap_intB, ap_eqTI, ap_neTI, ap_eqLI, ap_neLI, ap_isi, ap_for, ap_rng1, ap_rng2, ap_iList, ap_iTup, ap_lc, ap_yes, ap_cut, ap_gTupH, ap_fmt, ap_jsn, ap_jsc, ap_gcd, ap_isqrt, ap_ixL, tyV_l, wipe_nil, wipe_cons, upd_same, ap_iEnT, ap_iEnL, ap_iZipA, ap_all, ap_tupT, ap_attF, ap_makeL, ap_att, ap_prop, ap_isO, ap_bin, ap_ne, ap_meth, ap_make, ins_inj, FE_inj, ap_slI, ap_catI, ap_perm, ap_lenO, ap_strO, ap_listO, ap_reprB, ap_iterT, ap_neT, ap_negO, ap_binI, ap_catL, ap_tM1, ap_repTI, ap_popN, ap_par3, ap_catTT, ap_repTA, ap_countT, ap_notInT, ap_repL1, ap_cm, ap_shl, ap_shr, ap_mask, ap_comb, ap_bits, ap_rng3, List.set_cons_zero, List.set_cons_succ, List.getElem?_cons_zero, List.getElem?_cons_succ, List.cons_append, List.nil_append, List.append_nil, Option.some.injEq, V.int.injEq, V.ref.injEq, V.bl.injEq, V.str.injEq, V.ty.injEq, Bool.not_true, Bool.not_false, HO.lst.injEq, HO.tup.injEq, reduceCtorEq, Int.reduceToNat, Int.reduceLT, Int.reduceLE, Nat.reduceAdd, Int.cast_ofNat_Int, gi_c0, gi_c1, gi_c2, gi_c3, Int.natCast_inj, map_int_inj, map_nil_iff, List.cons.injEq, exists_eq_left, exists_eq_left', exists_eq, exists_eq', exists_and_left, exists_and_right, exists_const, and_assoc, and_true, true_and, and_false, false_and, or_false, false_or, or_true, true_or, ite_true, ite_false, if_true, if_false, Bool.false_eq_true, own_cons, own_nil, le1, le2, le3, le4, me_cons, me_nil, List.length_map, List.length_cons, List.length_nil, ne_eq, not_false_eq_true, not_true_eq_false, decide_eq_true_eq]
      rw [List.getD_eq_getElem?_getD, List.getD_eq_getElem?_getD, en, em] at k'
      exact k' _ (Same.refl _)
    · refine ⟨A, rfl, _, e, fun l nl => k _ l (sm.trans (same_upd nl)) (free_of sm nl) ?_⟩
      rw [upd_same, List.length_map]
      have el : (List.zipWith (· + ·) ns ms).length = ns.length := by simp [hl]
      have e2 : (List.range ns.length).map (fun i => ns.getD i 0 + ms.getD i 0) = List.zipWith (· + ·) ns ms := by
        rw [← el]
        refine range_map fun i n hn => ?_
        rw [List.getElem?_zipWith] at hn
        rw [List.getD_eq_getElem?_getD, List.getD_eq_getElem?_getD]
        rcases h1 : ns[i]? with _ | a
        · rw [h1] at hn
          simp at hn
        · rcases h2 : ms[i]? with _ | b
          · rw [h1, h2] at hn
            simp at hn
          · rw [h1, h2] at hn
            exact Option.some.inj hn
      rw [e2]
def sp_multiple_row : Sp := fun vs H Q _ => ∃ (p : Addr) (ns : List Int) (m : Int), vs = [.ref p, .int m] ∧ H p = some (TI ns) ∧ ns.length < 1000 ∧ (∀ n ∈ ns, Wd n) ∧ Wd m ∧
  ∀ H' r, Same H H' → H r = none → H' r = some (TI (ns.map (· * m))) → Q (.ref r) H'
theorem ok_multiple_row (T : Tx K mg) : FnOk P w K mg base CX0 1 T.f_multiple_row T.d_multiple_row p_multiple_row sp_multiple_row := by
  refine T.F_multiple_row.ok sc_multiple_row (fun vs H Q E h => ?_) (fun cdv A outer s H vs Q E hr h => ?_)
  · obtain ⟨p, ns, m, rfl, _⟩ := h
    rfl
  · obtain ⟨p, ns, m, rfl, hp, hl, hn, hm, k⟩ := h
    refine ⟨_, (pss_one (ps_ret (pe_callTy cr_tupL (by rfl) T.z_tuple (by decide +kernel) (pa_cons (pe_lc (own := [("entry", 2)]) (g := gName 2) (tt := tYes) rfl sc_multiple_row.nd (pi_tup (pv 0)) (blkOk_by (N := n_multiple_row) (sc := defScope s_multiple_row) (by decide +kernel)) (fun _ _ _ _ _ => (pg_name (i := 2) sc_multiple_row.nd rfl (by first | exact .inl rfl | exact .inr rfl))) (fun _ _ _ _ _ => pts_nil) (fun _ _ _ _ _ => (pe_op op_mulB (pv 2) (pv 1)))) pa_nil)))), ?_⟩
    rw [st_multiple_row]
    simp only [ap_seq, ap_next, ap_asg, ap_gName, ap_ret, ap_retN, ap_drop, ap_ifS, ap_break, ap_cont, ap_par, ap_aug, ap_ip, ap_gSub, ap_gTup, ap_gNil, ap_gCons, ap_var, ap_c, ap_op, ap_un, ap_if, ap_test, ap_B, ap_and, ap_or, ap_not, ap_andV, ap_orV, ap_notV, ap_nil, ap_cons, ap_tup, ap_lst, ap_cb, ap_bm, ap_call, ap_chain, ap_rI, ap_rI0, ap_rU, ap_rEq, ap_rNe, ap_revT, ap_sl, ap_part, ap_noPart, ap_ixLI, ap_ixTI, ap_ixLV, ap_ixTV, ap_len, ap_setLI, ap_setLV, ap_appI, ap_appV, ap_tupL, ap_listS, ap_sumLI, ap_sumTI, ap_repLI, ap_intI, ap_intB, ap_eqTI, ap_neTI, ap_eqLI, ap_neLI, ap_isi, ap_for, ap_rng1, ap_rng2, ap_iList, ap_iTup, ap_lc, ap_yes, ap_cut, ap_gTupH, ap_fmt, ap_jsn, ap_jsc, ap_gcd, ap_isqrt, ap_ixL, tyV_l, wipe_nil, wipe_cons, upd_same, ap_iEnT, ap_iEnL, ap_iZipA, ap_all, ap_tupT, ap_attF, ap_makeL, ap_att, ap_prop, ap_isO, ap_bin, ap_ne, ap_meth, ap_make, ins_inj, FE_inj, ap_slI, ap_catI, ap_perm, ap_lenO, ap_strO, ap_listO, ap_reprB, ap_iterT, ap_neT, ap_negO, ap_binI, ap_catL, ap_tM1, ap_repTI, ap_popN, ap_par3, ap_catTT, ap_repTA, ap_countT, ap_notInT, ap_repL1, ap_cm, ap_shl, ap_shr, ap_mask, ap_comb, ap_bits, ap_rng3, List.set_cons_zero, List.set_cons_succ, List.getElem?_cons_zero, List.getElem?_cons_succ, List.cons_append, List.nil_append, List.append_nil, Option.some.injEq, V.int.injEq, V.ref.injEq, V.bl.injEq, V.str.injEq, V.ty.injEq, Bool.not_true, Bool.not_false, HO.lst.injEq, HO.tup.injEq, reduceCtorEq, Int.reduceToNat, Int.reduceLT, Int.reduceLE, Nat.reduceAdd, Int.cast_ofNat_Int, gi_c0, gi_c1, gi_c2, gi_c3, Int.natCast_inj, map_int_inj, map_nil_iff, List.cons.injEq, exists_eq_left, exists_eq_left', exists_eq, exists_eq', exists_and_left, exists_and_right, exists_const, and_assoc, and_true, true_and, and_false, false_and, or_false, false_or, or_true, true_or, ite_true, ite_false, if_true, if_false, Bool.false_eq_true, own_cons, own_nil, le1, le2, le3, le4, me_cons, me_nil, List.length_map, List.length_cons, List.length_nil, ne_eq, not_false_eq_true, not_true_eq_false, decide_eq_true_eq]
    refine ⟨⟨_, sqT_of hp⟩, lc_tupI (fun i => ns.getD i 0 * m) hp (by rw [List.length_map]; omega) (fun x => rfl) (fun i x H' hx sm Q' k' => ?_) (fun A H' hA sm e => ?_)⟩
    · obtain ⟨n, rfl, en⟩ := at_int hx
      have b1 := hn n (List.mem_of_getElem? en)
      unfold Wd at b1 hm
      simp only [ap_seq, ap_next, ap_asg, ap_gName, ap_ret, ap_retN, ap_drop, ap_ifS, ap_break, ap_cont, ap_par, ap_aug, ap_ip, ap_gSub, ap_gTup, ap_gNil, ap_gCons, ap_var, ap_c, ap_op, ap_un, ap_if, ap_test, ap_B, ap_and, ap_or, ap_not, ap_andV, ap_orV, ap_notV, ap_nil, ap_cons, ap_tup, ap_lst, ap_cb, ap_bm, ap_call, ap_chain, ap_rI, ap_rI0, ap_rU, ap_rEq, ap_rNe, ap_revT, ap_sl, ap_part, ap_noPart, ap_ixLI, ap_ixTI, ap_ixLV, ap_ixTV, ap_len, ap_setLI, ap_setLV, ap_appI, ap_appV, ap_tupL, ap_listS, ap_sumLI, ap_sumTI, ap_repLI, ap_intI, ap_intB, ap_eqTI, ap_neTI, ap_eqLI, ap_neLI, ap_isi, ap_for, ap_rng1, ap_rng2, ap_iList, ap_iTup, ap_lc, ap_yes, ap_cut, ap_gTupH, ap_fmt, ap_jsn, ap_jsc, ap_gcd, ap_isqrt, ap_ixL, tyV_l, wipe_nil, wipe_cons, upd_same, ap_iEnT, ap_iEnL, ap_iZipA, ap_all, ap_tupT, ap_attF, ap_makeL, ap_att, ap_prop, ap_isO, ap_bin, ap_ne, ap_meth, ap_make, ins_inj, FE_inj, ap_slI, ap_catI, ap_perm, ap_lenO, ap_strO, ap_listO, ap_reprB, ap_iterT, ap_neT, ap_negO, ap_binI, ap_catL, ap_tM1, ap_repTI, ap_popN, ap_par3, ap_catTT, ap_repTA, ap_countT, ap_notInT, ap_repL1, ap_cm, ap_shl, ap_shr, ap_mask, ap_comb, ap_bits, ap_rng3, List.set_cons_zero, List.set_cons_succ, List.getElem?_cons_zero, List.getElem?_cons_succ, List.cons_append, List.nil_append, List.append_nil, Option.some.injEq, V.int.injEq, V.ref.injEq, V.bl.injEq, V.str.injEq, V.ty.injEq, Bool.not_true, Bool.not_false, HO.lst.injEq, HO.tup.injEq, reduceCtorEq, Int.reduceToNat, Int.reduceLT, Int.reduceLE, Nat.reduceAdd, Int.cast_ofNat_Int, gi_c0, gi_c1, gi_c2, gi_c3, Int.natCast_inj, map_int_inj, map_nil_iff, List.cons.injEq, exists_eq_left, exists_eq_left', exists_eq, exists_eq', exists_and_left, exists_and_right, exists_const, and_assoc, and_true, true_and, and_false, false_and, or_false, false_or, or_true, true_or, ite_true, ite_false, if_true, if_false, Bool.false_eq_true, own_cons, own_nil, le1, le2, le3, le4, me_cons, me_nil, List.length_map, List.length_cons, List.length_nil, ne_eq, not_false_eq_true, not_true_eq_false, decide_eq_true_eq, CMu]
      rw [List.getD_eq_getElem?_getD, en] at k'
      exact ⟨b1.1, b1.2, hm.1, hm.2, k' _ (Same.refl _)⟩
    · refine ⟨A, rfl, _, e, fun l nl => k _ l (sm.trans (same_upd nl)) (free_of sm nl) ?_⟩
      rw [upd_same, List.length_map]
      have el : (ns.map (· * m)).length = ns.length := List.length_map ..
      have e2 : (List.range ns.length).map (fun i => ns.getD i 0 * m) = ns.map (· * m) := by
        rw [← el]
        refine range_map fun i n hn => ?_
        rw [List.getElem?_map] at hn
        rw [List.getD_eq_getElem?_getD]
        rcases h1 : ns[i]? with _ | a
        · rw [h1] at hn
          simp at hn
        · rw [h1] at hn
          exact Option.some.inj hn
      rw [e2]
end
end My
namespace My
open PySem PySem.Spec PyProof.Rows L2 Pr
section
variable {P : Program} {w : World} {K : PySem.W.Frag} {mg : Str → Option Value} {base : Heap}
def Dc (H : Hp) (d : Addr) : Prop := ∃ l m c : Int, H d = some (LI [l, m, c])
/-- all but d stands -/
def Exc (d : Addr) (H H' : Hp) : Prop := ∀ q o, q ≠ d → H q = some o → H' q = some o
theorem Exc.refl {d : Addr} {H : Hp} : Exc d H H := fun _ _ _ h => h
theorem Exc.trans {d : Addr} {H H1 H2 : Hp} (a : Exc d H H1) (b : Exc d H1 H2) : Exc d H H2 := fun q o n h => b q o n (a q o n h)
theorem Exc.same {d : Addr} {H H1 : Hp} (a : Same H H1) : Exc d H H1 := fun q o _ h => a q o h
theorem Exc.upd {d : Addr} {H : Hp} {o : HO} : Exc d H (upd H d o) := fun q o n h => by
  rw [upd_ne n]
  exact h
theorem Dc.same {d : Addr} {H H' : Hp} (a : Same H H') (h : Dc H d) : Dc H' d := by
  obtain ⟨l, m, c, h⟩ := h
  exact ⟨l, m, c, a _ _ h⟩
def sp_law_dice (K : PySem.W.Frag) : Sp := fun vs H Q _ => ∃ (a : Addr) (ns : List Int) (i : Nat), vs = [.ref a, .int i] ∧ SqL K H a (ns.map V.int) ∧ i < 64 ∧
  ∀ H' p, Same H H' → H p = none → Dc H' p → Q (.ref p) H'
theorem ok_law_dice (T : Tx K mg) : FnOk P w K mg base CX0 1 T.f_law_dice T.d_law_dice p_law_dice (sp_law_dice K) := by
  refine T.F_law_dice.ok sc_law_dice (fun vs H Q E h => ?_) (fun cdv A outer s H vs Q E hr h => ?_)
  · obtain ⟨a, ns, i, rfl, _⟩ := h
    rfl
  · obtain ⟨a, ns, i, rfl, hS, hi, q⟩ := h
    refine ⟨_, (pss_cons (ps_set (i := 2) sc_law_dice.nd rfl (Or.inl rfl) (pe_ifExp (pt_cmpR op_lt (pv 1) (pe_callB call_len_seq (by rfl) T.z_len PySem.boot_len (pa_cons (pv 0) pa_nil)) (nomark _)) (pe_callTy cr_intI (by rfl) T.z_int (by decide +kernel) (pa_cons (pe_ix ix_list (pv 0) (pv 1) (fun _ _ => rfl)) pa_nil)) (pe_op op_add (pe_op op_mul pe_int (pv 1)) pe_int)))
      (pss_cons (ps_set (i := 3) sc_law_dice.nd rfl (Or.inl rfl) (pe_op op_mod (pe_callB (call_max2 rfl) (by rfl) T.z_max (by decide +kernel) (pa_cons pe_int (pa_cons (pe_op op_sub (pe_callB call_abs (by rfl) T.z_abs (by decide +kernel) (pa_cons (pv 2) pa_nil)) (pe_op op_pow pe_int pe_int)) pa_nil))) (pe_op op_mulW (pe_op op_pow pe_int pe_int) (pe_op op_pow pe_int pe_int))))
      (pss_one (ps_ret (pe_lst (pa_cons (pv 3) (pa_cons (pe_op op_add (pe_op op_add (pe_op op_add (pe_op op_mul (pe_op op_mod (pe_callB call_abs (by rfl) T.z_abs (by decide +kernel) (pa_cons (pv 2) pa_nil)) pe_int) pe_int) (pe_op op_mul pe_int (pv 1))) (pe_op op_mul pe_int (pe_callTy cr_intB (by rfl) T.z_int (by decide +kernel) (pa_cons (pe_cmpR op_lt (pv 2) pe_int (nomark _)) pa_nil)))) pe_int) (pa_cons pe_int pa_nil)))))))), ?_⟩
    rw [st_law_dice]
    simp only [ap_seq, ap_next, ap_asg, ap_gName, ap_ret, ap_retN, ap_drop, ap_ifS, ap_break, ap_cont, ap_par, ap_aug, ap_ip, ap_gSub, ap_gTup, ap_gNil, ap_gCons, ap_var, ap_c, ap_op, ap_un, ap_if, ap_test, ap_B, ap_and, ap_or, ap_not, ap_andV, ap_orV, ap_notV, ap_nil, ap_cons, ap_tup, ap_lst, ap_cb, ap_bm, ap_call, ap_chain, ap_rI, ap_rI0, ap_rU, ap_rEq, ap_rNe, ap_revT, ap_sl, ap_part, ap_noPart, ap_ixLI, ap_ixTI, ap_ixLV, ap_ixTV, ap_len, ap_setLI, ap_setLV, ap_appI, ap_appV, ap_tupL, ap_listS, ap_sumLI, ap_sumTI, ap_repLI, ap_intI, ap_intB, ap_eqTI, ap_neTI, ap_eqLI, ap_neLI, ap_isi, ap_for, ap_rng1, ap_rng2, ap_iList, ap_iTup, ap_lc, ap_yes, ap_cut, ap_gTupH, ap_fmt, ap_jsn, ap_jsc, ap_gcd, ap_isqrt, ap_ixL, tyV_l, wipe_nil, wipe_cons, upd_same, ap_iEnT, ap_iEnL, ap_iZipA, ap_all, ap_tupT, ap_attF, ap_makeL, ap_att, ap_prop, ap_isO, ap_bin, ap_ne, ap_meth, ap_make, ins_inj, FE_inj, ap_slI, ap_catI, ap_perm, ap_lenO, ap_strO, ap_listO, ap_reprB, ap_iterT, ap_neT, ap_negO, ap_binI, ap_catL, ap_tM1, ap_repTI, ap_popN, ap_par3, ap_catTT, ap_repTA, ap_countT, ap_notInT, ap_repL1, ap_cm, ap_shl, ap_shr, ap_mask, ap_comb, ap_bits, ap_rng3, List.set_cons_zero, List.set_cons_succ, List.getElem?_cons_zero, List.getElem?_cons_succ, List.cons_append, List.nil_append, List.append_nil, Option.some.injEq, V.int.injEq, V.ref.injEq, V.bl.injEq, V.str.injEq, V.ty.injEq, Bool.not_true, Bool.not_false, HO.lst.injEq, HO.tup.injEq, reduceCtorEq, Int.reduceToNat, Int.reduceLT, Int.reduceLE, Nat.reduceAdd, Int.cast_ofNat_Int, gi_c0, gi_c1, gi_c2, gi_c3, Int.natCast_inj, map_int_inj, map_nil_iff, List.cons.injEq, exists_eq_left, exists_eq_left', exists_eq, exists_eq', exists_and_left, exists_and_right, exists_const, and_assoc, and_true, true_and, and_false, false_and, or_false, false_or, or_true, true_or, ite_true, ite_false, if_true, if_false, Bool.false_eq_true, own_cons, own_nil, le1, le2, le3, le4, me_cons, me_nil, List.length_map, List.length_cons, List.length_nil, ne_eq, not_false_eq_true, not_true_eq_false, decide_eq_true_eq]
    refine ⟨_, .inl hS, ?_⟩
    have hl : (ns.map V.int).length = ns.length := List.length_map ..
    have c1 : CPow 10 16 := ⟨by decide, by decide, by decide⟩
    have c2 : CPow 10 60 := ⟨by decide, by decide, by decide⟩
    have c3 : CMulW ((10 : Int) ^ 60) ((10 : Int) ^ 60) := by
      show ((10 : Int) ^ 60).natAbs.log2 + ((10 : Int) ^ 60).natAbs.log2 < 1000000
      decide +kernel
    have c4 : (0 : Int) < 10 ^ 60 * 10 ^ 60 := by decide +kernel
    by_cases c : (i : Int) < ((ns.map V.int).length : Int)
    · rw [if_pos c]
      refine ⟨_, hS, _, at_gi (by omega) (by omega), _, rfl, c1, c2, c2, c3, c4, .inr (by omega), .inl (by omega), .inl (by omega), by decide, fun p np => ?_⟩
      exact q _ p (same_upd np) np ⟨_, _, _, upd_same⟩
    · rw [if_neg c]
      refine ⟨.inl (by omega), c1, c2, c2, c3, c4, .inr (by omega), .inl (by omega), .inl (by omega), by decide, fun p np => ?_⟩
      exact q _ p (same_upd np) np ⟨_, _, _, upd_same⟩
def sp_law_roll : Sp := fun vs H Q _ => ∃ (d : Addr) (t : Int), vs = [.ref d, .int t] ∧ Dc H d ∧ 0 < t ∧ t < 10 ^ 60 ∧
  ∀ H' r, Exc d H H' → Dc H' d → 0 ≤ r → r < t → Q (.int r) H'
theorem ok_law_roll (T : Tx K mg) : FnOk P w K mg base CX0 1 T.f_law_roll T.d_law_roll p_law_roll sp_law_roll := by
  refine T.F_law_roll.ok sc_law_roll (fun vs H Q E h => ?_) (fun cdv A outer s H vs Q E hr h => ?_)
  · obtain ⟨d, t, rfl, _⟩ := h
    rfl
  · obtain ⟨d, t, rfl, ⟨l, m, c, hD⟩, h0, h1, q⟩ := h
    refine ⟨_, (pss_cons (ps_if (pt_cmpR op_gt (pe_ix ix_LI (pv 0) pe_int (fun _ _ => rfl)) pe_int (nomark _)) (pss_cons (ps_set (i := 2) sc_law_roll.nd rfl (Or.inl rfl) (pe_op op_mod (pe_callTy cr_intI (by rfl) T.z_int (by decide +kernel) (pa_cons (pe_ix ix_LI (pv 0) pe_int (fun _ _ => rfl)) pa_nil)) (pv 1)))
      (pss_cons (ps_asg (pe_op op_fdivP (pe_ix ix_LI (pv 0) pe_int (fun _ _ => rfl)) (pv 1)) (pg_sub (pv 0) pe_int set_LI))
      (pss_one (ps_ret (pv 2))))) pss_nil)
      (pss_cons (ps_asg (pe_op op_add (pe_ix ix_LI (pv 0) pe_int (fun _ _ => rfl)) pe_int) (pg_sub (pv 0) pe_int set_LI))
      (pss_cons (ps_set (i := 3) sc_law_roll.nd rfl (Or.inl rfl) (pe_op op_mod (pe_callTy cr_intI (by rfl) T.z_int (by decide +kernel) (pa_cons (pe_op op_add (pe_ix ix_LI (pv 0) pe_int (fun _ _ => rfl)) (pe_op op_mul pe_int (pe_ix ix_LI (pv 0) pe_int (fun _ _ => rfl)))) pa_nil)) pe_int))
      (pss_cons (ps_set (i := 4) sc_law_roll.nd rfl (Or.inl rfl) (pe_op op_add (pe_op op_mul (pe_op op_mod (pe_callTy cr_intI (by rfl) T.z_int (by decide +kernel) (pa_cons (pe_op op_add (pe_op op_mul (pv 3) (pv 3)) (pe_op op_mul pe_int (pe_ix ix_LI (pv 0) pe_int (fun _ _ => rfl)))) pa_nil)) pe_int) pe_int) (pv 3)))
      (pss_one (ps_ret (pe_op op_mod (pe_callTy cr_intI (by rfl) T.z_int (by decide +kernel) (pa_cons (pe_op op_fdiv (pv 4) pe_int) pa_nil)) (pv 1)))))))), ?_⟩
    rw [st_law_roll]
    simp only [ap_seq, ap_next, ap_asg, ap_gName, ap_ret, ap_retN, ap_drop, ap_ifS, ap_break, ap_cont, ap_par, ap_aug, ap_ip, ap_gSub, ap_gTup, ap_gNil, ap_gCons, ap_var, ap_c, ap_op, ap_un, ap_if, ap_test, ap_B, ap_and, ap_or, ap_not, ap_andV, ap_orV, ap_notV, ap_nil, ap_cons, ap_tup, ap_lst, ap_cb, ap_bm, ap_call, ap_chain, ap_rI, ap_rI0, ap_rU, ap_rEq, ap_rNe, ap_revT, ap_sl, ap_part, ap_noPart, ap_ixLI, ap_ixTI, ap_ixLV, ap_ixTV, ap_len, ap_setLI, ap_setLV, ap_appI, ap_appV, ap_tupL, ap_listS, ap_sumLI, ap_sumTI, ap_repLI, ap_intI, ap_intB, ap_eqTI, ap_neTI, ap_eqLI, ap_neLI, ap_isi, ap_for, ap_rng1, ap_rng2, ap_iList, ap_iTup, ap_lc, ap_yes, ap_cut, ap_gTupH, ap_fmt, ap_jsn, ap_jsc, ap_gcd, ap_isqrt, ap_ixL, tyV_l, wipe_nil, wipe_cons, upd_same, ap_iEnT, ap_iEnL, ap_iZipA, ap_all, ap_tupT, ap_attF, ap_makeL, ap_att, ap_prop, ap_isO, ap_bin, ap_ne, ap_meth, ap_make, ins_inj, FE_inj, ap_slI, ap_catI, ap_perm, ap_lenO, ap_strO, ap_listO, ap_reprB, ap_iterT, ap_neT, ap_negO, ap_binI, ap_catL, ap_tM1, ap_repTI, ap_popN, ap_par3, ap_catTT, ap_repTA, ap_countT, ap_notInT, ap_repL1, ap_cm, ap_shl, ap_shr, ap_mask, ap_comb, ap_bits, ap_rng3, List.set_cons_zero, List.set_cons_succ, List.getElem?_cons_zero, List.getElem?_cons_succ, List.cons_append, List.nil_append, List.append_nil, Option.some.injEq, V.int.injEq, V.ref.injEq, V.bl.injEq, V.str.injEq, V.ty.injEq, Bool.not_true, Bool.not_false, HO.lst.injEq, HO.tup.injEq, reduceCtorEq, Int.reduceToNat, Int.reduceLT, Int.reduceLE, Nat.reduceAdd, Int.cast_ofNat_Int, gi_c0, gi_c1, gi_c2, gi_c3, Int.natCast_inj, map_int_inj, map_nil_iff, List.cons.injEq, exists_eq_left, exists_eq_left', exists_eq, exists_eq', exists_and_left, exists_and_right, exists_const, and_assoc, and_true, true_and, and_false, false_and, or_false, false_or, or_true, true_or, ite_true, ite_false, if_true, if_false, Bool.false_eq_true, own_cons, own_nil, le1, le2, le3, le4, me_cons, me_nil, List.length_map, List.length_cons, List.length_nil, ne_eq, not_false_eq_true, not_true_eq_false, decide_eq_true_eq, hD, CDp]
    by_cases c1 : 0 < l
    · rw [if_pos c1]
      exact ⟨h0, h0, by omega, q _ _ Exc.upd ⟨_, _, _, upd_same⟩ (Int.emod_nonneg _ (by omega)) (Int.emod_lt_of_pos _ h0)⟩
    · rw [if_neg c1]
      have r1 : ∀ x : Int, CMul (x % 2305843009213691579) (x % 2305843009213691579) := fun x => .inl (by omega)
      exact ⟨.inl (by omega), r1 _, .inl (by omega), .inr (by omega), ⟨by decide, by decide⟩, h0, q _ _ Exc.upd ⟨_, _, _, upd_same⟩ (Int.emod_nonneg _ (by omega)) (Int.emod_lt_of_pos _ h0)⟩
def sp_law_near : Sp := fun vs H Q _ => ∃ (d : Addr) (m : Int), vs = [.ref d, .int m] ∧ Dc H d ∧ 0 ≤ m ∧ m < 10 ^ 50 ∧ ∀ H' r, Exc d H H' → Dc H' d → -m ≤ r → r ≤ m → Q (.int r) H'
theorem ok_law_near (T : Tx K mg) : FnOk P w K mg base CX0 2 T.f_law_near T.d_law_near p_law_near sp_law_near := by
  refine T.F_law_near.ok sc_law_near (fun vs H Q E h => ?_) (fun cdv A outer s H vs Q E hr h => ?_)
  · obtain ⟨d, m, rfl, _⟩ := h
    rfl
  · obtain ⟨d, m, rfl, hD, h0, h1, q⟩ := h
    refine ⟨_, (pss_one (ps_ret (pe_op op_sub (pe_call (ok_law_roll T) (hr.mono (by decide)) (by rfl) T.m_law_roll T.F_law_roll.kp T.b_law_roll .nil pass0 (pa_cons (pv 0) (pa_cons (pe_op op_add (pe_op op_mulB pe_int (pv 1)) pe_int) pa_nil))) (pv 1)))), ?_⟩
    rw [st_law_near]
    simp only [ap_seq, ap_next, ap_asg, ap_gName, ap_ret, ap_retN, ap_drop, ap_ifS, ap_break, ap_cont, ap_par, ap_aug, ap_ip, ap_gSub, ap_gTup, ap_gNil, ap_gCons, ap_var, ap_c, ap_op, ap_un, ap_if, ap_test, ap_B, ap_and, ap_or, ap_not, ap_andV, ap_orV, ap_notV, ap_nil, ap_cons, ap_tup, ap_lst, ap_cb, ap_bm, ap_call, ap_chain, ap_rI, ap_rI0, ap_rU, ap_rEq, ap_rNe, ap_revT, ap_sl, ap_part, ap_noPart, ap_ixLI, ap_ixTI, ap_ixLV, ap_ixTV, ap_len, ap_setLI, ap_setLV, ap_appI, ap_appV, ap_tupL, ap_listS, ap_sumLI, ap_sumTI, ap_repLI, ap_intI, ap_intB, ap_eqTI, ap_neTI, ap_eqLI, ap_neLI, ap_isi, ap_for, ap_rng1, ap_rng2, ap_iList, ap_iTup, ap_lc, ap_yes, ap_cut, ap_gTupH, ap_fmt, ap_jsn, ap_jsc, ap_gcd, ap_isqrt, ap_ixL, tyV_l, wipe_nil, wipe_cons, upd_same, ap_iEnT, ap_iEnL, ap_iZipA, ap_all, ap_tupT, ap_attF, ap_makeL, ap_att, ap_prop, ap_isO, ap_bin, ap_ne, ap_meth, ap_make, ins_inj, FE_inj, ap_slI, ap_catI, ap_perm, ap_lenO, ap_strO, ap_listO, ap_reprB, ap_iterT, ap_neT, ap_negO, ap_binI, ap_catL, ap_tM1, ap_repTI, ap_popN, ap_par3, ap_catTT, ap_repTA, ap_countT, ap_notInT, ap_repL1, ap_cm, ap_shl, ap_shr, ap_mask, ap_comb, ap_bits, ap_rng3, List.set_cons_zero, List.set_cons_succ, List.getElem?_cons_zero, List.getElem?_cons_succ, List.cons_append, List.nil_append, List.append_nil, Option.some.injEq, V.int.injEq, V.ref.injEq, V.bl.injEq, V.str.injEq, V.ty.injEq, Bool.not_true, Bool.not_false, HO.lst.injEq, HO.tup.injEq, reduceCtorEq, Int.reduceToNat, Int.reduceLT, Int.reduceLE, Nat.reduceAdd, Int.cast_ofNat_Int, gi_c0, gi_c1, gi_c2, gi_c3, Int.natCast_inj, map_int_inj, map_nil_iff, List.cons.injEq, exists_eq_left, exists_eq_left', exists_eq, exists_eq', exists_and_left, exists_and_right, exists_const, and_assoc, and_true, true_and, and_false, false_and, or_false, false_or, or_true, true_or, ite_true, ite_false, if_true, if_false, Bool.false_eq_true, own_cons, own_nil, le1, le2, le3, le4, me_cons, me_nil, List.length_map, List.length_cons, List.length_nil, ne_eq, not_false_eq_true, not_true_eq_false, decide_eq_true_eq, sp_law_roll, CMu]
    refine ⟨by omega, by omega, by omega, by omega, hD, by omega, by omega, fun H2 r x D2 a b => ?_⟩
    exact q H2 _ x D2 (by omega) (by omega)
theorem gcd_step {x y : Int} (hx : 0 ≤ x) (hy : 0 < y) : Int.gcd y (x % y) = Int.gcd x y := by
  obtain ⟨a, rfl⟩ := Int.eq_ofNat_of_zero_le hx
  obtain ⟨b, rfl⟩ := Int.eq_ofNat_of_zero_le (Int.le_of_lt hy)
  rw [← Int.natCast_emod]
  show Nat.gcd b (a % b) = Nat.gcd a b
  rw [Nat.gcd_comm a b, Nat.gcd_rec b a, Nat.gcd_comm]
theorem while_a {α : Type} {c : TT} {tb : TS} {D : Ends} {σ : L2.St} {H : Hp} (W : α → L2.St → Hp → Prop) (t : α → Bool) (μ : α → Nat) (a0 : α) (h0 : W a0 σ H)
    (hc : ∀ a σ H, W a σ H → ∀ Q : Bool → Hp → Prop, Q (t a) H → c σ H Q)
    (hs : ∀ a σ H, W a σ H → t a = true → tb { D with nx := fun σ' H' => ∃ a', μ a' < μ a ∧ W a' σ' H', ct := fun σ' H' => ∃ a', μ a' < μ a ∧ W a' σ' H', bk := D.nx } σ H)
    (hd : ∀ a σ H, W a σ H → t a = false → D.nx σ H) : tWhile c tb D σ H := by
  refine ⟨fun m σ H => ∃ a, μ a = m ∧ W a σ H, ⟨_, a0, rfl, h0⟩, ?_⟩
  rintro m σ H ⟨a, rfl, hw⟩
  refine hc a σ H hw _ ?_
  cases e : t a with
  | true => exact ⟨fun σ' H' => ∃ a', μ a' < μ a ∧ W a' σ' H', fun σ' H' ⟨a', h1, h2⟩ => ⟨_, h1, a', rfl, h2⟩, hs a σ H hw e⟩
  | false => exact hd a σ H hw e
def sp_law_gcd : Sp := fun vs H Q _ => ∃ (x y : Int), vs = [.int x, .int y] ∧ Q (.int (Int.gcd x y : Nat)) H
theorem ok_law_gcd (T : Tx K mg) : FnOk P w K mg base CX0 1 T.f_law_gcd T.d_law_gcd p_law_gcd sp_law_gcd := by
  refine T.F_law_gcd.ok sc_law_gcd (fun vs H Q E h => ?_) (fun cdv A outer s H vs Q E hr h => ?_)
  · obtain ⟨x, y, rfl, _⟩ := h
    rfl
  · obtain ⟨x, y, rfl, q⟩ := h
    refine ⟨_, (pss_cons (ps_par (i := 0) (j := 1) (by rfl) sc_law_gcd.nd rfl rfl (by decide) rfl rfl (pa_cons (pe_callB call_abs (by rfl) T.z_abs (by decide +kernel) (pa_cons (pv 0) pa_nil)) (pa_cons (pe_callB call_abs (by rfl) T.z_abs (by decide +kernel) (pa_cons (pv 1) pa_nil)) pa_nil)) (by rfl))
      (pss_cons (ps_while PassesOwn.never (pt_cmpR op_gt (pv 1) pe_int (nomark _))
      (pss_one (ps_par (i := 0) (j := 1) (by rfl) sc_law_gcd.nd rfl rfl (by decide) rfl rfl (pa_cons (pv 1) (pa_cons (pe_op op_mod (pe_callTy cr_intI (by rfl) T.z_int (by decide +kernel) (pa_cons (pv 0) pa_nil)) (pv 1)) pa_nil)) (by rfl))))
      (pss_one (ps_ret (pv 0))))), ?_⟩
    rw [st_law_gcd]
    simp only [ap_seq, ap_next, ap_asg, ap_gName, ap_ret, ap_retN, ap_drop, ap_ifS, ap_break, ap_cont, ap_par, ap_aug, ap_ip, ap_gSub, ap_gTup, ap_gNil, ap_gCons, ap_var, ap_c, ap_op, ap_un, ap_if, ap_test, ap_B, ap_and, ap_or, ap_not, ap_andV, ap_orV, ap_notV, ap_nil, ap_cons, ap_tup, ap_lst, ap_cb, ap_bm, ap_call, ap_chain, ap_rI, ap_rI0, ap_rU, ap_rEq, ap_rNe, ap_revT, ap_sl, ap_part, ap_noPart, ap_ixLI, ap_ixTI, ap_ixLV, ap_ixTV, ap_len, ap_setLI, ap_setLV, ap_appI, ap_appV, ap_tupL, ap_listS, ap_sumLI, ap_sumTI, ap_repLI, ap_intI, ap_intB, ap_eqTI, ap_neTI, ap_eqLI, ap_neLI, ap_isi, ap_for, ap_rng1, ap_rng2, ap_iList, ap_iTup, ap_lc, ap_yes, ap_cut, ap_gTupH, ap_fmt, ap_jsn, ap_jsc, ap_gcd, ap_isqrt, ap_ixL, tyV_l, wipe_nil, wipe_cons, upd_same, ap_iEnT, ap_iEnL, ap_iZipA, ap_all, ap_tupT, ap_attF, ap_makeL, ap_att, ap_prop, ap_isO, ap_bin, ap_ne, ap_meth, ap_make, ins_inj, FE_inj, ap_slI, ap_catI, ap_perm, ap_lenO, ap_strO, ap_listO, ap_reprB, ap_iterT, ap_neT, ap_negO, ap_binI, ap_catL, ap_tM1, ap_repTI, ap_popN, ap_par3, ap_catTT, ap_repTA, ap_countT, ap_notInT, ap_repL1, ap_cm, ap_shl, ap_shr, ap_mask, ap_comb, ap_bits, ap_rng3, List.set_cons_zero, List.set_cons_succ, List.getElem?_cons_zero, List.getElem?_cons_succ, List.cons_append, List.nil_append, List.append_nil, Option.some.injEq, V.int.injEq, V.ref.injEq, V.bl.injEq, V.str.injEq, V.ty.injEq, Bool.not_true, Bool.not_false, HO.lst.injEq, HO.tup.injEq, reduceCtorEq, Int.reduceToNat, Int.reduceLT, Int.reduceLE, Nat.reduceAdd, Int.cast_ofNat_Int, gi_c0, gi_c1, gi_c2, gi_c3, Int.natCast_inj, map_int_inj, map_nil_iff, List.cons.injEq, exists_eq_left, exists_eq_left', exists_eq, exists_eq', exists_and_left, exists_and_right, exists_const, and_assoc, and_true, true_and, and_false, false_and, or_false, false_or, or_true, true_or, ite_true, ite_false, if_true, if_false, Bool.false_eq_true, own_cons, own_nil, le1, le2, le3, le4, me_cons, me_nil, List.length_map, List.length_cons, List.length_nil, ne_eq, not_false_eq_true, not_true_eq_false, decide_eq_true_eq]
    have ax : (if x < 0 then -x else x) = (x.natAbs : Int) := by split <;> omega
    have ay : (if y < 0 then -y else y) = (y.natAbs : Int) := by split <;> omega
    rw [ax, ay]
    refine while_a (fun (p : Int × Int) σ' H' => σ' = [some (.int p.1), some (.int p.2)] ∧ H' = H ∧ 0 ≤ p.1 ∧ 0 ≤ p.2 ∧ Int.gcd p.1 p.2 = Int.gcd x y) (fun p => decide (0 < p.2)) (fun p => p.2.toNat) (_, _) ⟨rfl, rfl, Int.natCast_nonneg _, Int.natCast_nonneg _, ?_⟩ (fun p σ' H' hP Q1 hQ => ?_) (fun p σ' H' hP ht => ?_) (fun p σ' H' hP ht => ?_)
    · show Int.gcd (x.natAbs : Int) (y.natAbs : Int) = Int.gcd x y
      rfl
    · obtain ⟨e, e2, h1, h2, hg⟩ := hP
      subst e e2
      simp only [ap_seq, ap_next, ap_asg, ap_gName, ap_ret, ap_retN, ap_drop, ap_ifS, ap_break, ap_cont, ap_par, ap_aug, ap_ip, ap_gSub, ap_gTup, ap_gNil, ap_gCons, ap_var, ap_c, ap_op, ap_un, ap_if, ap_test, ap_B, ap_and, ap_or, ap_not, ap_andV, ap_orV, ap_notV, ap_nil, ap_cons, ap_tup, ap_lst, ap_cb, ap_bm, ap_call, ap_chain, ap_rI, ap_rI0, ap_rU, ap_rEq, ap_rNe, ap_revT, ap_sl, ap_part, ap_noPart, ap_ixLI, ap_ixTI, ap_ixLV, ap_ixTV, ap_len, ap_setLI, ap_setLV, ap_appI, ap_appV, ap_tupL, ap_listS, ap_sumLI, ap_sumTI, ap_repLI, ap_intI, ap_intB, ap_eqTI, ap_neTI, ap_eqLI, ap_neLI, ap_isi, ap_for, ap_rng1, ap_rng2, ap_iList, ap_iTup, ap_lc, ap_yes, ap_cut, ap_gTupH, ap_fmt, ap_jsn, ap_jsc, ap_gcd, ap_isqrt, ap_ixL, tyV_l, wipe_nil, wipe_cons, upd_same, ap_iEnT, ap_iEnL, ap_iZipA, ap_all, ap_tupT, ap_attF, ap_makeL, ap_att, ap_prop, ap_isO, ap_bin, ap_ne, ap_meth, ap_make, ins_inj, FE_inj, ap_slI, ap_catI, ap_perm, ap_lenO, ap_strO, ap_listO, ap_reprB, ap_iterT, ap_neT, ap_negO, ap_binI, ap_catL, ap_tM1, ap_repTI, ap_popN, ap_par3, ap_catTT, ap_repTA, ap_countT, ap_notInT, ap_repL1, ap_cm, ap_shl, ap_shr, ap_mask, ap_comb, ap_bits, ap_rng3, List.set_cons_zero, List.set_cons_succ, List.getElem?_cons_zero, List.getElem?_cons_succ, List.cons_append, List.nil_append, List.append_nil, Option.some.injEq, V.int.injEq, V.ref.injEq, V.bl.injEq, V.str.injEq, V.ty.injEq, Bool.not_true, Bool.not_false, HO.lst.injEq, HO.tup.injEq, reduceCtorEq, Int.reduceToNat, Int.reduceLT, Int.reduceLE, Nat.reduceAdd, Int.cast_ofNat_Int, gi_c0, gi_c1, gi_c2, gi_c3, Int.natCast_inj, map_int_inj, map_nil_iff, List.cons.injEq, exists_eq_left, exists_eq_left', exists_eq, exists_eq', exists_and_left, exists_and_right, exists_const, and_assoc, and_true, true_and, and_false, false_and, or_false, false_or, or_true, true_or, ite_true, ite_false, if_true, if_false, Bool.false_eq_true, own_cons, own_nil, le1, le2, le3, le4, me_cons, me_nil, List.length_map, List.length_cons, List.length_nil, ne_eq, not_false_eq_true, not_true_eq_false, decide_eq_true_eq]
      exact hQ
    · obtain ⟨e, e2, h1, h2, hg⟩ := hP
      subst e e2
      have hp : 0 < p.2 := of_decide_eq_true ht
      simp only [ap_seq, ap_next, ap_asg, ap_gName, ap_ret, ap_retN, ap_drop, ap_ifS, ap_break, ap_cont, ap_par, ap_aug, ap_ip, ap_gSub, ap_gTup, ap_gNil, ap_gCons, ap_var, ap_c, ap_op, ap_un, ap_if, ap_test, ap_B, ap_and, ap_or, ap_not, ap_andV, ap_orV, ap_notV, ap_nil, ap_cons, ap_tup, ap_lst, ap_cb, ap_bm, ap_call, ap_chain, ap_rI, ap_rI0, ap_rU, ap_rEq, ap_rNe, ap_revT, ap_sl, ap_part, ap_noPart, ap_ixLI, ap_ixTI, ap_ixLV, ap_ixTV, ap_len, ap_setLI, ap_setLV, ap_appI, ap_appV, ap_tupL, ap_listS, ap_sumLI, ap_sumTI, ap_repLI, ap_intI, ap_intB, ap_eqTI, ap_neTI, ap_eqLI, ap_neLI, ap_isi, ap_for, ap_rng1, ap_rng2, ap_iList, ap_iTup, ap_lc, ap_yes, ap_cut, ap_gTupH, ap_fmt, ap_jsn, ap_jsc, ap_gcd, ap_isqrt, ap_ixL, tyV_l, wipe_nil, wipe_cons, upd_same, ap_iEnT, ap_iEnL, ap_iZipA, ap_all, ap_tupT, ap_attF, ap_makeL, ap_att, ap_prop, ap_isO, ap_bin, ap_ne, ap_meth, ap_make, ins_inj, FE_inj, ap_slI, ap_catI, ap_perm, ap_lenO, ap_strO, ap_listO, ap_reprB, ap_iterT, ap_neT, ap_negO, ap_binI, ap_catL, ap_tM1, ap_repTI, ap_popN, ap_par3, ap_catTT, ap_repTA, ap_countT, ap_notInT, ap_repL1, ap_cm, ap_shl, ap_shr, ap_mask, ap_comb, ap_bits, ap_rng3, List.set_cons_zero, List.set_cons_succ, List.getElem?_cons_zero, List.getElem?_cons_succ, List.cons_append, List.nil_append, List.append_nil, Option.some.injEq, V.int.injEq, V.ref.injEq, V.bl.injEq, V.str.injEq, V.ty.injEq, Bool.not_true, Bool.not_false, HO.lst.injEq, HO.tup.injEq, reduceCtorEq, Int.reduceToNat, Int.reduceLT, Int.reduceLE, Nat.reduceAdd, Int.cast_ofNat_Int, gi_c0, gi_c1, gi_c2, gi_c3, Int.natCast_inj, map_int_inj, map_nil_iff, List.cons.injEq, exists_eq_left, exists_eq_left', exists_eq, exists_eq', exists_and_left, exists_and_right, exists_const, and_assoc, and_true, true_and, and_false, false_and, or_false, false_or, or_true, true_or, ite_true, ite_false, if_true, if_false, Bool.false_eq_true, own_cons, own_nil, le1, le2, le3, le4, me_cons, me_nil, List.length_map, List.length_cons, List.length_nil, ne_eq, not_false_eq_true, not_true_eq_false, decide_eq_true_eq]
      refine ⟨hp, (p.2, p.1 % p.2), ?_, rfl, rfl, Int.le_of_lt hp, Int.emod_nonneg _ (by omega), ?_⟩
      · have := Int.emod_lt_of_pos p.1 hp
        have := Int.emod_nonneg p.1 (show p.2 ≠ 0 by omega)
        show (p.1 % p.2).toNat < p.2.toNat
        omega
      · show Int.gcd p.2 (p.1 % p.2) = _
        rw [gcd_step h1 hp, hg]
    · obtain ⟨e, e2, h1, h2, hg⟩ := hP
      subst e e2
      have hp : ¬ 0 < p.2 := of_decide_eq_false ht
      simp only [ap_seq, ap_next, ap_asg, ap_gName, ap_ret, ap_retN, ap_drop, ap_ifS, ap_break, ap_cont, ap_par, ap_aug, ap_ip, ap_gSub, ap_gTup, ap_gNil, ap_gCons, ap_var, ap_c, ap_op, ap_un, ap_if, ap_test, ap_B, ap_and, ap_or, ap_not, ap_andV, ap_orV, ap_notV, ap_nil, ap_cons, ap_tup, ap_lst, ap_cb, ap_bm, ap_call, ap_chain, ap_rI, ap_rI0, ap_rU, ap_rEq, ap_rNe, ap_revT, ap_sl, ap_part, ap_noPart, ap_ixLI, ap_ixTI, ap_ixLV, ap_ixTV, ap_len, ap_setLI, ap_setLV, ap_appI, ap_appV, ap_tupL, ap_listS, ap_sumLI, ap_sumTI, ap_repLI, ap_intI, ap_intB, ap_eqTI, ap_neTI, ap_eqLI, ap_neLI, ap_isi, ap_for, ap_rng1, ap_rng2, ap_iList, ap_iTup, ap_lc, ap_yes, ap_cut, ap_gTupH, ap_fmt, ap_jsn, ap_jsc, ap_gcd, ap_isqrt, ap_ixL, tyV_l, wipe_nil, wipe_cons, upd_same, ap_iEnT, ap_iEnL, ap_iZipA, ap_all, ap_tupT, ap_attF, ap_makeL, ap_att, ap_prop, ap_isO, ap_bin, ap_ne, ap_meth, ap_make, ins_inj, FE_inj, ap_slI, ap_catI, ap_perm, ap_lenO, ap_strO, ap_listO, ap_reprB, ap_iterT, ap_neT, ap_negO, ap_binI, ap_catL, ap_tM1, ap_repTI, ap_popN, ap_par3, ap_catTT, ap_repTA, ap_countT, ap_notInT, ap_repL1, ap_cm, ap_shl, ap_shr, ap_mask, ap_comb, ap_bits, ap_rng3, List.set_cons_zero, List.set_cons_succ, List.getElem?_cons_zero, List.getElem?_cons_succ, List.cons_append, List.nil_append, List.append_nil, Option.some.injEq, V.int.injEq, V.ref.injEq, V.bl.injEq, V.str.injEq, V.ty.injEq, Bool.not_true, Bool.not_false, HO.lst.injEq, HO.tup.injEq, reduceCtorEq, Int.reduceToNat, Int.reduceLT, Int.reduceLE, Nat.reduceAdd, Int.cast_ofNat_Int, gi_c0, gi_c1, gi_c2, gi_c3, Int.natCast_inj, map_int_inj, map_nil_iff, List.cons.injEq, exists_eq_left, exists_eq_left', exists_eq, exists_eq', exists_and_left, exists_and_right, exists_const, and_assoc, and_true, true_and, and_false, false_and, or_false, false_or, or_true, true_or, ite_true, ite_false, if_true, if_false, Bool.false_eq_true, own_cons, own_nil, le1, le2, le3, le4, me_cons, me_nil, List.length_map, List.length_cons, List.length_nil, ne_eq, not_false_eq_true, not_true_eq_false, decide_eq_true_eq]
      have h3 : p.2 = 0 := by omega
      rw [h3, Int.gcd_zero_right] at hg
      have h4 : p.1 = (Int.gcd x y : Nat) := by omega
      rw [h4]
      exact q
def sp_law_shared : Sp := fun vs H Q _ => ∃ (p : Addr) (ns : List Int), vs = [.ref p] ∧ H p = some (TI ns) ∧ Q (.int (gcdL ns)) H
theorem ok_law_shared (T : Tx K mg) : FnOk P w K mg base CX0 2 T.f_law_shared T.d_law_shared p_law_shared sp_law_shared := by
  refine T.F_law_shared.ok sc_law_shared (fun vs H Q E h => ?_) (fun cdv A outer s H vs Q E hr h => ?_)
  · obtain ⟨p, ns, rfl, _⟩ := h
    rfl
  · obtain ⟨p, ns, rfl, hp, q⟩ := h
    refine ⟨_, (pss_cons (ps_set (i := 1) sc_law_shared.nd rfl (Or.inl rfl) pe_int)
      (pss_cons (ps_for PassesOwn.never rfl (pi_tup (pv 0)) (pg_name (i := 2) sc_law_shared.nd rfl (by first | exact .inl rfl | exact .inr rfl))
      (pss_one (ps_set (i := 1) sc_law_shared.nd rfl (Or.inl rfl) (pe_call (ok_law_gcd T) (hr.mono (by decide)) (by rfl) T.m_law_gcd T.F_law_gcd.kp T.b_law_gcd .nil pass0 (pa_cons (pv 1) (pa_cons (pv 2) pa_nil))))))
      (pss_one (ps_ret (pv 1))))), ?_⟩
    rw [st_law_shared]
    simp only [ap_seq, ap_next, ap_asg, ap_gName, ap_ret, ap_retN, ap_drop, ap_ifS, ap_break, ap_cont, ap_par, ap_aug, ap_ip, ap_gSub, ap_gTup, ap_gNil, ap_gCons, ap_var, ap_c, ap_op, ap_un, ap_if, ap_test, ap_B, ap_and, ap_or, ap_not, ap_andV, ap_orV, ap_notV, ap_nil, ap_cons, ap_tup, ap_lst, ap_cb, ap_bm, ap_call, ap_chain, ap_rI, ap_rI0, ap_rU, ap_rEq, ap_rNe, ap_revT, ap_sl, ap_part, ap_noPart, ap_ixLI, ap_ixTI, ap_ixLV, ap_ixTV, ap_len, ap_setLI, ap_setLV, ap_appI, ap_appV, ap_tupL, ap_listS, ap_sumLI, ap_sumTI, ap_repLI, ap_intI, ap_intB, ap_eqTI, ap_neTI, ap_eqLI, ap_neLI, ap_isi, ap_for, ap_rng1, ap_rng2, ap_iList, ap_iTup, ap_lc, ap_yes, ap_cut, ap_gTupH, ap_fmt, ap_jsn, ap_jsc, ap_gcd, ap_isqrt, ap_ixL, tyV_l, wipe_nil, wipe_cons, upd_same, ap_iEnT, ap_iEnL, ap_iZipA, ap_all, ap_tupT, ap_attF, ap_makeL, ap_att, ap_prop, ap_isO, ap_bin, ap_ne, ap_meth, ap_make, ins_inj, FE_inj, ap_slI, ap_catI, ap_perm, ap_lenO, ap_strO, ap_listO, ap_reprB, ap_iterT, ap_neT, ap_negO, ap_binI, ap_catL, ap_tM1, ap_repTI, ap_popN, ap_par3, ap_catTT, ap_repTA, ap_countT, ap_notInT, ap_repL1, ap_cm, ap_shl, ap_shr, ap_mask, ap_comb, ap_bits, ap_rng3, List.set_cons_zero, List.set_cons_succ, List.getElem?_cons_zero, List.getElem?_cons_succ, List.cons_append, List.nil_append, List.append_nil, Option.some.injEq, V.int.injEq, V.ref.injEq, V.bl.injEq, V.str.injEq, V.ty.injEq, Bool.not_true, Bool.not_false, HO.lst.injEq, HO.tup.injEq, reduceCtorEq, Int.reduceToNat, Int.reduceLT, Int.reduceLE, Nat.reduceAdd, Int.cast_ofNat_Int, gi_c0, gi_c1, gi_c2, gi_c3, Int.natCast_inj, map_int_inj, map_nil_iff, List.cons.injEq, exists_eq_left, exists_eq_left', exists_eq, exists_eq', exists_and_left, exists_and_right, exists_const, and_assoc, and_true, true_and, and_false, false_and, or_false, false_or, or_true, true_or, ite_true, ite_false, if_true, if_false, Bool.false_eq_true, own_cons, own_nil, le1, le2, le3, le4, me_cons, me_nil, List.length_map, List.length_cons, List.length_nil, ne_eq, not_false_eq_true, not_true_eq_false, decide_eq_true_eq]
    refine ⟨⟨_, sqT_of hp⟩, loop_gen gives_tup (fun i σ' H' => (∃ z, σ' = [some (V.ref p), some (.int (gcdL (ns.take i))), z]) ∧ H' = H) ⟨⟨_, rfl⟩, rfl⟩ (fun i σ' H' hi hP => hP.2 ▸ hp) (fun i v σ' G G' hi hP hy => ?_) (fun σ' G hP => ?_)⟩
    · obtain ⟨⟨z, e⟩, rfl⟩ := hP
      obtain ⟨rfl, hx⟩ := hy
      obtain ⟨n, rfl, en⟩ := at_int hx
      subst e
      have e : gcdL (ns.take (i + 1)) = ((Int.gcd (gcdL (ns.take i)) n : Nat) : Int) := by
        unfold gcdL
        rw [List.take_succ, en, List.foldl_append]
        rfl
      simp only [ap_seq, ap_next, ap_asg, ap_gName, ap_ret, ap_retN, ap_drop, ap_ifS, ap_break, ap_cont, ap_par, ap_aug, ap_ip, ap_gSub, ap_gTup, ap_gNil, ap_gCons, ap_var, ap_c, ap_op, ap_un, ap_if, ap_test, ap_B, ap_and, ap_or, ap_not, ap_andV, ap_orV, ap_notV, ap_nil, ap_cons, ap_tup, ap_lst, ap_cb, ap_bm, ap_call, ap_chain, ap_rI, ap_rI0, ap_rU, ap_rEq, ap_rNe, ap_revT, ap_sl, ap_part, ap_noPart, ap_ixLI, ap_ixTI, ap_ixLV, ap_ixTV, ap_len, ap_setLI, ap_setLV, ap_appI, ap_appV, ap_tupL, ap_listS, ap_sumLI, ap_sumTI, ap_repLI, ap_intI, ap_intB, ap_eqTI, ap_neTI, ap_eqLI, ap_neLI, ap_isi, ap_for, ap_rng1, ap_rng2, ap_iList, ap_iTup, ap_lc, ap_yes, ap_cut, ap_gTupH, ap_fmt, ap_jsn, ap_jsc, ap_gcd, ap_isqrt, ap_ixL, tyV_l, wipe_nil, wipe_cons, upd_same, ap_iEnT, ap_iEnL, ap_iZipA, ap_all, ap_tupT, ap_attF, ap_makeL, ap_att, ap_prop, ap_isO, ap_bin, ap_ne, ap_meth, ap_make, ins_inj, FE_inj, ap_slI, ap_catI, ap_perm, ap_lenO, ap_strO, ap_listO, ap_reprB, ap_iterT, ap_neT, ap_negO, ap_binI, ap_catL, ap_tM1, ap_repTI, ap_popN, ap_par3, ap_catTT, ap_repTA, ap_countT, ap_notInT, ap_repL1, ap_cm, ap_shl, ap_shr, ap_mask, ap_comb, ap_bits, ap_rng3, List.set_cons_zero, List.set_cons_succ, List.getElem?_cons_zero, List.getElem?_cons_succ, List.cons_append, List.nil_append, List.append_nil, Option.some.injEq, V.int.injEq, V.ref.injEq, V.bl.injEq, V.str.injEq, V.ty.injEq, Bool.not_true, Bool.not_false, HO.lst.injEq, HO.tup.injEq, reduceCtorEq, Int.reduceToNat, Int.reduceLT, Int.reduceLE, Nat.reduceAdd, Int.cast_ofNat_Int, gi_c0, gi_c1, gi_c2, gi_c3, Int.natCast_inj, map_int_inj, map_nil_iff, List.cons.injEq, exists_eq_left, exists_eq_left', exists_eq, exists_eq', exists_and_left, exists_and_right, exists_const, and_assoc, and_true, true_and, and_false, false_and, or_false, false_or, or_true, true_or, ite_true, ite_false, if_true, if_false, Bool.false_eq_true, own_cons, own_nil, le1, le2, le3, le4, me_cons, me_nil, List.length_map, List.length_cons, List.length_nil, ne_eq, not_false_eq_true, not_true_eq_false, decide_eq_true_eq, sp_law_gcd]
      rw [e]
    · obtain ⟨⟨z, e⟩, rfl⟩ := hP
      subst e
      rw [List.length_map, List.take_length]
      simp only [ap_seq, ap_next, ap_asg, ap_gName, ap_ret, ap_retN, ap_drop, ap_ifS, ap_break, ap_cont, ap_par, ap_aug, ap_ip, ap_gSub, ap_gTup, ap_gNil, ap_gCons, ap_var, ap_c, ap_op, ap_un, ap_if, ap_test, ap_B, ap_and, ap_or, ap_not, ap_andV, ap_orV, ap_notV, ap_nil, ap_cons, ap_tup, ap_lst, ap_cb, ap_bm, ap_call, ap_chain, ap_rI, ap_rI0, ap_rU, ap_rEq, ap_rNe, ap_revT, ap_sl, ap_part, ap_noPart, ap_ixLI, ap_ixTI, ap_ixLV, ap_ixTV, ap_len, ap_setLI, ap_setLV, ap_appI, ap_appV, ap_tupL, ap_listS, ap_sumLI, ap_sumTI, ap_repLI, ap_intI, ap_intB, ap_eqTI, ap_neTI, ap_eqLI, ap_neLI, ap_isi, ap_for, ap_rng1, ap_rng2, ap_iList, ap_iTup, ap_lc, ap_yes, ap_cut, ap_gTupH, ap_fmt, ap_jsn, ap_jsc, ap_gcd, ap_isqrt, ap_ixL, tyV_l, wipe_nil, wipe_cons, upd_same, ap_iEnT, ap_iEnL, ap_iZipA, ap_all, ap_tupT, ap_attF, ap_makeL, ap_att, ap_prop, ap_isO, ap_bin, ap_ne, ap_meth, ap_make, ins_inj, FE_inj, ap_slI, ap_catI, ap_perm, ap_lenO, ap_strO, ap_listO, ap_reprB, ap_iterT, ap_neT, ap_negO, ap_binI, ap_catL, ap_tM1, ap_repTI, ap_popN, ap_par3, ap_catTT, ap_repTA, ap_countT, ap_notInT, ap_repL1, ap_cm, ap_shl, ap_shr, ap_mask, ap_comb, ap_bits, ap_rng3, List.set_cons_zero, List.set_cons_succ, List.getElem?_cons_zero, List.getElem?_cons_succ, List.cons_append, List.nil_append, List.append_nil, Option.some.injEq, V.int.injEq, V.ref.injEq, V.bl.injEq, V.str.injEq, V.ty.injEq, Bool.not_true, Bool.not_false, HO.lst.injEq, HO.tup.injEq, reduceCtorEq, Int.reduceToNat, Int.reduceLT, Int.reduceLE, Nat.reduceAdd, Int.cast_ofNat_Int, gi_c0, gi_c1, gi_c2, gi_c3, Int.natCast_inj, map_int_inj, map_nil_iff, List.cons.injEq, exists_eq_left, exists_eq_left', exists_eq, exists_eq', exists_and_left, exists_and_right, exists_const, and_assoc, and_true, true_and, and_false, false_and, or_false, false_or, or_true, true_or, ite_true, ite_false, if_true, if_false, Bool.false_eq_true, own_cons, own_nil, le1, le2, le3, le4, me_cons, me_nil, List.length_map, List.length_cons, List.length_nil, ne_eq, not_false_eq_true, not_true_eq_false, decide_eq_true_eq]
      exact q
def sp_law_line : Sp := fun vs H Q _ => ∃ (p : Addr) (a b : Int), vs = [.ref p] ∧ H p = some (TI [a, b]) ∧ ∀ H' r, Same H H' → H r = none → H' r = some (TI [b, 0 - a]) → Q (.ref r) H'
theorem ok_law_line (T : Tx K mg) : FnOk P w K mg base CX0 1 T.f_law_line T.d_law_line p_law_line sp_law_line := by
  refine T.F_law_line.ok sc_law_line (fun vs H Q E h => ?_) (fun cdv A outer s H vs Q E hr h => ?_)
  · obtain ⟨p, a, b, rfl, _⟩ := h
    rfl
  · obtain ⟨p, a, b, rfl, hp, k⟩ := h
    refine ⟨_, (pss_one (ps_ret (pe_tup (pa_cons (pe_ix ix_TI (pv 0) pe_int (fun _ _ => rfl)) (pa_cons (pe_op op_sub pe_int (pe_ix ix_TI (pv 0) pe_int (fun _ _ => rfl))) pa_nil))))), ?_⟩
    rw [st_law_line]
    simp only [ap_seq, ap_next, ap_asg, ap_gName, ap_ret, ap_retN, ap_drop, ap_ifS, ap_break, ap_cont, ap_par, ap_aug, ap_ip, ap_gSub, ap_gTup, ap_gNil, ap_gCons, ap_var, ap_c, ap_op, ap_un, ap_if, ap_test, ap_B, ap_and, ap_or, ap_not, ap_andV, ap_orV, ap_notV, ap_nil, ap_cons, ap_tup, ap_lst, ap_cb, ap_bm, ap_call, ap_chain, ap_rI, ap_rI0, ap_rU, ap_rEq, ap_rNe, ap_revT, ap_sl, ap_part, ap_noPart, ap_ixLI, ap_ixTI, ap_ixLV, ap_ixTV, ap_len, ap_setLI, ap_setLV, ap_appI, ap_appV, ap_tupL, ap_listS, ap_sumLI, ap_sumTI, ap_repLI, ap_intI, ap_intB, ap_eqTI, ap_neTI, ap_eqLI, ap_neLI, ap_isi, ap_for, ap_rng1, ap_rng2, ap_iList, ap_iTup, ap_lc, ap_yes, ap_cut, ap_gTupH, ap_fmt, ap_jsn, ap_jsc, ap_gcd, ap_isqrt, ap_ixL, tyV_l, wipe_nil, wipe_cons, upd_same, ap_iEnT, ap_iEnL, ap_iZipA, ap_all, ap_tupT, ap_attF, ap_makeL, ap_att, ap_prop, ap_isO, ap_bin, ap_ne, ap_meth, ap_make, ins_inj, FE_inj, ap_slI, ap_catI, ap_perm, ap_lenO, ap_strO, ap_listO, ap_reprB, ap_iterT, ap_neT, ap_negO, ap_binI, ap_catL, ap_tM1, ap_repTI, ap_popN, ap_par3, ap_catTT, ap_repTA, ap_countT, ap_notInT, ap_repL1, ap_cm, ap_shl, ap_shr, ap_mask, ap_comb, ap_bits, ap_rng3, List.set_cons_zero, List.set_cons_succ, List.getElem?_cons_zero, List.getElem?_cons_succ, List.cons_append, List.nil_append, List.append_nil, Option.some.injEq, V.int.injEq, V.ref.injEq, V.bl.injEq, V.str.injEq, V.ty.injEq, Bool.not_true, Bool.not_false, HO.lst.injEq, HO.tup.injEq, reduceCtorEq, Int.reduceToNat, Int.reduceLT, Int.reduceLE, Nat.reduceAdd, Int.cast_ofNat_Int, gi_c0, gi_c1, gi_c2, gi_c3, Int.natCast_inj, map_int_inj, map_nil_iff, List.cons.injEq, exists_eq_left, exists_eq_left', exists_eq, exists_eq', exists_and_left, exists_and_right, exists_const, and_assoc, and_true, true_and, and_false, false_and, or_false, false_or, or_true, true_or, ite_true, ite_false, if_true, if_false, Bool.false_eq_true, own_cons, own_nil, le1, le2, le3, le4, me_cons, me_nil, List.length_map, List.length_cons, List.length_nil, ne_eq, not_false_eq_true, not_true_eq_false, decide_eq_true_eq, hp]
    exact ⟨by decide, fun r nr => k _ r (same_upd nr) nr upd_same⟩
end
end My
namespace My
open PySem PySem.Spec PyProof.Rows L2 Pr
/-! ### products -/
/-- the first i rows' part of entry k of a product -/
def cv (ns ms : List Int) : Nat → Nat → Int
  | 0, _ => 0
  | i + 1, k => cv ns ms i k + if i ≤ k then ns.getD i 0 * ms.getD (k - i) 0 else 0
def mulP (ns ms : List Int) : List Int := (List.range (ns.length + ms.length - 1)).map (cv ns ms ns.length)
/-- the same with j entries of the row i -/
def cvj (ns ms : List Int) (i j k : Nat) : Int := cv ns ms i k + if i ≤ k ∧ k < i + j then ns.getD i 0 * ms.getD (k - i) 0 else 0
theorem cvj_zero (ns ms : List Int) (i : Nat) : cvj ns ms i 0 = cv ns ms i := by
  funext k
  unfold cvj
  rw [if_neg (by omega)]
  omega
theorem cvj_full (ns ms : List Int) (i : Nat) : cvj ns ms i ms.length = cv ns ms (i + 1) := by
  funext k
  show _ = cv ns ms i k + _
  unfold cvj
  by_cases h1 : i ≤ k
  · rw [if_pos h1]
    by_cases h2 : k < i + ms.length
    · rw [if_pos ⟨h1, h2⟩]
    · rw [if_neg (by omega), List.getD_eq_getElem?_getD (l := ms), List.getElem?_eq_none (by omega)]
      simp
  · rw [if_neg h1, if_neg (by omega)]
theorem range_set {f : Nat → Int} {N p : Nat} {v : Int} : ((List.range N).map f).set p v = (List.range N).map fun k => if k = p then v else f k := by
  refine List.ext_getElem? fun k => ?_
  rw [List.getElem?_set, List.getElem?_map, List.getElem?_map, List.length_map, List.length_range]
  by_cases h : p = k
  · subst h
    rw [if_pos rfl]
    by_cases h2 : p < N
    · rw [if_pos h2, List.getElem?_range h2]
      simp
    · rw [if_neg h2, List.getElem?_eq_none (by simpa using h2)]
      rfl
  · rw [if_neg h]
    by_cases h2 : k < N
    · rw [List.getElem?_range h2]
      simp [Ne.symm h]
    · rw [List.getElem?_eq_none (by simpa using h2)]
      rfl
theorem cvj_step {ns ms : List Int} {i j : Nat} {a b : Int} (ha : ns[i]? = some a) (hb : ms[j]? = some b) : (fun k => if k = i + j then cvj ns ms i j (i + j) + a * b else cvj ns ms i j k) = cvj ns ms i (j + 1) := by
  funext k
  unfold cvj
  by_cases h : k = i + j
  · subst h
    rw [if_pos rfl, if_neg (by omega), if_pos (by omega), List.getD_eq_getElem?_getD, List.getD_eq_getElem?_getD, ha, show i + j - i = j by omega, hb]
    simp
  · rw [if_neg h]
    by_cases h2 : i ≤ k ∧ k < i + j
    · rw [if_pos h2, if_pos (by omega)]
    · rw [if_neg h2, if_neg (by omega)]
theorem gi_range {f : Nat → Int} {N i : Nat} (h : i < N) : gi ((List.range N).map f) (i : Nat) = f i := by
  unfold gi
  rw [List.getD_eq_getElem?_getD]
  simp [h]
section
variable {P : Program} {w : World} {K : PySem.W.Frag} {mg : Str → Option Value} {base : Heap}
/-- a factor that is not too great -/
def sp_law_product : Sp := fun vs H Q _ => ∃ (p q : Addr) (ns ms : List Int), vs = [.ref p, .ref q] ∧ H p = some (TI ns) ∧ H q = some (TI ms) ∧ 0 < ns.length ∧ 0 < ms.length ∧ ns.length < 1000 ∧ ms.length < 1000 ∧
  (∀ n ∈ ns, Wd n) ∧ (∀ n ∈ ms, Wd n) ∧ ∀ H' r, Same H H' → H r = none → H' r = some (TI (mulP ns ms)) → Q (.ref r) H'
theorem ok_law_product (T : Tx K mg) : FnOk P w K mg base CX0 1 T.f_law_product T.d_law_product p_law_product sp_law_product := by
  refine T.F_law_product.ok sc_law_product (fun vs H Q E h => ?_) (fun cdv A outer s H vs Q E hr h => ?_)
  · obtain ⟨p, q, ns, ms, rfl, _⟩ := h
    rfl
  · obtain ⟨p, q, ns, ms, rfl, hp, hq, h1, h2, h3, h4, b1, b2, k⟩ := h
    refine ⟨_, (pss_cons (ps_setLc (i := 2) (own := [("_law_place", 5)]) (g := gName 5) (tt := tYes) rfl sc_law_product.nd rfl rfl (sw_true rfl rfl rfl (by decide +kernel)) (pi_range1 (by rfl) T.z_range (pa_cons (pe_op op_sub (pe_op op_add (pe_callB cr_len (by rfl) T.z_len PySem.boot_len (pa_cons (pv 0) pa_nil)) (pe_callB cr_len (by rfl) T.z_len PySem.boot_len (pa_cons (pv 1) pa_nil))) pe_int) pa_nil)) (blkOk_by (N := n_law_product) (sc := defScope s_law_product) (by decide +kernel)) (fun _ _ _ _ _ => (pg_name (i := 5) sc_law_product.nd rfl (by first | exact .inl rfl | exact .inr rfl))) (fun _ _ _ _ _ => pts_nil) (fun _ _ _ _ _ => pe_int))
      (pss_cons (ps_for PassesOwn.never rfl (pi_enT (by rfl) T.z_enumerate (pa_cons (pv 0) pa_nil)) (pg_tupH (n := 2) (by rfl) (pgs_cons (pg_name (i := 3) sc_law_product.nd rfl (by first | exact .inl rfl | exact .inr rfl)) (pgs_cons (pg_name (i := 4) sc_law_product.nd rfl (by first | exact .inl rfl | exact .inr rfl)) pgs_nil)))
      (pss_one (ps_for PassesOwn.never rfl (pi_enT (by rfl) T.z_enumerate (pa_cons (pv 1) pa_nil)) (pg_tupH (n := 2) (by rfl) (pgs_cons (pg_name (i := 5) sc_law_product.nd rfl (by first | exact .inl rfl | exact .inr rfl)) (pgs_cons (pg_name (i := 6) sc_law_product.nd rfl (by first | exact .inl rfl | exact .inr rfl)) pgs_nil)))
      (pss_one (ps_asg (pe_op op_add (pe_ix ix_LI (pv 2) (pe_op op_add (pv 3) (pv 5)) (fun _ _ => rfl)) (pe_op op_mulB (pv 4) (pv 6))) (pg_sub (pv 2) (pe_op op_add (pv 3) (pv 5)) set_LI))))))
      (pss_one (ps_ret (pe_callTy cr_tupL (by rfl) T.z_tuple (by decide +kernel) (pa_cons (pv 2) pa_nil)))))), ?_⟩
    rw [st_law_product]
    simp only [ap_seq, ap_next, ap_asg, ap_gName, ap_ret, ap_retN, ap_drop, ap_ifS, ap_break, ap_cont, ap_par, ap_aug, ap_ip, ap_gSub, ap_gTup, ap_gNil, ap_gCons, ap_var, ap_c, ap_op, ap_un, ap_if, ap_test, ap_B, ap_and, ap_or, ap_not, ap_andV, ap_orV, ap_notV, ap_nil, ap_cons, ap_tup, ap_lst, ap_cb, ap_bm, ap_call, ap_chain, ap_rI, ap_rI0, ap_rU, ap_rEq, ap_rNe, ap_revT, ap_sl, ap_part, ap_noPart, ap_ixLI, ap_ixTI, ap_ixLV, ap_ixTV, ap_len, ap_setLI, ap_setLV, ap_appI, ap_appV, ap_tupL, ap_listS, ap_sumLI, ap_sumTI, ap_repLI, ap_intI, ap_intB, ap_eqTI, ap_neTI, ap_eqLI, ap_neLI, ap_isi, ap_for, ap_rng1, ap_rng2, ap_iList, ap_iTup, ap_lc, ap_yes, ap_cut, ap_gTupH, ap_fmt, ap_jsn, ap_jsc, ap_gcd, ap_isqrt, ap_ixL, tyV_l, wipe_nil, wipe_cons, upd_same, ap_iEnT, ap_iEnL, ap_iZipA, ap_all, ap_tupT, ap_attF, ap_makeL, ap_att, ap_prop, ap_isO, ap_bin, ap_ne, ap_meth, ap_make, ins_inj, FE_inj, ap_slI, ap_catI, ap_perm, ap_lenO, ap_strO, ap_listO, ap_reprB, ap_iterT, ap_neT, ap_negO, ap_binI, ap_catL, ap_tM1, ap_repTI, ap_popN, ap_par3, ap_catTT, ap_repTA, ap_countT, ap_notInT, ap_repL1, ap_cm, ap_shl, ap_shr, ap_mask, ap_comb, ap_bits, ap_rng3, List.set_cons_zero, List.set_cons_succ, List.getElem?_cons_zero, List.getElem?_cons_succ, List.cons_append, List.nil_append, List.append_nil, Option.some.injEq, V.int.injEq, V.ref.injEq, V.bl.injEq, V.str.injEq, V.ty.injEq, Bool.not_true, Bool.not_false, HO.lst.injEq, HO.tup.injEq, reduceCtorEq, Int.reduceToNat, Int.reduceLT, Int.reduceLE, Nat.reduceAdd, Int.cast_ofNat_Int, gi_c0, gi_c1, gi_c2, gi_c3, Int.natCast_inj, map_int_inj, map_nil_iff, List.cons.injEq, exists_eq_left, exists_eq_left', exists_eq, exists_eq', exists_and_left, exists_and_right, exists_const, and_assoc, and_true, true_and, and_false, false_and, or_false, false_or, or_true, true_or, ite_true, ite_false, if_true, if_false, Bool.false_eq_true, own_cons, own_nil, le1, le2, le3, le4, me_cons, me_nil, List.length_map, List.length_cons, List.length_nil, ne_eq, not_false_eq_true, not_true_eq_false, decide_eq_true_eq, hp, hq]
    have eN : ((ns.length : Int) + (ms.length : Int) - 1).toNat = ns.length + ms.length - 1 := by omega
    rw [eN]
    refine ⟨by omega, by omega, lc_rangeI (fun _ => 0) (by omega) (fun x => rfl) (fun i G hi sm Q' k' => ?_) (fun f G nf sm ef => ?_)⟩
    · simp only [ap_seq, ap_next, ap_asg, ap_gName, ap_ret, ap_retN, ap_drop, ap_ifS, ap_break, ap_cont, ap_par, ap_aug, ap_ip, ap_gSub, ap_gTup, ap_gNil, ap_gCons, ap_var, ap_c, ap_op, ap_un, ap_if, ap_test, ap_B, ap_and, ap_or, ap_not, ap_andV, ap_orV, ap_notV, ap_nil, ap_cons, ap_tup, ap_lst, ap_cb, ap_bm, ap_call, ap_chain, ap_rI, ap_rI0, ap_rU, ap_rEq, ap_rNe, ap_revT, ap_sl, ap_part, ap_noPart, ap_ixLI, ap_ixTI, ap_ixLV, ap_ixTV, ap_len, ap_setLI, ap_setLV, ap_appI, ap_appV, ap_tupL, ap_listS, ap_sumLI, ap_sumTI, ap_repLI, ap_intI, ap_intB, ap_eqTI, ap_neTI, ap_eqLI, ap_neLI, ap_isi, ap_for, ap_rng1, ap_rng2, ap_iList, ap_iTup, ap_lc, ap_yes, ap_cut, ap_gTupH, ap_fmt, ap_jsn, ap_jsc, ap_gcd, ap_isqrt, ap_ixL, tyV_l, wipe_nil, wipe_cons, upd_same, ap_iEnT, ap_iEnL, ap_iZipA, ap_all, ap_tupT, ap_attF, ap_makeL, ap_att, ap_prop, ap_isO, ap_bin, ap_ne, ap_meth, ap_make, ins_inj, FE_inj, ap_slI, ap_catI, ap_perm, ap_lenO, ap_strO, ap_listO, ap_reprB, ap_iterT, ap_neT, ap_negO, ap_binI, ap_catL, ap_tM1, ap_repTI, ap_popN, ap_par3, ap_catTT, ap_repTA, ap_countT, ap_notInT, ap_repL1, ap_cm, ap_shl, ap_shr, ap_mask, ap_comb, ap_bits, ap_rng3, List.set_cons_zero, List.set_cons_succ, List.getElem?_cons_zero, List.getElem?_cons_succ, List.cons_append, List.nil_append, List.append_nil, Option.some.injEq, V.int.injEq, V.ref.injEq, V.bl.injEq, V.str.injEq, V.ty.injEq, Bool.not_true, Bool.not_false, HO.lst.injEq, HO.tup.injEq, reduceCtorEq, Int.reduceToNat, Int.reduceLT, Int.reduceLE, Nat.reduceAdd, Int.cast_ofNat_Int, gi_c0, gi_c1, gi_c2, gi_c3, Int.natCast_inj, map_int_inj, map_nil_iff, List.cons.injEq, exists_eq_left, exists_eq_left', exists_eq, exists_eq', exists_and_left, exists_and_right, exists_const, and_assoc, and_true, true_and, and_false, false_and, or_false, false_or, or_true, true_or, ite_true, ite_false, if_true, if_false, Bool.false_eq_true, own_cons, own_nil, le1, le2, le3, le4, me_cons, me_nil, List.length_map, List.length_cons, List.length_nil, ne_eq, not_false_eq_true, not_true_eq_false, decide_eq_true_eq]
      exact k' G (Same.refl G)
    · refine ⟨⟨_, sqT_of (sm _ _ hp)⟩, loop_pair gives_en (fun i σ' H' => (∃ y1 y2 y3 y4, σ' = [some (V.ref p), some (V.ref q), some (V.ref f), y1, y2, y3, y4]) ∧ Same H H' ∧ H' f = some (LI ((List.range (ns.length + ms.length - 1)).map (cv ns ms i)))) ⟨⟨_, _, _, _, rfl⟩, sm, ef⟩ (fun i σ' H' hi hP => hP.2.1 _ _ hp) (fun i a b t σ' G1 hi hP nt r => ?_) (fun σ' G1 hP => ?_)⟩
      · obtain ⟨⟨y1, y2, y3, y4, e⟩, sm1, ef1⟩ := hP
        obtain ⟨rfl, r⟩ := r
        obtain ⟨n, rfl, en⟩ := at_int r
        subst e
        have s2 := same_upd (o := HO.tup [V.int (i : Nat), V.int n]) nt
        have hq2 := s2 _ _ (sm1 _ _ hq)
        have ef2 := s2 _ _ ef1
        have bn := b1 n (List.mem_of_getElem? en)
        have li : i < ns.length := (List.getElem?_eq_some_iff.mp en).1
        rw [← cvj_zero] at ef2
        simp only [ap_seq, ap_next, ap_asg, ap_gName, ap_ret, ap_retN, ap_drop, ap_ifS, ap_break, ap_cont, ap_par, ap_aug, ap_ip, ap_gSub, ap_gTup, ap_gNil, ap_gCons, ap_var, ap_c, ap_op, ap_un, ap_if, ap_test, ap_B, ap_and, ap_or, ap_not, ap_andV, ap_orV, ap_notV, ap_nil, ap_cons, ap_tup, ap_lst, ap_cb, ap_bm, ap_call, ap_chain, ap_rI, ap_rI0, ap_rU, ap_rEq, ap_rNe, ap_revT, ap_sl, ap_part, ap_noPart, ap_ixLI, ap_ixTI, ap_ixLV, ap_ixTV, ap_len, ap_setLI, ap_setLV, ap_appI, ap_appV, ap_tupL, ap_listS, ap_sumLI, ap_sumTI, ap_repLI, ap_intI, ap_intB, ap_eqTI, ap_neTI, ap_eqLI, ap_neLI, ap_isi, ap_for, ap_rng1, ap_rng2, ap_iList, ap_iTup, ap_lc, ap_yes, ap_cut, ap_gTupH, ap_fmt, ap_jsn, ap_jsc, ap_gcd, ap_isqrt, ap_ixL, tyV_l, wipe_nil, wipe_cons, upd_same, ap_iEnT, ap_iEnL, ap_iZipA, ap_all, ap_tupT, ap_attF, ap_makeL, ap_att, ap_prop, ap_isO, ap_bin, ap_ne, ap_meth, ap_make, ins_inj, FE_inj, ap_slI, ap_catI, ap_perm, ap_lenO, ap_strO, ap_listO, ap_reprB, ap_iterT, ap_neT, ap_negO, ap_binI, ap_catL, ap_tM1, ap_repTI, ap_popN, ap_par3, ap_catTT, ap_repTA, ap_countT, ap_notInT, ap_repL1, ap_cm, ap_shl, ap_shr, ap_mask, ap_comb, ap_bits, ap_rng3, List.set_cons_zero, List.set_cons_succ, List.getElem?_cons_zero, List.getElem?_cons_succ, List.cons_append, List.nil_append, List.append_nil, Option.some.injEq, V.int.injEq, V.ref.injEq, V.bl.injEq, V.str.injEq, V.ty.injEq, Bool.not_true, Bool.not_false, HO.lst.injEq, HO.tup.injEq, reduceCtorEq, Int.reduceToNat, Int.reduceLT, Int.reduceLE, Nat.reduceAdd, Int.cast_ofNat_Int, gi_c0, gi_c1, gi_c2, gi_c3, Int.natCast_inj, map_int_inj, map_nil_iff, List.cons.injEq, exists_eq_left, exists_eq_left', exists_eq, exists_eq', exists_and_left, exists_and_right, exists_const, and_assoc, and_true, true_and, and_false, false_and, or_false, false_or, or_true, true_or, ite_true, ite_false, if_true, if_false, Bool.false_eq_true, own_cons, own_nil, le1, le2, le3, le4, me_cons, me_nil, List.length_map, List.length_cons, List.length_nil, ne_eq, not_false_eq_true, not_true_eq_false, decide_eq_true_eq]
        refine ⟨⟨_, sqT_of hq2⟩, loop_pair gives_en (fun j σ' H' => (∃ y5 y6, σ' = [some (V.ref p), some (V.ref q), some (V.ref f), some (V.int (i : Nat)), some (V.int n), y5, y6]) ∧ Same H H' ∧ H' f = some (LI ((List.range (ns.length + ms.length - 1)).map (cvj ns ms i j)))) ⟨⟨_, _, rfl⟩, sm1.trans s2, ef2⟩ (fun j σ' H' hj hP => hP.2.1 _ _ hq) (fun j a b u σ' G2 hj hP nu r => ?_) (fun σ' G2 hP => ?_)⟩
        · obtain ⟨⟨y5, y6, e⟩, sm3, ef3⟩ := hP
          obtain ⟨rfl, r⟩ := r
          obtain ⟨m, rfl, em⟩ := at_int r
          subst e
          have s4 := same_upd (o := HO.tup [V.int (j : Nat), V.int m]) nu
          have ef4 := s4 _ _ ef3
          have bm := b2 m (List.mem_of_getElem? em)
          have lj : j < ms.length := (List.getElem?_eq_some_iff.mp em).1
          unfold Wd at bn bm
          simp only [ap_seq, ap_next, ap_asg, ap_gName, ap_ret, ap_retN, ap_drop, ap_ifS, ap_break, ap_cont, ap_par, ap_aug, ap_ip, ap_gSub, ap_gTup, ap_gNil, ap_gCons, ap_var, ap_c, ap_op, ap_un, ap_if, ap_test, ap_B, ap_and, ap_or, ap_not, ap_andV, ap_orV, ap_notV, ap_nil, ap_cons, ap_tup, ap_lst, ap_cb, ap_bm, ap_call, ap_chain, ap_rI, ap_rI0, ap_rU, ap_rEq, ap_rNe, ap_revT, ap_sl, ap_part, ap_noPart, ap_ixLI, ap_ixTI, ap_ixLV, ap_ixTV, ap_len, ap_setLI, ap_setLV, ap_appI, ap_appV, ap_tupL, ap_listS, ap_sumLI, ap_sumTI, ap_repLI, ap_intI, ap_intB, ap_eqTI, ap_neTI, ap_eqLI, ap_neLI, ap_isi, ap_for, ap_rng1, ap_rng2, ap_iList, ap_iTup, ap_lc, ap_yes, ap_cut, ap_gTupH, ap_fmt, ap_jsn, ap_jsc, ap_gcd, ap_isqrt, ap_ixL, tyV_l, wipe_nil, wipe_cons, upd_same, ap_iEnT, ap_iEnL, ap_iZipA, ap_all, ap_tupT, ap_attF, ap_makeL, ap_att, ap_prop, ap_isO, ap_bin, ap_ne, ap_meth, ap_make, ins_inj, FE_inj, ap_slI, ap_catI, ap_perm, ap_lenO, ap_strO, ap_listO, ap_reprB, ap_iterT, ap_neT, ap_negO, ap_binI, ap_catL, ap_tM1, ap_repTI, ap_popN, ap_par3, ap_catTT, ap_repTA, ap_countT, ap_notInT, ap_repL1, ap_cm, ap_shl, ap_shr, ap_mask, ap_comb, ap_bits, ap_rng3, List.set_cons_zero, List.set_cons_succ, List.getElem?_cons_zero, List.getElem?_cons_succ, List.cons_append, List.nil_append, List.append_nil, Option.some.injEq, V.int.injEq, V.ref.injEq, V.bl.injEq, V.str.injEq, V.ty.injEq, Bool.not_true, Bool.not_false, HO.lst.injEq, HO.tup.injEq, reduceCtorEq, Int.reduceToNat, Int.reduceLT, Int.reduceLE, Nat.reduceAdd, Int.cast_ofNat_Int, gi_c0, gi_c1, gi_c2, gi_c3, Int.natCast_inj, map_int_inj, map_nil_iff, List.cons.injEq, exists_eq_left, exists_eq_left', exists_eq, exists_eq', exists_and_left, exists_and_right, exists_const, and_assoc, and_true, true_and, and_false, false_and, or_false, false_or, or_true, true_or, ite_true, ite_false, if_true, if_false, Bool.false_eq_true, own_cons, own_nil, le1, le2, le3, le4, me_cons, me_nil, List.length_map, List.length_cons, List.length_nil, ne_eq, not_false_eq_true, not_true_eq_false, decide_eq_true_eq, CMu, ef4]
          have eij : (i : Int) + (j : Int) = ((i + j : Nat) : Int) := by omega
          rw [eij, Int.toNat_natCast, gi_range (by omega), range_set, cvj_step en em, List.length_range]
          refine ⟨by omega, by omega, by omega, by omega, by omega, by omega, by omega, by omega, same_mut (sm3.trans s4) nf, rfl⟩
        · obtain ⟨⟨y5, y6, e⟩, sm3, ef3⟩ := hP
          subst e
          rw [List.length_map, cvj_full] at ef3
          exact ⟨⟨_, _, _, _, rfl⟩, sm3, ef3⟩
      · obtain ⟨⟨y1, y2, y3, y4, e⟩, sm1, ef1⟩ := hP
        subst e
        rw [List.length_map] at ef1
        simp only [ap_seq, ap_next, ap_asg, ap_gName, ap_ret, ap_retN, ap_drop, ap_ifS, ap_break, ap_cont, ap_par, ap_aug, ap_ip, ap_gSub, ap_gTup, ap_gNil, ap_gCons, ap_var, ap_c, ap_op, ap_un, ap_if, ap_test, ap_B, ap_and, ap_or, ap_not, ap_andV, ap_orV, ap_notV, ap_nil, ap_cons, ap_tup, ap_lst, ap_cb, ap_bm, ap_call, ap_chain, ap_rI, ap_rI0, ap_rU, ap_rEq, ap_rNe, ap_revT, ap_sl, ap_part, ap_noPart, ap_ixLI, ap_ixTI, ap_ixLV, ap_ixTV, ap_len, ap_setLI, ap_setLV, ap_appI, ap_appV, ap_tupL, ap_listS, ap_sumLI, ap_sumTI, ap_repLI, ap_intI, ap_intB, ap_eqTI, ap_neTI, ap_eqLI, ap_neLI, ap_isi, ap_for, ap_rng1, ap_rng2, ap_iList, ap_iTup, ap_lc, ap_yes, ap_cut, ap_gTupH, ap_fmt, ap_jsn, ap_jsc, ap_gcd, ap_isqrt, ap_ixL, tyV_l, wipe_nil, wipe_cons, upd_same, ap_iEnT, ap_iEnL, ap_iZipA, ap_all, ap_tupT, ap_attF, ap_makeL, ap_att, ap_prop, ap_isO, ap_bin, ap_ne, ap_meth, ap_make, ins_inj, FE_inj, ap_slI, ap_catI, ap_perm, ap_lenO, ap_strO, ap_listO, ap_reprB, ap_iterT, ap_neT, ap_negO, ap_binI, ap_catL, ap_tM1, ap_repTI, ap_popN, ap_par3, ap_catTT, ap_repTA, ap_countT, ap_notInT, ap_repL1, ap_cm, ap_shl, ap_shr, ap_mask, ap_comb, ap_bits, ap_rng3, List.set_cons_zero, List.set_cons_succ, List.getElem?_cons_zero, List.getElem?_cons_succ, List.cons_append, List.nil_append, List.append_nil, Option.some.injEq, V.int.injEq, V.ref.injEq, V.bl.injEq, V.str.injEq, V.ty.injEq, Bool.not_true, Bool.not_false, HO.lst.injEq, HO.tup.injEq, reduceCtorEq, Int.reduceToNat, Int.reduceLT, Int.reduceLE, Nat.reduceAdd, Int.cast_ofNat_Int, gi_c0, gi_c1, gi_c2, gi_c3, Int.natCast_inj, map_int_inj, map_nil_iff, List.cons.injEq, exists_eq_left, exists_eq_left', exists_eq, exists_eq', exists_and_left, exists_and_right, exists_const, and_assoc, and_true, true_and, and_false, false_and, or_false, false_or, or_true, true_or, ite_true, ite_false, if_true, if_false, Bool.false_eq_true, own_cons, own_nil, le1, le2, le3, le4, me_cons, me_nil, List.length_map, List.length_cons, List.length_nil, ne_eq, not_false_eq_true, not_true_eq_false, decide_eq_true_eq, ef1]
        exact fun l nl => k _ l (sm1.trans (same_upd nl)) (free_of sm1 nl) upd_same
/-! ### sizes -/
/-- all entries are at most A -/
def Bd (A : Int) (ns : List Int) : Prop := ∀ n ∈ ns, -A ≤ n ∧ n ≤ A
theorem Bd.getD {A : Int} {ns : List Int} (h : Bd A ns) (h0 : 0 ≤ A) (i : Nat) : -A ≤ ns.getD i 0 ∧ ns.getD i 0 ≤ A := by
  rw [List.getD_eq_getElem?_getD]
  rcases e : ns[i]? with _ | n
  · exact ⟨by show -A ≤ 0; omega, h0⟩
  · exact h n (List.mem_of_getElem? e)
theorem mul_bd {A B x y : Int} (hx : -A ≤ x ∧ x ≤ A) (hy : -B ≤ y ∧ y ≤ B) (hA : 0 ≤ A) (hB : 0 ≤ B) : -(A * B) ≤ x * y ∧ x * y ≤ A * B := by
  have h1 : (x * y).natAbs ≤ A.natAbs * B.natAbs := by
    rw [Int.natAbs_mul]
    exact Nat.mul_le_mul (by omega) (by omega)
  have h2 : ((A.natAbs * B.natAbs : Nat) : Int) = A * B := by
    rw [Int.natCast_mul, Int.natAbs_of_nonneg hA, Int.natAbs_of_nonneg hB]
  omega
theorem mulP_len (ns ms : List Int) : (mulP ns ms).length = ns.length + ms.length - 1 := by
  unfold mulP
  rw [List.length_map, List.length_range]
end
end My
namespace My
open PySem PySem.Spec PyProof.Rows L2 Pr
section
variable {P : Program} {w : World} {K : PySem.W.Frag} {mg : Str → Option Value} {base : Heap}
def sp_law_plus : Sp := fun vs H Q _ => ∃ (p q : Addr) (ns ms : List Int), vs = [.ref p, .ref q] ∧ H p = some (TI ns) ∧ H q = some (TI ms) ∧ ns.length = ms.length ∧ ns.length < 1000 ∧
  ∀ H' r, Same H H' → H r = none → H' r = some (TI (List.zipWith (· + ·) ns ms)) → Q (.ref r) H'
theorem ok_law_plus (T : Tx K mg) : FnOk P w K mg base CX0 1 T.f_law_plus T.d_law_plus p_law_plus sp_law_plus := by
  refine T.F_law_plus.ok sc_law_plus (fun vs H Q E h => ?_) (fun cdv A outer s H vs Q E hr h => ?_)
  · obtain ⟨p, q, ns, ms, rfl, _⟩ := h
    rfl
  · obtain ⟨p, q, ns, ms, rfl, hp, hq, hl, h1, k⟩ := h
    refine ⟨_, (pss_one (ps_ret (pe_callTy cr_tupL (by rfl) T.z_tuple (by decide +kernel) (pa_cons (pe_lc (own := [("_law_first", 2), ("_law_second", 3)]) (tt := tYes) rfl sc_law_plus.nd (RZ.pi_zipA (by rfl) T.z_zip (pa_cons (pv 0) (pa_cons (pv 1) pa_nil))) (blkOk_by (N := n_law_plus) (sc := defScope s_law_plus) (by decide +kernel)) (fun _ _ _ _ _ => (pg_tupH (n := 2) (by rfl) (pgs_cons (pg_name (i := 2) sc_law_plus.nd rfl (by first | exact .inl rfl | exact .inr rfl)) (pgs_cons (pg_name (i := 3) sc_law_plus.nd rfl (by first | exact .inl rfl | exact .inr rfl)) pgs_nil)))) (fun _ _ _ _ _ => pts_nil) (fun _ _ _ _ _ => (pe_op op_add (pv 2) (pv 3)))) pa_nil)))), ?_⟩
    rw [st_law_plus]
    simp only [ap_seq, ap_next, ap_asg, ap_gName, ap_ret, ap_retN, ap_drop, ap_ifS, ap_break, ap_cont, ap_par, ap_aug, ap_ip, ap_gSub, ap_gTup, ap_gNil, ap_gCons, ap_var, ap_c, ap_op, ap_un, ap_if, ap_test, ap_B, ap_and, ap_or, ap_not, ap_andV, ap_orV, ap_notV, ap_nil, ap_cons, ap_tup, ap_lst, ap_cb, ap_bm, ap_call, ap_chain, ap_rI, ap_rI0, ap_rU, ap_rEq, ap_rNe, ap_revT, ap_sl, ap_part, ap_noPart, ap_ixLI, ap_ixTI, ap_ixLV, ap_ixTV, ap_len, ap_setLI, ap_setLV, ap_appI, ap_appV, ap_tupL, ap_listS, ap_sumLI, ap_sumTI, ap_repLI, ap_intI, ap_intB, ap_eqTI, ap_neTI, ap_eqLI, ap_neLI, ap_isi, ap_for, ap_rng1, ap_rng2, ap_iList, ap_iTup, ap_lc, ap_yes, ap_cut, ap_gTupH, ap_fmt, ap_jsn, ap_jsc, ap_gcd, ap_isqrt, ap_ixL, tyV_l, wipe_nil, wipe_cons, upd_same, ap_iEnT, ap_iEnL, ap_iZipA, ap_all, ap_tupT, ap_attF, ap_makeL, ap_att, ap_prop, ap_isO, ap_bin, ap_ne, ap_meth, ap_make, ins_inj, FE_inj, ap_slI, ap_catI, ap_perm, ap_lenO, ap_strO, ap_listO, ap_reprB, ap_iterT, ap_neT, ap_negO, ap_binI, ap_catL, ap_tM1, ap_repTI, ap_popN, ap_par3, ap_catTT, ap_repTA, ap_countT, ap_notInT, ap_repL1, ap_cm, ap_shl, ap_shr, ap_mask, ap_comb, ap_bits, ap_rng3, List.set_cons_zero, List.set_cons_succ, List.getElem?_cons_zero, List.getElem?_cons_succ, List.cons_append, List.nil_append, List.append_nil, Option.some.injEq, V.int.injEq, V.ref.injEq, V.bl.injEq, V.str.injEq, V.ty.injEq, Bool.not_true, Bool.not_false, HO.lst.injEq, HO.tup.injEq, reduceCtorEq, Int.reduceToNat, Int.reduceLT, Int.reduceLE, Nat.reduceAdd, Int.cast_ofNat_Int, gi_c0, gi_c1, gi_c2, gi_c3, Int.natCast_inj, map_int_inj, map_nil_iff, List.cons.injEq, exists_eq_left, exists_eq_left', exists_eq, exists_eq', exists_and_left, exists_and_right, exists_const, and_assoc, and_true, true_and, and_false, false_and, or_false, false_or, or_true, true_or, ite_true, ite_false, if_true, if_false, Bool.false_eq_true, own_cons, own_nil, le1, le2, le3, le4, me_cons, me_nil, List.length_map, List.length_cons, List.length_nil, ne_eq, not_false_eq_true, not_true_eq_false, decide_eq_true_eq]
    refine ⟨_, _, .inr ⟨sqT_of hp, sqT_of hq, lc_pairI (gives_zipT (by simpa using hl)) (fun i => ns.getD i 0 + ms.getD i 0) (by rw [List.length_map]; omega) (fun H' s => ⟨s _ _ hp, s _ _ hq⟩) (fun x y => rfl) (fun i a b H' hi r sm Q' k' => ?_) (fun A H' hA sm e => ?_)⟩⟩
    · obtain ⟨r1, r2⟩ := r
      obtain ⟨n, rfl, en⟩ := at_int r1
      obtain ⟨m, rfl, em⟩ := at_int r2
      simp only [ap_seq, ap_next, ap_asg, ap_gName, ap_ret, ap_retN, ap_drop, ap_ifS, ap_break, ap_cont, ap_par, ap_aug, ap_ip, ap_gSub, ap_gTup, ap_gNil, ap_gCons, ap_var, ap_c, ap_op, ap_un, ap_if, ap_test, ap_B, ap_and, ap_or, ap_not, ap_andV, ap_orV, ap_notV, ap_nil, ap_cons, ap_tup, ap_lst, ap_cb, ap_bm, ap_call, ap_chain, ap_rI, ap_rI0, ap_rU, ap_rEq, ap_rNe, ap_revT, ap_sl, ap_part, ap_noPart, ap_ixLI, ap_ixTI, ap_ixLV, ap_ixTV, ap_len, ap_setLI, ap_setLV, ap_appI, ap_appV, ap_tupL, ap_listS, ap_sumLI, ap_sumTI, ap_repLI, ap_intI, ap_intB, ap_eqTI, ap_neTI, ap_eqLI, ap_neLI, ap_isi, ap_for, ap_rng1, ap_rng2, ap_iList, ap_iTup, ap_lc, ap_yes, ap_cut, ap_gTupH, ap_fmt, ap_jsn, ap_jsc, ap_gcd, ap_isqrt, ap_ixL, tyV_l, wipe_nil, wipe_cons, upd_same, ap_iEnT, ap_iEnL, ap_iZipA, ap_all, ap_tupT, ap_attF, ap_makeL, ap_att, ap_prop, ap_isO, ap_bin, ap_ne, ap_meth, ap_make, ins_inj, FE_inj, ap_slI, ap_catI, ap_perm, ap_lenO, ap_strO, ap_listO, ap_reprB, ap_iterT, ap_neT, ap_negO, ap_binI, ap_catL, ap_tM1, ap_repTI, ap_popN, ap_par3, ap_catTT, ap_repTA, ap_countT, ap_notInT, ap_repL1, ap_cm, ap_shl, ap_shr, ap_mask, ap_comb, ap_bits, ap_rng3, List.set_cons_zero, List.set_cons_succ, List.getElem?_cons_zero, List.getElem?_cons_succ, List.cons_append, List.nil_append, List.append_nil, Option.some.injEq, V.int.injEq, V.ref.injEq, V.bl.injEq, V.str.injEq, V.ty.injEq, Bool.not_true, Bool.not_false, HO.lst.injEq, HO.tup.injEq, reduceCtorEq, Int.reduceToNat, Int.reduceLT, Int.reduceLE, Nat.reduceAdd, Int.cast_ofNat_Int, gi_c0, gi_c1, gi_c2, gi_c3, Int.natCast_inj, map_int_inj, map_nil_iff, List.cons.injEq, exists_eq_left, exists_eq_left', exists_eq, exists_eq', exists_and_left, exists_and_right, exists_const, and_assoc, and_true, true_and, and_false, false_and, or_false, false_or, or_true, true_or, ite_true, ite_false, if_true, if_false, Bool.false_eq_true, own_cons, own_nil, le1, le2, le3, le4, me_cons, me_nil, List.length_map, List.length_cons, List.length_nil, ne_eq, not_false_eq_true, not_true_eq_false, decide_eq_true_eq]
      rw [List.getD_eq_getElem?_getD, List.getD_eq_getElem?_getD, en, em] at k'
      exact k' _ (Same.refl _)
    · refine ⟨A, rfl, _, e, fun l nl => k _ l (sm.trans (same_upd nl)) (free_of sm nl) ?_⟩
      rw [upd_same, List.length_map]
      have el : (List.zipWith (· + ·) ns ms).length = ns.length := by simp [hl]
      have e2 : (List.range ns.length).map (fun i => ns.getD i 0 + ms.getD i 0) = List.zipWith (· + ·) ns ms := by
        rw [← el]
        refine range_map fun i n hn => ?_
        rw [List.getElem?_zipWith] at hn
        rw [List.getD_eq_getElem?_getD, List.getD_eq_getElem?_getD]
        rcases h1 : ns[i]? with _ | a
        · rw [h1] at hn
          simp at hn
        · rcases h2 : ms[i]? with _ | b
          · rw [h1, h2] at hn
            simp at hn
          · rw [h1, h2] at hn
            exact Option.some.inj hn
      rw [e2]
def sp_law_scaled : Sp := fun vs H Q _ => ∃ (p : Addr) (ns : List Int) (m : Int), vs = [.ref p, .int m] ∧ H p = some (TI ns) ∧ ns.length < 1000 ∧ (∀ n ∈ ns, Wd n) ∧ Wd m ∧
  ∀ H' r, Same H H' → H r = none → H' r = some (TI (ns.map (m * ·))) → Q (.ref r) H'
theorem ok_law_scaled (T : Tx K mg) : FnOk P w K mg base CX0 1 T.f_law_scaled T.d_law_scaled p_law_scaled sp_law_scaled := by
  refine T.F_law_scaled.ok sc_law_scaled (fun vs H Q E h => ?_) (fun cdv A outer s H vs Q E hr h => ?_)
  · obtain ⟨p, ns, m, rfl, _⟩ := h
    rfl
  · obtain ⟨p, ns, m, rfl, hp, hl, hn, hm, k⟩ := h
    refine ⟨_, (pss_one (ps_ret (pe_callTy cr_tupL (by rfl) T.z_tuple (by decide +kernel) (pa_cons (pe_lc (own := [("_law_entry", 2)]) (g := gName 2) (tt := tYes) rfl sc_law_scaled.nd (pi_tup (pv 0)) (blkOk_by (N := n_law_scaled) (sc := defScope s_law_scaled) (by decide +kernel)) (fun _ _ _ _ _ => (pg_name (i := 2) sc_law_scaled.nd rfl (by first | exact .inl rfl | exact .inr rfl))) (fun _ _ _ _ _ => pts_nil) (fun _ _ _ _ _ => (pe_op op_mulB (pv 1) (pv 2)))) pa_nil)))), ?_⟩
    rw [st_law_scaled]
    simp only [ap_seq, ap_next, ap_asg, ap_gName, ap_ret, ap_retN, ap_drop, ap_ifS, ap_break, ap_cont, ap_par, ap_aug, ap_ip, ap_gSub, ap_gTup, ap_gNil, ap_gCons, ap_var, ap_c, ap_op, ap_un, ap_if, ap_test, ap_B, ap_and, ap_or, ap_not, ap_andV, ap_orV, ap_notV, ap_nil, ap_cons, ap_tup, ap_lst, ap_cb, ap_bm, ap_call, ap_chain, ap_rI, ap_rI0, ap_rU, ap_rEq, ap_rNe, ap_revT, ap_sl, ap_part, ap_noPart, ap_ixLI, ap_ixTI, ap_ixLV, ap_ixTV, ap_len, ap_setLI, ap_setLV, ap_appI, ap_appV, ap_tupL, ap_listS, ap_sumLI, ap_sumTI, ap_repLI, ap_intI, ap_intB, ap_eqTI, ap_neTI, ap_eqLI, ap_neLI, ap_isi, ap_for, ap_rng1, ap_rng2, ap_iList, ap_iTup, ap_lc, ap_yes, ap_cut, ap_gTupH, ap_fmt, ap_jsn, ap_jsc, ap_gcd, ap_isqrt, ap_ixL, tyV_l, wipe_nil, wipe_cons, upd_same, ap_iEnT, ap_iEnL, ap_iZipA, ap_all, ap_tupT, ap_attF, ap_makeL, ap_att, ap_prop, ap_isO, ap_bin, ap_ne, ap_meth, ap_make, ins_inj, FE_inj, ap_slI, ap_catI, ap_perm, ap_lenO, ap_strO, ap_listO, ap_reprB, ap_iterT, ap_neT, ap_negO, ap_binI, ap_catL, ap_tM1, ap_repTI, ap_popN, ap_par3, ap_catTT, ap_repTA, ap_countT, ap_notInT, ap_repL1, ap_cm, ap_shl, ap_shr, ap_mask, ap_comb, ap_bits, ap_rng3, List.set_cons_zero, List.set_cons_succ, List.getElem?_cons_zero, List.getElem?_cons_succ, List.cons_append, List.nil_append, List.append_nil, Option.some.injEq, V.int.injEq, V.ref.injEq, V.bl.injEq, V.str.injEq, V.ty.injEq, Bool.not_true, Bool.not_false, HO.lst.injEq, HO.tup.injEq, reduceCtorEq, Int.reduceToNat, Int.reduceLT, Int.reduceLE, Nat.reduceAdd, Int.cast_ofNat_Int, gi_c0, gi_c1, gi_c2, gi_c3, Int.natCast_inj, map_int_inj, map_nil_iff, List.cons.injEq, exists_eq_left, exists_eq_left', exists_eq, exists_eq', exists_and_left, exists_and_right, exists_const, and_assoc, and_true, true_and, and_false, false_and, or_false, false_or, or_true, true_or, ite_true, ite_false, if_true, if_false, Bool.false_eq_true, own_cons, own_nil, le1, le2, le3, le4, me_cons, me_nil, List.length_map, List.length_cons, List.length_nil, ne_eq, not_false_eq_true, not_true_eq_false, decide_eq_true_eq]
    refine ⟨⟨_, sqT_of hp⟩, lc_tupI (fun i => m * ns.getD i 0) hp (by rw [List.length_map]; omega) (fun x => rfl) (fun i x H' hx sm Q' k' => ?_) (fun A H' hA sm e => ?_)⟩
    · obtain ⟨n, rfl, en⟩ := at_int hx
      have b1 := hn n (List.mem_of_getElem? en)
      unfold Wd at b1 hm
      simp only [ap_seq, ap_next, ap_asg, ap_gName, ap_ret, ap_retN, ap_drop, ap_ifS, ap_break, ap_cont, ap_par, ap_aug, ap_ip, ap_gSub, ap_gTup, ap_gNil, ap_gCons, ap_var, ap_c, ap_op, ap_un, ap_if, ap_test, ap_B, ap_and, ap_or, ap_not, ap_andV, ap_orV, ap_notV, ap_nil, ap_cons, ap_tup, ap_lst, ap_cb, ap_bm, ap_call, ap_chain, ap_rI, ap_rI0, ap_rU, ap_rEq, ap_rNe, ap_revT, ap_sl, ap_part, ap_noPart, ap_ixLI, ap_ixTI, ap_ixLV, ap_ixTV, ap_len, ap_setLI, ap_setLV, ap_appI, ap_appV, ap_tupL, ap_listS, ap_sumLI, ap_sumTI, ap_repLI, ap_intI, ap_intB, ap_eqTI, ap_neTI, ap_eqLI, ap_neLI, ap_isi, ap_for, ap_rng1, ap_rng2, ap_iList, ap_iTup, ap_lc, ap_yes, ap_cut, ap_gTupH, ap_fmt, ap_jsn, ap_jsc, ap_gcd, ap_isqrt, ap_ixL, tyV_l, wipe_nil, wipe_cons, upd_same, ap_iEnT, ap_iEnL, ap_iZipA, ap_all, ap_tupT, ap_attF, ap_makeL, ap_att, ap_prop, ap_isO, ap_bin, ap_ne, ap_meth, ap_make, ins_inj, FE_inj, ap_slI, ap_catI, ap_perm, ap_lenO, ap_strO, ap_listO, ap_reprB, ap_iterT, ap_neT, ap_negO, ap_binI, ap_catL, ap_tM1, ap_repTI, ap_popN, ap_par3, ap_catTT, ap_repTA, ap_countT, ap_notInT, ap_repL1, ap_cm, ap_shl, ap_shr, ap_mask, ap_comb, ap_bits, ap_rng3, List.set_cons_zero, List.set_cons_succ, List.getElem?_cons_zero, List.getElem?_cons_succ, List.cons_append, List.nil_append, List.append_nil, Option.some.injEq, V.int.injEq, V.ref.injEq, V.bl.injEq, V.str.injEq, V.ty.injEq, Bool.not_true, Bool.not_false, HO.lst.injEq, HO.tup.injEq, reduceCtorEq, Int.reduceToNat, Int.reduceLT, Int.reduceLE, Nat.reduceAdd, Int.cast_ofNat_Int, gi_c0, gi_c1, gi_c2, gi_c3, Int.natCast_inj, map_int_inj, map_nil_iff, List.cons.injEq, exists_eq_left, exists_eq_left', exists_eq, exists_eq', exists_and_left, exists_and_right, exists_const, and_assoc, and_true, true_and, and_false, false_and, or_false, false_or, or_true, true_or, ite_true, ite_false, if_true, if_false, Bool.false_eq_true, own_cons, own_nil, le1, le2, le3, le4, me_cons, me_nil, List.length_map, List.length_cons, List.length_nil, ne_eq, not_false_eq_true, not_true_eq_false, decide_eq_true_eq, CMu]
      rw [List.getD_eq_getElem?_getD, en] at k'
      exact ⟨hm.1, hm.2, b1.1, b1.2, k' _ (Same.refl _)⟩
    · refine ⟨A, rfl, _, e, fun l nl => k _ l (sm.trans (same_upd nl)) (free_of sm nl) ?_⟩
      rw [upd_same, List.length_map]
      have el : (ns.map (m * ·)).length = ns.length := List.length_map ..
      have e2 : (List.range ns.length).map (fun i => m * ns.getD i 0) = ns.map (m * ·) := by
        rw [← el]
        refine range_map fun i n hn => ?_
        rw [List.getElem?_map] at hn
        rw [List.getD_eq_getElem?_getD]
        rcases h1 : ns[i]? with _ | a
        · rw [h1] at hn
          simp at hn
        · rw [h1] at hn
          exact Option.some.inj hn
      rw [e2]
/-! ### powers and products of many -/
def powP (ns : List Int) : Nat → List Int
  | 0 => [1]
  | k + 1 => mulP (powP ns k) ns
def sp_law_power : Sp := fun vs H Q _ => ∃ (p : Addr) (ns : List Int) (m : Nat), vs = [.ref p, .int (m : Nat)] ∧ H p = some (TI ns) ∧ 0 < ns.length ∧ ns.length < 1000 ∧ m < 1000 ∧ (∀ k, k < m → (powP ns k).length < 1000 ∧ ∀ n ∈ powP ns k, Wd n) ∧ (∀ n ∈ ns, Wd n) ∧
  ∀ H' r, Same H H' → H r = none → H' r = some (TI (powP ns m)) → Q (.ref r) H'
theorem powP_len {ns : List Int} (h : 0 < ns.length) : ∀ k, 0 < (powP ns k).length
  | 0 => by show 0 < 1; omega
  | k + 1 => by
    have := powP_len h k
    show 0 < (mulP (powP ns k) ns).length
    rw [mulP_len]
    omega
theorem ok_law_power (T : Tx K mg) : FnOk P w K mg base CX0 2 T.f_law_power T.d_law_power p_law_power sp_law_power := by
  refine T.F_law_power.ok sc_law_power (fun vs H Q E h => ?_) (fun cdv A outer s H vs Q E hr h => ?_)
  · obtain ⟨p, ns, m, rfl, _⟩ := h
    rfl
  · obtain ⟨p, ns, m, rfl, hp, h1, h2, h3, h4, h5, k⟩ := h
    refine ⟨_, (pss_cons (ps_set (i := 2) sc_law_power.nd rfl (Or.inl rfl) (pe_tup (pa_cons pe_int pa_nil)))
      (pss_cons (ps_for PassesOwn.never rfl (pi_range1 (by rfl) T.z_range (pa_cons (pv 1) pa_nil)) (pg_name (i := 3) sc_law_power.nd rfl (by first | exact .inl rfl | exact .inr rfl))
      (pss_one (ps_set (i := 2) sc_law_power.nd rfl (Or.inl rfl) (pe_call (ok_law_product T) (hr.mono (by decide)) (by rfl) T.m_law_product T.F_law_product.kp T.b_law_product .nil pass0 (pa_cons (pv 2) (pa_cons (pv 0) pa_nil))))))
      (pss_one (ps_ret (pv 2))))), ?_⟩
    rw [st_law_power]
    simp only [ap_seq, ap_next, ap_asg, ap_gName, ap_ret, ap_retN, ap_drop, ap_ifS, ap_break, ap_cont, ap_par, ap_aug, ap_ip, ap_gSub, ap_gTup, ap_gNil, ap_gCons, ap_var, ap_c, ap_op, ap_un, ap_if, ap_test, ap_B, ap_and, ap_or, ap_not, ap_andV, ap_orV, ap_notV, ap_nil, ap_cons, ap_tup, ap_lst, ap_cb, ap_bm, ap_call, ap_chain, ap_rI, ap_rI0, ap_rU, ap_rEq, ap_rNe, ap_revT, ap_sl, ap_part, ap_noPart, ap_ixLI, ap_ixTI, ap_ixLV, ap_ixTV, ap_len, ap_setLI, ap_setLV, ap_appI, ap_appV, ap_tupL, ap_listS, ap_sumLI, ap_sumTI, ap_repLI, ap_intI, ap_intB, ap_eqTI, ap_neTI, ap_eqLI, ap_neLI, ap_isi, ap_for, ap_rng1, ap_rng2, ap_iList, ap_iTup, ap_lc, ap_yes, ap_cut, ap_gTupH, ap_fmt, ap_jsn, ap_jsc, ap_gcd, ap_isqrt, ap_ixL, tyV_l, wipe_nil, wipe_cons, upd_same, ap_iEnT, ap_iEnL, ap_iZipA, ap_all, ap_tupT, ap_attF, ap_makeL, ap_att, ap_prop, ap_isO, ap_bin, ap_ne, ap_meth, ap_make, ins_inj, FE_inj, ap_slI, ap_catI, ap_perm, ap_lenO, ap_strO, ap_listO, ap_reprB, ap_iterT, ap_neT, ap_negO, ap_binI, ap_catL, ap_tM1, ap_repTI, ap_popN, ap_par3, ap_catTT, ap_repTA, ap_countT, ap_notInT, ap_repL1, ap_cm, ap_shl, ap_shr, ap_mask, ap_comb, ap_bits, ap_rng3, List.set_cons_zero, List.set_cons_succ, List.getElem?_cons_zero, List.getElem?_cons_succ, List.cons_append, List.nil_append, List.append_nil, Option.some.injEq, V.int.injEq, V.ref.injEq, V.bl.injEq, V.str.injEq, V.ty.injEq, Bool.not_true, Bool.not_false, HO.lst.injEq, HO.tup.injEq, reduceCtorEq, Int.reduceToNat, Int.reduceLT, Int.reduceLE, Nat.reduceAdd, Int.cast_ofNat_Int, gi_c0, gi_c1, gi_c2, gi_c3, Int.natCast_inj, map_int_inj, map_nil_iff, List.cons.injEq, exists_eq_left, exists_eq_left', exists_eq, exists_eq', exists_and_left, exists_and_right, exists_const, and_assoc, and_true, true_and, and_false, false_and, or_false, false_or, or_true, true_or, ite_true, ite_false, if_true, if_false, Bool.false_eq_true, own_cons, own_nil, le1, le2, le3, le4, me_cons, me_nil, List.length_map, List.length_cons, List.length_nil, ne_eq, not_false_eq_true, not_true_eq_false, decide_eq_true_eq]
    refine ⟨by decide, fun l nl => ⟨by omega, by omega, ?_⟩⟩
    rw [Int.toNat_natCast]
    refine loop_range (fun i σ' H' => (∃ r y, σ' = [some (V.ref p), some (V.int (m : Nat)), some (V.ref r), y] ∧ H r = none ∧ H' r = some (TI (powP ns i))) ∧ Same H H') ⟨⟨l, _, rfl, nl, upd_same⟩, same_upd nl⟩ (fun i σ' H1 hi hP => ?_) (fun σ' H1 hP => ?_)
    · obtain ⟨⟨r, y, e, nr, er⟩, sm⟩ := hP
      subst e
      simp only [ap_seq, ap_next, ap_asg, ap_gName, ap_ret, ap_retN, ap_drop, ap_ifS, ap_break, ap_cont, ap_par, ap_aug, ap_ip, ap_gSub, ap_gTup, ap_gNil, ap_gCons, ap_var, ap_c, ap_op, ap_un, ap_if, ap_test, ap_B, ap_and, ap_or, ap_not, ap_andV, ap_orV, ap_notV, ap_nil, ap_cons, ap_tup, ap_lst, ap_cb, ap_bm, ap_call, ap_chain, ap_rI, ap_rI0, ap_rU, ap_rEq, ap_rNe, ap_revT, ap_sl, ap_part, ap_noPart, ap_ixLI, ap_ixTI, ap_ixLV, ap_ixTV, ap_len, ap_setLI, ap_setLV, ap_appI, ap_appV, ap_tupL, ap_listS, ap_sumLI, ap_sumTI, ap_repLI, ap_intI, ap_intB, ap_eqTI, ap_neTI, ap_eqLI, ap_neLI, ap_isi, ap_for, ap_rng1, ap_rng2, ap_iList, ap_iTup, ap_lc, ap_yes, ap_cut, ap_gTupH, ap_fmt, ap_jsn, ap_jsc, ap_gcd, ap_isqrt, ap_ixL, tyV_l, wipe_nil, wipe_cons, upd_same, ap_iEnT, ap_iEnL, ap_iZipA, ap_all, ap_tupT, ap_attF, ap_makeL, ap_att, ap_prop, ap_isO, ap_bin, ap_ne, ap_meth, ap_make, ins_inj, FE_inj, ap_slI, ap_catI, ap_perm, ap_lenO, ap_strO, ap_listO, ap_reprB, ap_iterT, ap_neT, ap_negO, ap_binI, ap_catL, ap_tM1, ap_repTI, ap_popN, ap_par3, ap_catTT, ap_repTA, ap_countT, ap_notInT, ap_repL1, ap_cm, ap_shl, ap_shr, ap_mask, ap_comb, ap_bits, ap_rng3, List.set_cons_zero, List.set_cons_succ, List.getElem?_cons_zero, List.getElem?_cons_succ, List.cons_append, List.nil_append, List.append_nil, Option.some.injEq, V.int.injEq, V.ref.injEq, V.bl.injEq, V.str.injEq, V.ty.injEq, Bool.not_true, Bool.not_false, HO.lst.injEq, HO.tup.injEq, reduceCtorEq, Int.reduceToNat, Int.reduceLT, Int.reduceLE, Nat.reduceAdd, Int.cast_ofNat_Int, gi_c0, gi_c1, gi_c2, gi_c3, Int.natCast_inj, map_int_inj, map_nil_iff, List.cons.injEq, exists_eq_left, exists_eq_left', exists_eq, exists_eq', exists_and_left, exists_and_right, exists_const, and_assoc, and_true, true_and, and_false, false_and, or_false, false_or, or_true, true_or, ite_true, ite_false, if_true, if_false, Bool.false_eq_true, own_cons, own_nil, le1, le2, le3, le4, me_cons, me_nil, List.length_map, List.length_cons, List.length_nil, ne_eq, not_false_eq_true, not_true_eq_false, decide_eq_true_eq]
      refine ⟨r, p, powP ns i, ns, rfl, er, sm _ _ hp, powP_len h1 i, h1, (h4 i hi).1, h2, (h4 i hi).2, h5, fun H2 r2 s2 nr2 e2 => ?_⟩
      simp only [ap_seq, ap_next, ap_asg, ap_gName, ap_ret, ap_retN, ap_drop, ap_ifS, ap_break, ap_cont, ap_par, ap_aug, ap_ip, ap_gSub, ap_gTup, ap_gNil, ap_gCons, ap_var, ap_c, ap_op, ap_un, ap_if, ap_test, ap_B, ap_and, ap_or, ap_not, ap_andV, ap_orV, ap_notV, ap_nil, ap_cons, ap_tup, ap_lst, ap_cb, ap_bm, ap_call, ap_chain, ap_rI, ap_rI0, ap_rU, ap_rEq, ap_rNe, ap_revT, ap_sl, ap_part, ap_noPart, ap_ixLI, ap_ixTI, ap_ixLV, ap_ixTV, ap_len, ap_setLI, ap_setLV, ap_appI, ap_appV, ap_tupL, ap_listS, ap_sumLI, ap_sumTI, ap_repLI, ap_intI, ap_intB, ap_eqTI, ap_neTI, ap_eqLI, ap_neLI, ap_isi, ap_for, ap_rng1, ap_rng2, ap_iList, ap_iTup, ap_lc, ap_yes, ap_cut, ap_gTupH, ap_fmt, ap_jsn, ap_jsc, ap_gcd, ap_isqrt, ap_ixL, tyV_l, wipe_nil, wipe_cons, upd_same, ap_iEnT, ap_iEnL, ap_iZipA, ap_all, ap_tupT, ap_attF, ap_makeL, ap_att, ap_prop, ap_isO, ap_bin, ap_ne, ap_meth, ap_make, ins_inj, FE_inj, ap_slI, ap_catI, ap_perm, ap_lenO, ap_strO, ap_listO, ap_reprB, ap_iterT, ap_neT, ap_negO, ap_binI, ap_catL, ap_tM1, ap_repTI, ap_popN, ap_par3, ap_catTT, ap_repTA, ap_countT, ap_notInT, ap_repL1, ap_cm, ap_shl, ap_shr, ap_mask, ap_comb, ap_bits, ap_rng3, List.set_cons_zero, List.set_cons_succ, List.getElem?_cons_zero, List.getElem?_cons_succ, List.cons_append, List.nil_append, List.append_nil, Option.some.injEq, V.int.injEq, V.ref.injEq, V.bl.injEq, V.str.injEq, V.ty.injEq, Bool.not_true, Bool.not_false, HO.lst.injEq, HO.tup.injEq, reduceCtorEq, Int.reduceToNat, Int.reduceLT, Int.reduceLE, Nat.reduceAdd, Int.cast_ofNat_Int, gi_c0, gi_c1, gi_c2, gi_c3, Int.natCast_inj, map_int_inj, map_nil_iff, List.cons.injEq, exists_eq_left, exists_eq_left', exists_eq, exists_eq', exists_and_left, exists_and_right, exists_const, and_assoc, and_true, true_and, and_false, false_and, or_false, false_or, or_true, true_or, ite_true, ite_false, if_true, if_false, Bool.false_eq_true, own_cons, own_nil, le1, le2, le3, le4, me_cons, me_nil, List.length_map, List.length_cons, List.length_nil, ne_eq, not_false_eq_true, not_true_eq_false, decide_eq_true_eq]
      exact ⟨free_of sm nr2, e2, sm.trans s2⟩
    · obtain ⟨⟨r, y, e, nr, er⟩, sm⟩ := hP
      subst e
      simp only [ap_seq, ap_next, ap_asg, ap_gName, ap_ret, ap_retN, ap_drop, ap_ifS, ap_break, ap_cont, ap_par, ap_aug, ap_ip, ap_gSub, ap_gTup, ap_gNil, ap_gCons, ap_var, ap_c, ap_op, ap_un, ap_if, ap_test, ap_B, ap_and, ap_or, ap_not, ap_andV, ap_orV, ap_notV, ap_nil, ap_cons, ap_tup, ap_lst, ap_cb, ap_bm, ap_call, ap_chain, ap_rI, ap_rI0, ap_rU, ap_rEq, ap_rNe, ap_revT, ap_sl, ap_part, ap_noPart, ap_ixLI, ap_ixTI, ap_ixLV, ap_ixTV, ap_len, ap_setLI, ap_setLV, ap_appI, ap_appV, ap_tupL, ap_listS, ap_sumLI, ap_sumTI, ap_repLI, ap_intI, ap_intB, ap_eqTI, ap_neTI, ap_eqLI, ap_neLI, ap_isi, ap_for, ap_rng1, ap_rng2, ap_iList, ap_iTup, ap_lc, ap_yes, ap_cut, ap_gTupH, ap_fmt, ap_jsn, ap_jsc, ap_gcd, ap_isqrt, ap_ixL, tyV_l, wipe_nil, wipe_cons, upd_same, ap_iEnT, ap_iEnL, ap_iZipA, ap_all, ap_tupT, ap_attF, ap_makeL, ap_att, ap_prop, ap_isO, ap_bin, ap_ne, ap_meth, ap_make, ins_inj, FE_inj, ap_slI, ap_catI, ap_perm, ap_lenO, ap_strO, ap_listO, ap_reprB, ap_iterT, ap_neT, ap_negO, ap_binI, ap_catL, ap_tM1, ap_repTI, ap_popN, ap_par3, ap_catTT, ap_repTA, ap_countT, ap_notInT, ap_repL1, ap_cm, ap_shl, ap_shr, ap_mask, ap_comb, ap_bits, ap_rng3, List.set_cons_zero, List.set_cons_succ, List.getElem?_cons_zero, List.getElem?_cons_succ, List.cons_append, List.nil_append, List.append_nil, Option.some.injEq, V.int.injEq, V.ref.injEq, V.bl.injEq, V.str.injEq, V.ty.injEq, Bool.not_true, Bool.not_false, HO.lst.injEq, HO.tup.injEq, reduceCtorEq, Int.reduceToNat, Int.reduceLT, Int.reduceLE, Nat.reduceAdd, Int.cast_ofNat_Int, gi_c0, gi_c1, gi_c2, gi_c3, Int.natCast_inj, map_int_inj, map_nil_iff, List.cons.injEq, exists_eq_left, exists_eq_left', exists_eq, exists_eq', exists_and_left, exists_and_right, exists_const, and_assoc, and_true, true_and, and_false, false_and, or_false, false_or, or_true, true_or, ite_true, ite_false, if_true, if_false, Bool.false_eq_true, own_cons, own_nil, le1, le2, le3, le4, me_cons, me_nil, List.length_map, List.length_cons, List.length_nil, ne_eq, not_false_eq_true, not_true_eq_false, decide_eq_true_eq]
      exact k _ r sm nr er
end
end My
namespace My
open PySem PySem.Spec PyProof.Rows L2 Pr
section
variable {g : TG} {D : Ends} {σ : L2.St} {H : Hp} {j : Nat} {te : TE} {vs : List Nat} {Q : VK} {tt : TT}
/-- a comprehension whose turns throw dice -/
theorem lc_rangeR {lo : Int} {n : Nat} {d : Addr} (R : Int → Prop) (hn : n < 1000000) (hD : Dc H d) (hw : ∀ x, wipe ((wipe σ vs).set j (some x)) vs = wipe σ vs)
    (he : ∀ (i : Nat) H', i < n → Exc d H H' → Dc H' d → ∀ Q' : VK, (∀ H'' x, Exc d H' H'' → Dc H'' d → R x → Q' (.int x) H'') → te ((wipe σ vs).set j (some (.int (lo + i)))) H' Q')
    (hq : ∀ p H' ns, H p = none → Exc d H H' → Dc H' d → ns.length = n → (∀ x ∈ ns, R x) → H' p = some (LI ns) → Q (.ref p) H') :
    tLcIn (gName j) tYes te vs σ Q (Itr lo n) H := fun A hA => by
  have nd : A ≠ d := by
    obtain ⟨_, _, _, e⟩ := hD
    exact (ne_of_none e hA).symm
  refine lc_range (g := gName j) (lo := lo) (n := n) (fun i H' => Exc d H H' ∧ Dc H' d ∧ ∃ ns, ns.length = i ∧ (∀ x ∈ ns, R x) ∧ H' A = some (LI ns)) ⟨.same (same_upd hA), hD.same (same_upd hA), [], rfl, by simp, upd_same⟩ (fun i H' hi hP => ?_) (fun H' hP => ?_)
  · obtain ⟨ex, dc, ns, l, r, e⟩ := hP
    refine ⟨hw _, he i H' hi ex dc _ fun H2 x ex2 dc2 rx => ⟨_, ex2 _ _ nd e, sz (by simp; omega), ?_, ?_, ns ++ [x], by simp [l], ?_, ?_⟩⟩
    · intro b o hb eb
      rw [upd_ne (ne_of_none eb hA)]
      exact ex2 _ _ hb (ex _ _ hb eb)
    · obtain ⟨a1, a2, a3, ed⟩ := dc2
      exact ⟨a1, a2, a3, by rw [upd_ne nd.symm]; exact ed⟩
    · intro y hy
      rcases List.mem_append.mp hy with h | h
      · exact r y h
      · rw [show y = x by simpa using h]
        exact rx
    · rw [upd_same]
      exact congrArg (fun z => some (HO.lst z)) (List.map_append (f := V.int) (l₁ := ns) (l₂ := [x])).symm
  · obtain ⟨ex, dc, ns, l, r, e⟩ := hP
    exact hq A H' ns hA ex dc l r e
end
section
variable {P : Program} {w : World} {K : PySem.W.Frag} {mg : Str → Option Value} {base : Heap}
theorem free_ex {d : Addr} {H H' : Hp} {t : Addr} (ex : Exc d H H') (dc : Dc H' d) (nt : H' t = none) : H t = none := by
  obtain ⟨_, _, _, ed⟩ := dc
  have td : t ≠ d := (ne_of_none ed nt).symm
  rcases e : H t with _ | o
  · rfl
  · rw [ex _ _ td e] at nt
    cases nt
/-! ### the plain form -/
theorem gcdF (ns : List Int) : ∀ a : Int, 0 ≤ a → 0 ≤ ns.foldl (fun a b => ((Int.gcd a b : Nat) : Int)) a ∧ ns.foldl (fun a b => ((Int.gcd a b : Nat) : Int)) a ∣ a ∧ ∀ n ∈ ns, ns.foldl (fun a b => ((Int.gcd a b : Nat) : Int)) a ∣ n := by
  induction ns with
  | nil => exact fun a h => ⟨h, Int.dvd_refl a, fun n hn => by simp at hn⟩
  | cons m ns ih =>
    intro a h
    obtain ⟨h1, h2, h3⟩ := ih (Int.gcd a m : Nat) (Int.natCast_nonneg _)
    refine ⟨h1, Int.dvd_trans h2 (Int.gcd_dvd_left _ _), fun n hn => ?_⟩
    rcases List.mem_cons.mp hn with rfl | hn
    · exact Int.dvd_trans h2 (Int.gcd_dvd_right _ _)
    · exact h3 n hn
theorem gcdL_nn (ns : List Int) : 0 ≤ gcdL ns := (gcdF ns 0 (Int.le_refl _)).1
theorem gcdL_dvd {ns : List Int} {n : Int} (h : n ∈ ns) : gcdL ns ∣ n := (gcdF ns 0 (Int.le_refl _)).2.2 n h
theorem gcdL_zero {ns : List Int} (h : ∀ n ∈ ns, n = 0) : gcdL ns = 0 := by
  have k : ∀ ns : List Int, (∀ n ∈ ns, n = 0) → ns.foldl (fun a b => ((Int.gcd a b : Nat) : Int)) 0 = 0 := by
    intro ns
    induction ns with
    | nil => exact fun _ => rfl
    | cons m ns ih =>
      intro h
      rw [List.foldl_cons, h m (List.mem_cons_self ..)]
      exact ih fun n hn => h n (List.mem_cons_of_mem _ hn)
  exact k ns h
theorem gcdL_some {ns : List Int} (h : gcdL ns ≠ 0) : ∃ n ∈ ns, n ≠ 0 := by
  refine Classical.byContradiction fun c => h (gcdL_zero fun n hn => ?_)
  exact Classical.byContradiction fun d => c ⟨n, hn, d⟩
theorem gcdL_wd {ns : List Int} (h : gcdL ns ≠ 0) (b : ∀ n ∈ ns, Wd n) : 0 < gcdL ns ∧ gcdL ns < (2 ^ 250) ^ 16 := by
  obtain ⟨n, hn, n0⟩ := gcdL_some h
  have h1 := gcdL_nn ns
  have h2 := gcdL_dvd hn
  have h3 : gcdL ns ≤ (n.natAbs : Int) := Int.le_of_dvd (by omega) (Int.dvd_natAbs.mpr h2)
  have h4 := b n hn
  unfold Wd at h4
  omega
def nz (n : Int) : Bool := decide (n ≠ 0)
def plainP (ns : List Int) : List Int := if gcdL ns = 0 then ns else ns.map fun n => n.fdiv (if 0 < gi (ns.filter nz) 0 then gcdL ns else 0 - gcdL ns)
def sp_law_small_form : Sp := fun vs H Q _ => ∃ (d : Addr) (n : Nat) (m : Int), vs = [.ref d, .int (n : Nat), .int m] ∧ Dc H d ∧ n < 1000 ∧ 0 ≤ m ∧ m < 10 ^ 50 ∧
  ∀ H' r ns, Exc d H H' → Dc H' d → H r = none → ns.length = n + 1 → Bd m ns → H' r = some (TI ns) → Q (.ref r) H'
theorem ok_law_small_form (T : Tx K mg) : FnOk P w K mg base CX0 3 T.f_law_small_form T.d_law_small_form p_law_small_form sp_law_small_form := by
  refine T.F_law_small_form.ok sc_law_small_form (fun vs H Q E h => ?_) (fun cdv A outer s H vs Q E hr h => ?_)
  · obtain ⟨d, n, m, rfl, _⟩ := h
    rfl
  · obtain ⟨d, n, m, rfl, hD, hn, h0, h1, k⟩ := h
    refine ⟨_, (pss_one (ps_ret (pe_callTy cr_tupL (by rfl) T.z_tuple (by decide +kernel) (pa_cons (pe_lc (own := [("_law_place", 3)]) (g := gName 3) (tt := tYes) rfl sc_law_small_form.nd (pi_range1 (by rfl) T.z_range (pa_cons (pe_op op_add (pv 1) pe_int) pa_nil)) (blkOk_by (N := n_law_small_form) (sc := defScope s_law_small_form) (by decide +kernel)) (fun _ _ _ _ _ => (pg_name (i := 3) sc_law_small_form.nd rfl (by first | exact .inl rfl | exact .inr rfl))) (fun _ _ _ _ _ => pts_nil) (fun _ _ _ _ _ => (pe_call (ok_law_near T) (hr.mono (by decide)) (by rfl) T.m_law_near T.F_law_near.kp T.b_law_near .nil pass0 (pa_cons (pv 0) (pa_cons (pv 2) pa_nil))))) pa_nil)))), ?_⟩
    rw [st_law_small_form]
    simp only [ap_seq, ap_next, ap_asg, ap_gName, ap_ret, ap_retN, ap_drop, ap_ifS, ap_break, ap_cont, ap_par, ap_aug, ap_ip, ap_gSub, ap_gTup, ap_gNil, ap_gCons, ap_var, ap_c, ap_op, ap_un, ap_if, ap_test, ap_B, ap_and, ap_or, ap_not, ap_andV, ap_orV, ap_notV, ap_nil, ap_cons, ap_tup, ap_lst, ap_cb, ap_bm, ap_call, ap_chain, ap_rI, ap_rI0, ap_rU, ap_rEq, ap_rNe, ap_revT, ap_sl, ap_part, ap_noPart, ap_ixLI, ap_ixTI, ap_ixLV, ap_ixTV, ap_len, ap_setLI, ap_setLV, ap_appI, ap_appV, ap_tupL, ap_listS, ap_sumLI, ap_sumTI, ap_repLI, ap_intI, ap_intB, ap_eqTI, ap_neTI, ap_eqLI, ap_neLI, ap_isi, ap_for, ap_rng1, ap_rng2, ap_iList, ap_iTup, ap_lc, ap_yes, ap_cut, ap_gTupH, ap_fmt, ap_jsn, ap_jsc, ap_gcd, ap_isqrt, ap_ixL, tyV_l, wipe_nil, wipe_cons, upd_same, ap_iEnT, ap_iEnL, ap_iZipA, ap_all, ap_tupT, ap_attF, ap_makeL, ap_att, ap_prop, ap_isO, ap_bin, ap_ne, ap_meth, ap_make, ins_inj, FE_inj, ap_slI, ap_catI, ap_perm, ap_lenO, ap_strO, ap_listO, ap_reprB, ap_iterT, ap_neT, ap_negO, ap_binI, ap_catL, ap_tM1, ap_repTI, ap_popN, ap_par3, ap_catTT, ap_repTA, ap_countT, ap_notInT, ap_repL1, ap_cm, ap_shl, ap_shr, ap_mask, ap_comb, ap_bits, ap_rng3, List.set_cons_zero, List.set_cons_succ, List.getElem?_cons_zero, List.getElem?_cons_succ, List.cons_append, List.nil_append, List.append_nil, Option.some.injEq, V.int.injEq, V.ref.injEq, V.bl.injEq, V.str.injEq, V.ty.injEq, Bool.not_true, Bool.not_false, HO.lst.injEq, HO.tup.injEq, reduceCtorEq, Int.reduceToNat, Int.reduceLT, Int.reduceLE, Nat.reduceAdd, Int.cast_ofNat_Int, gi_c0, gi_c1, gi_c2, gi_c3, Int.natCast_inj, map_int_inj, map_nil_iff, List.cons.injEq, exists_eq_left, exists_eq_left', exists_eq, exists_eq', exists_and_left, exists_and_right, exists_const, and_assoc, and_true, true_and, and_false, false_and, or_false, false_or, or_true, true_or, ite_true, ite_false, if_true, if_false, Bool.false_eq_true, own_cons, own_nil, le1, le2, le3, le4, me_cons, me_nil, List.length_map, List.length_cons, List.length_nil, ne_eq, not_false_eq_true, not_true_eq_false, decide_eq_true_eq]
    have en : ((n : Int) + 1).toNat = n + 1 := by omega
    rw [en]
    refine ⟨by omega, by omega, lc_rangeR (fun x => -m ≤ x ∧ x ≤ m) (by omega) hD (fun x => rfl) (fun i H1 hi ex dc Q' k' => ?_) (fun A H1 ns nA ex dc l r e => ?_)⟩
    · simp only [ap_seq, ap_next, ap_asg, ap_gName, ap_ret, ap_retN, ap_drop, ap_ifS, ap_break, ap_cont, ap_par, ap_aug, ap_ip, ap_gSub, ap_gTup, ap_gNil, ap_gCons, ap_var, ap_c, ap_op, ap_un, ap_if, ap_test, ap_B, ap_and, ap_or, ap_not, ap_andV, ap_orV, ap_notV, ap_nil, ap_cons, ap_tup, ap_lst, ap_cb, ap_bm, ap_call, ap_chain, ap_rI, ap_rI0, ap_rU, ap_rEq, ap_rNe, ap_revT, ap_sl, ap_part, ap_noPart, ap_ixLI, ap_ixTI, ap_ixLV, ap_ixTV, ap_len, ap_setLI, ap_setLV, ap_appI, ap_appV, ap_tupL, ap_listS, ap_sumLI, ap_sumTI, ap_repLI, ap_intI, ap_intB, ap_eqTI, ap_neTI, ap_eqLI, ap_neLI, ap_isi, ap_for, ap_rng1, ap_rng2, ap_iList, ap_iTup, ap_lc, ap_yes, ap_cut, ap_gTupH, ap_fmt, ap_jsn, ap_jsc, ap_gcd, ap_isqrt, ap_ixL, tyV_l, wipe_nil, wipe_cons, upd_same, ap_iEnT, ap_iEnL, ap_iZipA, ap_all, ap_tupT, ap_attF, ap_makeL, ap_att, ap_prop, ap_isO, ap_bin, ap_ne, ap_meth, ap_make, ins_inj, FE_inj, ap_slI, ap_catI, ap_perm, ap_lenO, ap_strO, ap_listO, ap_reprB, ap_iterT, ap_neT, ap_negO, ap_binI, ap_catL, ap_tM1, ap_repTI, ap_popN, ap_par3, ap_catTT, ap_repTA, ap_countT, ap_notInT, ap_repL1, ap_cm, ap_shl, ap_shr, ap_mask, ap_comb, ap_bits, ap_rng3, List.set_cons_zero, List.set_cons_succ, List.getElem?_cons_zero, List.getElem?_cons_succ, List.cons_append, List.nil_append, List.append_nil, Option.some.injEq, V.int.injEq, V.ref.injEq, V.bl.injEq, V.str.injEq, V.ty.injEq, Bool.not_true, Bool.not_false, HO.lst.injEq, HO.tup.injEq, reduceCtorEq, Int.reduceToNat, Int.reduceLT, Int.reduceLE, Nat.reduceAdd, Int.cast_ofNat_Int, gi_c0, gi_c1, gi_c2, gi_c3, Int.natCast_inj, map_int_inj, map_nil_iff, List.cons.injEq, exists_eq_left, exists_eq_left', exists_eq, exists_eq', exists_and_left, exists_and_right, exists_const, and_assoc, and_true, true_and, and_false, false_and, or_false, false_or, or_true, true_or, ite_true, ite_false, if_true, if_false, Bool.false_eq_true, own_cons, own_nil, le1, le2, le3, le4, me_cons, me_nil, List.length_map, List.length_cons, List.length_nil, ne_eq, not_false_eq_true, not_true_eq_false, decide_eq_true_eq]
      exact ⟨d, m, rfl, dc, h0, h1, fun H2 x ex2 dc2 x1 x2 => k' H2 x ex2 dc2 ⟨x1, x2⟩⟩
    · simp only [ap_seq, ap_next, ap_asg, ap_gName, ap_ret, ap_retN, ap_drop, ap_ifS, ap_break, ap_cont, ap_par, ap_aug, ap_ip, ap_gSub, ap_gTup, ap_gNil, ap_gCons, ap_var, ap_c, ap_op, ap_un, ap_if, ap_test, ap_B, ap_and, ap_or, ap_not, ap_andV, ap_orV, ap_notV, ap_nil, ap_cons, ap_tup, ap_lst, ap_cb, ap_bm, ap_call, ap_chain, ap_rI, ap_rI0, ap_rU, ap_rEq, ap_rNe, ap_revT, ap_sl, ap_part, ap_noPart, ap_ixLI, ap_ixTI, ap_ixLV, ap_ixTV, ap_len, ap_setLI, ap_setLV, ap_appI, ap_appV, ap_tupL, ap_listS, ap_sumLI, ap_sumTI, ap_repLI, ap_intI, ap_intB, ap_eqTI, ap_neTI, ap_eqLI, ap_neLI, ap_isi, ap_for, ap_rng1, ap_rng2, ap_iList, ap_iTup, ap_lc, ap_yes, ap_cut, ap_gTupH, ap_fmt, ap_jsn, ap_jsc, ap_gcd, ap_isqrt, ap_ixL, tyV_l, wipe_nil, wipe_cons, upd_same, ap_iEnT, ap_iEnL, ap_iZipA, ap_all, ap_tupT, ap_attF, ap_makeL, ap_att, ap_prop, ap_isO, ap_bin, ap_ne, ap_meth, ap_make, ins_inj, FE_inj, ap_slI, ap_catI, ap_perm, ap_lenO, ap_strO, ap_listO, ap_reprB, ap_iterT, ap_neT, ap_negO, ap_binI, ap_catL, ap_tM1, ap_repTI, ap_popN, ap_par3, ap_catTT, ap_repTA, ap_countT, ap_notInT, ap_repL1, ap_cm, ap_shl, ap_shr, ap_mask, ap_comb, ap_bits, ap_rng3, List.set_cons_zero, List.set_cons_succ, List.getElem?_cons_zero, List.getElem?_cons_succ, List.cons_append, List.nil_append, List.append_nil, Option.some.injEq, V.int.injEq, V.ref.injEq, V.bl.injEq, V.str.injEq, V.ty.injEq, Bool.not_true, Bool.not_false, HO.lst.injEq, HO.tup.injEq, reduceCtorEq, Int.reduceToNat, Int.reduceLT, Int.reduceLE, Nat.reduceAdd, Int.cast_ofNat_Int, gi_c0, gi_c1, gi_c2, gi_c3, Int.natCast_inj, map_int_inj, map_nil_iff, List.cons.injEq, exists_eq_left, exists_eq_left', exists_eq, exists_eq', exists_and_left, exists_and_right, exists_const, and_assoc, and_true, true_and, and_false, false_and, or_false, false_or, or_true, true_or, ite_true, ite_false, if_true, if_false, Bool.false_eq_true, own_cons, own_nil, le1, le2, le3, le4, me_cons, me_nil, List.length_map, List.length_cons, List.length_nil, ne_eq, not_false_eq_true, not_true_eq_false, decide_eq_true_eq, e]
      intro t nt
      refine k _ t ns (ex.trans (.same (same_upd nt))) (dc.same (same_upd nt)) ?_ l r upd_same
      exact free_ex ex dc nt
def sp_law_plain : Sp := fun vs H Q _ => ∃ (p : Addr) (ns : List Int), vs = [.ref p] ∧ H p = some (TI ns) ∧ ns.length < 1000 ∧ (∀ n ∈ ns, Wd n) ∧ ∀ H' r, Same H H' → (r = p ∨ H r = none) → H' r = some (TI (plainP ns)) → Q (.ref r) H'
theorem ok_law_plain (T : Tx K mg) : FnOk P w K mg base CX0 3 T.f_law_plain T.d_law_plain p_law_plain sp_law_plain := by
  refine T.F_law_plain.ok sc_law_plain (fun vs H Q E h => ?_) (fun cdv A outer s H vs Q E hr h => ?_)
  · obtain ⟨p, ns, rfl, _⟩ := h
    rfl
  · obtain ⟨p, ns, rfl, hp, hl, hn, k⟩ := h
    refine ⟨_, (pss_cons (ps_set (i := 1) sc_law_plain.nd rfl (Or.inr rfl) (pe_call (ok_law_shared T) (hr.mono (by decide)) (by rfl) T.m_law_shared T.F_law_shared.kp T.b_law_shared .nil pass0 (pa_cons (pv 0) pa_nil)))
      (pss_cons (ps_if (pt_cmpR op_eq (pv 1) pe_int (nomark _)) (pss_one (ps_ret (pv 0))) pss_nil)
      (pss_cons (ps_set (i := 2) sc_law_plain.nd rfl (Or.inr rfl) (pe_ix ix_LI (pe_lc (own := [("_law_entry", 3)]) (g := gName 3) rfl sc_law_plain.nd (pi_tup (pv 0)) (blkOk_by (N := n_law_plain) (sc := defScope s_law_plain) (by decide +kernel)) (fun _ _ _ _ _ => (pg_name (i := 3) sc_law_plain.nd rfl (by first | exact .inl rfl | exact .inr rfl))) (fun _ _ _ _ _ => (pts_one (pt_cmpR op_ne (pv 3) pe_int (nomark _)))) (fun _ _ _ _ _ => (pv 3))) pe_int (fun _ _ => rfl)))
      (pss_one (ps_ret (pe_callTy cr_tupL (by rfl) T.z_tuple (by decide +kernel) (pa_cons (pe_lc (own := [("_law_entry", 3)]) (g := gName 3) (tt := tYes) rfl sc_law_plain.nd (pi_tup (pv 0)) (blkOk_by (N := n_law_plain) (sc := defScope s_law_plain) (by decide +kernel)) (fun _ _ _ _ _ => (pg_name (i := 3) sc_law_plain.nd rfl (by first | exact .inl rfl | exact .inr rfl))) (fun _ _ _ _ _ => pts_nil) (fun _ _ _ _ _ => (pe_op op_fdivG (pv 3) (pe_ifExp (pt_cmpR op_gt (pv 2) pe_int (nomark _)) (pv 1) (pe_op op_sub pe_int (pv 1)))))) pa_nil))))))), ?_⟩
    rw [st_law_plain]
    simp only [ap_seq, ap_next, ap_asg, ap_gName, ap_ret, ap_retN, ap_drop, ap_ifS, ap_break, ap_cont, ap_par, ap_aug, ap_ip, ap_gSub, ap_gTup, ap_gNil, ap_gCons, ap_var, ap_c, ap_op, ap_un, ap_if, ap_test, ap_B, ap_and, ap_or, ap_not, ap_andV, ap_orV, ap_notV, ap_nil, ap_cons, ap_tup, ap_lst, ap_cb, ap_bm, ap_call, ap_chain, ap_rI, ap_rI0, ap_rU, ap_rEq, ap_rNe, ap_revT, ap_sl, ap_part, ap_noPart, ap_ixLI, ap_ixTI, ap_ixLV, ap_ixTV, ap_len, ap_setLI, ap_setLV, ap_appI, ap_appV, ap_tupL, ap_listS, ap_sumLI, ap_sumTI, ap_repLI, ap_intI, ap_intB, ap_eqTI, ap_neTI, ap_eqLI, ap_neLI, ap_isi, ap_for, ap_rng1, ap_rng2, ap_iList, ap_iTup, ap_lc, ap_yes, ap_cut, ap_gTupH, ap_fmt, ap_jsn, ap_jsc, ap_gcd, ap_isqrt, ap_ixL, tyV_l, wipe_nil, wipe_cons, upd_same, ap_iEnT, ap_iEnL, ap_iZipA, ap_all, ap_tupT, ap_attF, ap_makeL, ap_att, ap_prop, ap_isO, ap_bin, ap_ne, ap_meth, ap_make, ins_inj, FE_inj, ap_slI, ap_catI, ap_perm, ap_lenO, ap_strO, ap_listO, ap_reprB, ap_iterT, ap_neT, ap_negO, ap_binI, ap_catL, ap_tM1, ap_repTI, ap_popN, ap_par3, ap_catTT, ap_repTA, ap_countT, ap_notInT, ap_repL1, ap_cm, ap_shl, ap_shr, ap_mask, ap_comb, ap_bits, ap_rng3, List.set_cons_zero, List.set_cons_succ, List.getElem?_cons_zero, List.getElem?_cons_succ, List.cons_append, List.nil_append, List.append_nil, Option.some.injEq, V.int.injEq, V.ref.injEq, V.bl.injEq, V.str.injEq, V.ty.injEq, Bool.not_true, Bool.not_false, HO.lst.injEq, HO.tup.injEq, reduceCtorEq, Int.reduceToNat, Int.reduceLT, Int.reduceLE, Nat.reduceAdd, Int.cast_ofNat_Int, gi_c0, gi_c1, gi_c2, gi_c3, Int.natCast_inj, map_int_inj, map_nil_iff, List.cons.injEq, exists_eq_left, exists_eq_left', exists_eq, exists_eq', exists_and_left, exists_and_right, exists_const, and_assoc, and_true, true_and, and_false, false_and, or_false, false_or, or_true, true_or, ite_true, ite_false, if_true, if_false, Bool.false_eq_true, own_cons, own_nil, le1, le2, le3, le4, me_cons, me_nil, List.length_map, List.length_cons, List.length_nil, ne_eq, not_false_eq_true, not_true_eq_false, decide_eq_true_eq, sp_law_shared, hp]
    refine ⟨rfl, iteC (fun c => ?_) (fun c => ?_)⟩
    · refine k H p (Same.refl H) (.inl rfl) ?_
      unfold plainP
      rw [if_pos c]
      exact hp
    obtain ⟨g1, g2⟩ := gcdL_wd c hn
    refine ⟨⟨_, sqT_of hp⟩, lc_gen gives_tup (fun A i H' => Same H H' ∧ H' A = some (LI ((ns.take i).filter nz))) (fun A hA => ⟨same_upd hA, upd_same⟩) (fun A i H' _ p => p.1 _ _ hp) (fun A i v H1 H' hA hi p y => ?_) (fun A H1 hA p => ?_)⟩
    · obtain ⟨rfl, hx⟩ := y
      obtain ⟨n, rfl, en⟩ := at_int hx
      obtain ⟨sm, eA⟩ := p
      simp only [ap_seq, ap_next, ap_asg, ap_gName, ap_ret, ap_retN, ap_drop, ap_ifS, ap_break, ap_cont, ap_par, ap_aug, ap_ip, ap_gSub, ap_gTup, ap_gNil, ap_gCons, ap_var, ap_c, ap_op, ap_un, ap_if, ap_test, ap_B, ap_and, ap_or, ap_not, ap_andV, ap_orV, ap_notV, ap_nil, ap_cons, ap_tup, ap_lst, ap_cb, ap_bm, ap_call, ap_chain, ap_rI, ap_rI0, ap_rU, ap_rEq, ap_rNe, ap_revT, ap_sl, ap_part, ap_noPart, ap_ixLI, ap_ixTI, ap_ixLV, ap_ixTV, ap_len, ap_setLI, ap_setLV, ap_appI, ap_appV, ap_tupL, ap_listS, ap_sumLI, ap_sumTI, ap_repLI, ap_intI, ap_intB, ap_eqTI, ap_neTI, ap_eqLI, ap_neLI, ap_isi, ap_for, ap_rng1, ap_rng2, ap_iList, ap_iTup, ap_lc, ap_yes, ap_cut, ap_gTupH, ap_fmt, ap_jsn, ap_jsc, ap_gcd, ap_isqrt, ap_ixL, tyV_l, wipe_nil, wipe_cons, upd_same, ap_iEnT, ap_iEnL, ap_iZipA, ap_all, ap_tupT, ap_attF, ap_makeL, ap_att, ap_prop, ap_isO, ap_bin, ap_ne, ap_meth, ap_make, ins_inj, FE_inj, ap_slI, ap_catI, ap_perm, ap_lenO, ap_strO, ap_listO, ap_reprB, ap_iterT, ap_neT, ap_negO, ap_binI, ap_catL, ap_tM1, ap_repTI, ap_popN, ap_par3, ap_catTT, ap_repTA, ap_countT, ap_notInT, ap_repL1, ap_cm, ap_shl, ap_shr, ap_mask, ap_comb, ap_bits, ap_rng3, List.set_cons_zero, List.set_cons_succ, List.getElem?_cons_zero, List.getElem?_cons_succ, List.cons_append, List.nil_append, List.append_nil, Option.some.injEq, V.int.injEq, V.ref.injEq, V.bl.injEq, V.str.injEq, V.ty.injEq, Bool.not_true, Bool.not_false, HO.lst.injEq, HO.tup.injEq, reduceCtorEq, Int.reduceToNat, Int.reduceLT, Int.reduceLE, Nat.reduceAdd, Int.cast_ofNat_Int, gi_c0, gi_c1, gi_c2, gi_c3, Int.natCast_inj, map_int_inj, map_nil_iff, List.cons.injEq, exists_eq_left, exists_eq_left', exists_eq, exists_eq', exists_and_left, exists_and_right, exists_const, and_assoc, and_true, true_and, and_false, false_and, or_false, false_or, or_true, true_or, ite_true, ite_false, if_true, if_false, Bool.false_eq_true, own_cons, own_nil, le1, le2, le3, le4, me_cons, me_nil, List.length_map, List.length_cons, List.length_nil, ne_eq, not_false_eq_true, not_true_eq_false, decide_eq_true_eq, eA]
      have e1 : ns.take (i + 1) = ns.take i ++ [n] := by rw [List.take_succ, en]; rfl
      have l1 : (ns.take i).length < 1000 := by rw [List.length_take]; omega
      refine ⟨rfl, iteC (fun c => ?_) (fun c => ?_)⟩
      · refine ⟨sz (Nat.lt_of_le_of_lt (List.length_filter_le _ _) (by omega)), same_mut sm hA, ?_⟩
        have e2 : [n].filter nz = [n] := by simp [nz, show n ≠ 0 by simpa using c]
        rw [e1, List.filter_append, e2, List.map_append]
        rfl
      · refine ⟨sm, ?_⟩
        have e2 : [n].filter nz = [] := by simp [nz, show n = 0 by simpa using c]
        rw [e1, List.filter_append, e2, List.append_nil]
    · obtain ⟨sm, eA⟩ := p
      rw [List.length_map, List.take_length] at eA
      have hl2 : 0 < (ns.filter nz).length := by
        obtain ⟨n, h1, h2⟩ := gcdL_some c
        exact List.length_pos_of_mem (List.mem_filter.mpr ⟨h1, by simpa [nz] using h2⟩)
      have hp1 := sm _ _ hp
      refine ⟨A, rfl, _, eA, by omega, ⟨_, sqT_of hp1⟩, lc_tupI (fun i => (ns.getD i 0).fdiv (if 0 < gi (ns.filter nz) 0 then gcdL ns else 0 - gcdL ns)) hp1 (by rw [List.length_map]; omega) (fun x => rfl) (fun i x H' hx sm2 Q' k' => ?_) (fun B H' hB sm2 e => ?_)⟩
      · obtain ⟨n, rfl, en⟩ := at_int hx
        simp only [ap_seq, ap_next, ap_asg, ap_gName, ap_ret, ap_retN, ap_drop, ap_ifS, ap_break, ap_cont, ap_par, ap_aug, ap_ip, ap_gSub, ap_gTup, ap_gNil, ap_gCons, ap_var, ap_c, ap_op, ap_un, ap_if, ap_test, ap_B, ap_and, ap_or, ap_not, ap_andV, ap_orV, ap_notV, ap_nil, ap_cons, ap_tup, ap_lst, ap_cb, ap_bm, ap_call, ap_chain, ap_rI, ap_rI0, ap_rU, ap_rEq, ap_rNe, ap_revT, ap_sl, ap_part, ap_noPart, ap_ixLI, ap_ixTI, ap_ixLV, ap_ixTV, ap_len, ap_setLI, ap_setLV, ap_appI, ap_appV, ap_tupL, ap_listS, ap_sumLI, ap_sumTI, ap_repLI, ap_intI, ap_intB, ap_eqTI, ap_neTI, ap_eqLI, ap_neLI, ap_isi, ap_for, ap_rng1, ap_rng2, ap_iList, ap_iTup, ap_lc, ap_yes, ap_cut, ap_gTupH, ap_fmt, ap_jsn, ap_jsc, ap_gcd, ap_isqrt, ap_ixL, tyV_l, wipe_nil, wipe_cons, upd_same, ap_iEnT, ap_iEnL, ap_iZipA, ap_all, ap_tupT, ap_attF, ap_makeL, ap_att, ap_prop, ap_isO, ap_bin, ap_ne, ap_meth, ap_make, ins_inj, FE_inj, ap_slI, ap_catI, ap_perm, ap_lenO, ap_strO, ap_listO, ap_reprB, ap_iterT, ap_neT, ap_negO, ap_binI, ap_catL, ap_tM1, ap_repTI, ap_popN, ap_par3, ap_catTT, ap_repTA, ap_countT, ap_notInT, ap_repL1, ap_cm, ap_shl, ap_shr, ap_mask, ap_comb, ap_bits, ap_rng3, List.set_cons_zero, List.set_cons_succ, List.getElem?_cons_zero, List.getElem?_cons_succ, List.cons_append, List.nil_append, List.append_nil, Option.some.injEq, V.int.injEq, V.ref.injEq, V.bl.injEq, V.str.injEq, V.ty.injEq, Bool.not_true, Bool.not_false, HO.lst.injEq, HO.tup.injEq, reduceCtorEq, Int.reduceToNat, Int.reduceLT, Int.reduceLE, Nat.reduceAdd, Int.cast_ofNat_Int, gi_c0, gi_c1, gi_c2, gi_c3, Int.natCast_inj, map_int_inj, map_nil_iff, List.cons.injEq, exists_eq_left, exists_eq_left', exists_eq, exists_eq', exists_and_left, exists_and_right, exists_const, and_assoc, and_true, true_and, and_false, false_and, or_false, false_or, or_true, true_or, ite_true, ite_false, if_true, if_false, Bool.false_eq_true, own_cons, own_nil, le1, le2, le3, le4, me_cons, me_nil, List.length_map, List.length_cons, List.length_nil, ne_eq, not_false_eq_true, not_true_eq_false, decide_eq_true_eq, CFd]
        rw [List.getD_eq_getElem?_getD, en] at k'
        have k2 := k' _ (Same.refl _)
        refine iteC (fun c2 => ?_) (fun c2 => ?_)
        · rw [if_pos (by simpa using c2)] at k2
          exact ⟨by omega, by omega, by omega, k2⟩
        · rw [if_neg (by simpa using c2)] at k2
          exact ⟨by omega, by omega, by omega, k2⟩
      · refine ⟨B, rfl, _, e, fun l nl => k _ l ((sm.trans sm2).trans (same_upd nl)) (.inr (free_of (sm.trans sm2) nl)) ?_⟩
        rw [upd_same, List.length_map]
        unfold plainP
        rw [if_neg c]
        have e2 : (List.range ns.length).map (fun i => (ns.getD i 0).fdiv (if 0 < gi (ns.filter nz) 0 then gcdL ns else 0 - gcdL ns)) = ns.map (fun n => n.fdiv (if 0 < gi (ns.filter nz) 0 then gcdL ns else 0 - gcdL ns)) := by
          refine (List.ext_getElem? fun i => ?_)
          rw [List.getElem?_map, List.getElem?_map]
          by_cases h : i < ns.length
          · rw [List.getElem?_range h, List.getElem?_eq_getElem h]
            simp [h]
          · rw [List.getElem?_eq_none (by simpa using h), List.getElem?_eq_none (by omega)]
            rfl
        rw [e2]
end
end My
namespace My
open PySem PySem.Spec PyProof.Rows L2 Pr
/-! ### points -/
structure Pt (m a b : Int) : Prop where
  gcd : Int.gcd a b = 1
  fst : 0 < a ∨ a = 0 ∧ 0 < b
  a0 : -m ≤ a
  a1 : a ≤ m
  b0 : -m ≤ b
  b1 : b ≤ m
theorem gcdL_two (x y : Int) : gcdL [x, y] = (Int.gcd x y : Nat) := by
  show ((Int.gcd ((Int.gcd 0 x : Nat) : Int) y : Nat) : Int) = _
  rw [Int.gcd_zero_left]
  rfl
theorem fdiv_ex {a g : Int} (h : g ≠ 0) (d : g ∣ a) : a.fdiv g * g = a := by
  obtain ⟨c, rfl⟩ := d
  rw [Int.mul_comm g c, Int.mul_fdiv_cancel _ h]
theorem sign_div {a s v : Int} (e : a * s = v) (h : 0 < v ∧ 0 < s ∨ v < 0 ∧ s < 0) : 0 < a := by
  refine Int.not_le.mp fun c => ?_
  rcases h with ⟨h1, h2⟩ | ⟨h1, h2⟩
  · have := Int.mul_le_mul_of_nonneg_right c (Int.le_of_lt h2)
    omega
  · have := Int.mul_nonneg (a := -a) (b := -s) (by omega) (by omega)
    rw [Int.neg_mul_neg] at this
    omega
theorem plain_two {x y : Int} (h : ¬(x = 0 ∧ y = 0)) : ∃ a b g : Int, plainP [x, y] = [a, b] ∧ g ≠ 0 ∧ x = a * g ∧ y = b * g ∧ Int.gcd a b = 1 ∧ (0 < a ∨ a = 0 ∧ 0 < b) := by
  have g0 : (Int.gcd x y : Int) ≠ 0 := by
    intro c
    have c2 : Int.gcd x y = 0 := by exact_mod_cast c
    exact h (Int.gcd_eq_zero_iff.mp c2)
  have gp : (0 : Int) < (Int.gcd x y : Int) := by omega
  have d1 : (Int.gcd x y : Int) ∣ x := Int.gcd_dvd_left _ _
  have d2 : (Int.gcd x y : Int) ∣ y := Int.gcd_dvd_right _ _
  have key : ∀ s : Int, s = (Int.gcd x y : Int) ∨ s = 0 - (Int.gcd x y : Int) → x.fdiv s * s = x ∧ y.fdiv s * s = y ∧ Int.gcd (x.fdiv s) (y.fdiv s) = 1 := by
    intro s hs
    have s0 : s ≠ 0 := by omega
    have sd1 : s ∣ x := by
      rcases hs with rfl | rfl
      · exact d1
      · rw [Int.zero_sub]
        exact Int.neg_dvd.mpr d1
    have sd2 : s ∣ y := by
      rcases hs with rfl | rfl
      · exact d2
      · rw [Int.zero_sub]
        exact Int.neg_dvd.mpr d2
    have e1 := fdiv_ex s0 sd1
    have e2 := fdiv_ex s0 sd2
    refine ⟨e1, e2, ?_⟩
    have e3 : Int.gcd (x.fdiv s * s) (y.fdiv s * s) = Int.gcd (x.fdiv s) (y.fdiv s) * s.natAbs := Int.gcd_mul_right _ _ _
    rw [e1, e2] at e3
    have e4 : s.natAbs = Int.gcd x y := by omega
    rw [e4] at e3
    have g1 : 0 < Int.gcd x y := by omega
    exact Nat.eq_of_mul_eq_mul_right g1 (by omega)
  have pe : plainP [x, y] = [x, y].map fun n => n.fdiv (if 0 < gi ([x, y].filter nz) 0 then (Int.gcd x y : Int) else 0 - (Int.gcd x y : Int)) := by
    unfold plainP
    rw [gcdL_two, if_neg g0]
  have fst : gi ([x, y].filter nz) 0 = if x = 0 then y else x := by
    by_cases hx : x = 0
    · have hy : y ≠ 0 := fun c => h ⟨hx, c⟩
      rw [if_pos hx]
      have : [x, y].filter nz = [y] := by simp [nz, hx, hy]
      rw [this]
      rfl
    · rw [if_neg hx]
      have : [x, y].filter nz = x :: [y].filter nz := by simp [nz, hx]
      rw [this]
      rfl
  rw [fst] at pe
  obtain ⟨v, hv⟩ : ∃ v, v = if x = 0 then y else x := ⟨_, rfl⟩
  have v0 : v ≠ 0 := by
    rw [hv]
    split
    · exact fun c => h ⟨by assumption, c⟩
    · assumption
  rw [← hv] at pe
  obtain ⟨s, hs, hs2, hs3⟩ : ∃ s, s = (if 0 < v then (Int.gcd x y : Int) else 0 - (Int.gcd x y : Int)) ∧ (s = (Int.gcd x y : Int) ∨ s = 0 - (Int.gcd x y : Int)) ∧ (0 < v ∧ 0 < s ∨ v < 0 ∧ s < 0) := by
    by_cases vp : 0 < v
    · exact ⟨_, rfl, .inl (if_pos vp), .inl ⟨vp, by rw [if_pos vp]; exact gp⟩⟩
    · exact ⟨_, rfl, .inr (if_neg vp), .inr ⟨by omega, by rw [if_neg vp]; omega⟩⟩
  rw [← hs] at pe
  obtain ⟨e1, e2, e3⟩ := key s hs2
  refine ⟨_, _, s, pe, by omega, e1.symm, e2.symm, e3, ?_⟩
  by_cases hx : x = 0
  · rw [if_pos hx] at hv
    right
    exact ⟨by rw [hx]; exact Int.zero_fdiv _, sign_div (e2.trans hv.symm) hs3⟩
  · rw [if_neg hx] at hv
    left
    exact sign_div (e1.trans hv.symm) hs3
theorem div_bd {a x g m : Int} (e : x = a * g) (g0 : g ≠ 0) (h : -m ≤ x ∧ x ≤ m) : -m ≤ a ∧ a ≤ m := by
  have h1 : x.natAbs = a.natAbs * g.natAbs := by rw [e, Int.natAbs_mul]
  have h2 : a.natAbs ≤ x.natAbs := by
    rw [h1]
    exact Nat.le_mul_of_pos_right _ (by omega)
  omega
section
variable {P : Program} {w : World} {K : PySem.W.Frag} {mg : Str → Option Value} {base : Heap}
def sp_law_point : Sp := fun vs H Q _ => ∃ (d : Addr) (m : Int), vs = [.ref d, .int m] ∧ Dc H d ∧ 1 ≤ m ∧ m < 10 ^ 50 ∧
  ∀ H' r a b, Exc d H H' → Dc H' d → H r = none → H' r = some (TI [a, b]) → Pt m a b → Q (.ref r) H'
theorem ok_law_point (T : Tx K mg) : FnOk P w K mg base CX0 4 T.f_law_point T.d_law_point p_law_point sp_law_point := by
  refine T.F_law_point.ok sc_law_point (fun vs H Q E h => ?_) (fun cdv A outer s H vs Q E hr h => ?_)
  · obtain ⟨d, m, rfl, _⟩ := h
    rfl
  · obtain ⟨d, m, rfl, hD, h0, h1, k⟩ := h
    refine ⟨_, (pss_cons (ps_par (i := 2) (j := 3) (by rfl) sc_law_point.nd rfl rfl (by decide) rfl rfl (pa_cons (pe_call (ok_law_near T) (hr.mono (by decide)) (by rfl) T.m_law_near T.F_law_near.kp T.b_law_near .nil pass0 (pa_cons (pv 0) (pa_cons (pv 1) pa_nil))) (pa_cons (pe_call (ok_law_near T) (hr.mono (by decide)) (by rfl) T.m_law_near T.F_law_near.kp T.b_law_near .nil pass0 (pa_cons (pv 0) (pa_cons (pv 1) pa_nil))) pa_nil)) (by rfl))
      (pss_one (ps_ret (pe_ifExp (pt_cmpR (op_neTI hr.units) (pe_tup (pa_cons (pv 2) (pa_cons (pv 3) pa_nil))) (pe_tup (pa_cons pe_int (pa_cons pe_int pa_nil))) (nomark _)) (pe_call (ok_law_plain T) (hr.mono (by decide)) (by rfl) T.m_law_plain T.F_law_plain.kp T.b_law_plain .nil pass0 (pa_cons (pe_tup (pa_cons (pv 2) (pa_cons (pv 3) pa_nil))) pa_nil)) (pe_tup (pa_cons pe_int (pa_cons pe_int pa_nil))))))), ?_⟩
    rw [st_law_point]
    simp only [ap_seq, ap_next, ap_asg, ap_gName, ap_ret, ap_retN, ap_drop, ap_ifS, ap_break, ap_cont, ap_par, ap_aug, ap_ip, ap_gSub, ap_gTup, ap_gNil, ap_gCons, ap_var, ap_c, ap_op, ap_un, ap_if, ap_test, ap_B, ap_and, ap_or, ap_not, ap_andV, ap_orV, ap_notV, ap_nil, ap_cons, ap_tup, ap_lst, ap_cb, ap_bm, ap_call, ap_chain, ap_rI, ap_rI0, ap_rU, ap_rEq, ap_rNe, ap_revT, ap_sl, ap_part, ap_noPart, ap_ixLI, ap_ixTI, ap_ixLV, ap_ixTV, ap_len, ap_setLI, ap_setLV, ap_appI, ap_appV, ap_tupL, ap_listS, ap_sumLI, ap_sumTI, ap_repLI, ap_intI, ap_intB, ap_eqTI, ap_neTI, ap_eqLI, ap_neLI, ap_isi, ap_for, ap_rng1, ap_rng2, ap_iList, ap_iTup, ap_lc, ap_yes, ap_cut, ap_gTupH, ap_fmt, ap_jsn, ap_jsc, ap_gcd, ap_isqrt, ap_ixL, tyV_l, wipe_nil, wipe_cons, upd_same, ap_iEnT, ap_iEnL, ap_iZipA, ap_all, ap_tupT, ap_attF, ap_makeL, ap_att, ap_prop, ap_isO, ap_bin, ap_ne, ap_meth, ap_make, ins_inj, FE_inj, ap_slI, ap_catI, ap_perm, ap_lenO, ap_strO, ap_listO, ap_reprB, ap_iterT, ap_neT, ap_negO, ap_binI, ap_catL, ap_tM1, ap_repTI, ap_popN, ap_par3, ap_catTT, ap_repTA, ap_countT, ap_notInT, ap_repL1, ap_cm, ap_shl, ap_shr, ap_mask, ap_comb, ap_bits, ap_rng3, List.set_cons_zero, List.set_cons_succ, List.getElem?_cons_zero, List.getElem?_cons_succ, List.cons_append, List.nil_append, List.append_nil, Option.some.injEq, V.int.injEq, V.ref.injEq, V.bl.injEq, V.str.injEq, V.ty.injEq, Bool.not_true, Bool.not_false, HO.lst.injEq, HO.tup.injEq, reduceCtorEq, Int.reduceToNat, Int.reduceLT, Int.reduceLE, Nat.reduceAdd, Int.cast_ofNat_Int, gi_c0, gi_c1, gi_c2, gi_c3, Int.natCast_inj, map_int_inj, map_nil_iff, List.cons.injEq, exists_eq_left, exists_eq_left', exists_eq, exists_eq', exists_and_left, exists_and_right, exists_const, and_assoc, and_true, true_and, and_false, false_and, or_false, false_or, or_true, true_or, ite_true, ite_false, if_true, if_false, Bool.false_eq_true, own_cons, own_nil, le1, le2, le3, le4, me_cons, me_nil, List.length_map, List.length_cons, List.length_nil, ne_eq, not_false_eq_true, not_true_eq_false, decide_eq_true_eq]
    refine ⟨d, m, rfl, hD, by omega, h1, fun H1 x ex1 D1 x1 x2 => ?_⟩
    simp only [ap_seq, ap_next, ap_asg, ap_gName, ap_ret, ap_retN, ap_drop, ap_ifS, ap_break, ap_cont, ap_par, ap_aug, ap_ip, ap_gSub, ap_gTup, ap_gNil, ap_gCons, ap_var, ap_c, ap_op, ap_un, ap_if, ap_test, ap_B, ap_and, ap_or, ap_not, ap_andV, ap_orV, ap_notV, ap_nil, ap_cons, ap_tup, ap_lst, ap_cb, ap_bm, ap_call, ap_chain, ap_rI, ap_rI0, ap_rU, ap_rEq, ap_rNe, ap_revT, ap_sl, ap_part, ap_noPart, ap_ixLI, ap_ixTI, ap_ixLV, ap_ixTV, ap_len, ap_setLI, ap_setLV, ap_appI, ap_appV, ap_tupL, ap_listS, ap_sumLI, ap_sumTI, ap_repLI, ap_intI, ap_intB, ap_eqTI, ap_neTI, ap_eqLI, ap_neLI, ap_isi, ap_for, ap_rng1, ap_rng2, ap_iList, ap_iTup, ap_lc, ap_yes, ap_cut, ap_gTupH, ap_fmt, ap_jsn, ap_jsc, ap_gcd, ap_isqrt, ap_ixL, tyV_l, wipe_nil, wipe_cons, upd_same, ap_iEnT, ap_iEnL, ap_iZipA, ap_all, ap_tupT, ap_attF, ap_makeL, ap_att, ap_prop, ap_isO, ap_bin, ap_ne, ap_meth, ap_make, ins_inj, FE_inj, ap_slI, ap_catI, ap_perm, ap_lenO, ap_strO, ap_listO, ap_reprB, ap_iterT, ap_neT, ap_negO, ap_binI, ap_catL, ap_tM1, ap_repTI, ap_popN, ap_par3, ap_catTT, ap_repTA, ap_countT, ap_notInT, ap_repL1, ap_cm, ap_shl, ap_shr, ap_mask, ap_comb, ap_bits, ap_rng3, List.set_cons_zero, List.set_cons_succ, List.getElem?_cons_zero, List.getElem?_cons_succ, List.cons_append, List.nil_append, List.append_nil, Option.some.injEq, V.int.injEq, V.ref.injEq, V.bl.injEq, V.str.injEq, V.ty.injEq, Bool.not_true, Bool.not_false, HO.lst.injEq, HO.tup.injEq, reduceCtorEq, Int.reduceToNat, Int.reduceLT, Int.reduceLE, Nat.reduceAdd, Int.cast_ofNat_Int, gi_c0, gi_c1, gi_c2, gi_c3, Int.natCast_inj, map_int_inj, map_nil_iff, List.cons.injEq, exists_eq_left, exists_eq_left', exists_eq, exists_eq', exists_and_left, exists_and_right, exists_const, and_assoc, and_true, true_and, and_false, false_and, or_false, false_or, or_true, true_or, ite_true, ite_false, if_true, if_false, Bool.false_eq_true, own_cons, own_nil, le1, le2, le3, le4, me_cons, me_nil, List.length_map, List.length_cons, List.length_nil, ne_eq, not_false_eq_true, not_true_eq_false, decide_eq_true_eq]
    refine ⟨d, m, rfl, D1, by omega, h1, fun H2 y ex2 D2 y1 y2 => ?_⟩
    simp only [ap_seq, ap_next, ap_asg, ap_gName, ap_ret, ap_retN, ap_drop, ap_ifS, ap_break, ap_cont, ap_par, ap_aug, ap_ip, ap_gSub, ap_gTup, ap_gNil, ap_gCons, ap_var, ap_c, ap_op, ap_un, ap_if, ap_test, ap_B, ap_and, ap_or, ap_not, ap_andV, ap_orV, ap_notV, ap_nil, ap_cons, ap_tup, ap_lst, ap_cb, ap_bm, ap_call, ap_chain, ap_rI, ap_rI0, ap_rU, ap_rEq, ap_rNe, ap_revT, ap_sl, ap_part, ap_noPart, ap_ixLI, ap_ixTI, ap_ixLV, ap_ixTV, ap_len, ap_setLI, ap_setLV, ap_appI, ap_appV, ap_tupL, ap_listS, ap_sumLI, ap_sumTI, ap_repLI, ap_intI, ap_intB, ap_eqTI, ap_neTI, ap_eqLI, ap_neLI, ap_isi, ap_for, ap_rng1, ap_rng2, ap_iList, ap_iTup, ap_lc, ap_yes, ap_cut, ap_gTupH, ap_fmt, ap_jsn, ap_jsc, ap_gcd, ap_isqrt, ap_ixL, tyV_l, wipe_nil, wipe_cons, upd_same, ap_iEnT, ap_iEnL, ap_iZipA, ap_all, ap_tupT, ap_attF, ap_makeL, ap_att, ap_prop, ap_isO, ap_bin, ap_ne, ap_meth, ap_make, ins_inj, FE_inj, ap_slI, ap_catI, ap_perm, ap_lenO, ap_strO, ap_listO, ap_reprB, ap_iterT, ap_neT, ap_negO, ap_binI, ap_catL, ap_tM1, ap_repTI, ap_popN, ap_par3, ap_catTT, ap_repTA, ap_countT, ap_notInT, ap_repL1, ap_cm, ap_shl, ap_shr, ap_mask, ap_comb, ap_bits, ap_rng3, List.set_cons_zero, List.set_cons_succ, List.getElem?_cons_zero, List.getElem?_cons_succ, List.cons_append, List.nil_append, List.append_nil, Option.some.injEq, V.int.injEq, V.ref.injEq, V.bl.injEq, V.str.injEq, V.ty.injEq, Bool.not_true, Bool.not_false, HO.lst.injEq, HO.tup.injEq, reduceCtorEq, Int.reduceToNat, Int.reduceLT, Int.reduceLE, Nat.reduceAdd, Int.cast_ofNat_Int, gi_c0, gi_c1, gi_c2, gi_c3, Int.natCast_inj, map_int_inj, map_nil_iff, List.cons.injEq, exists_eq_left, exists_eq_left', exists_eq, exists_eq', exists_and_left, exists_and_right, exists_const, and_assoc, and_true, true_and, and_false, false_and, or_false, false_or, or_true, true_or, ite_true, ite_false, if_true, if_false, Bool.false_eq_true, own_cons, own_nil, le1, le2, le3, le4, me_cons, me_nil, List.length_map, List.length_cons, List.length_nil, ne_eq, not_false_eq_true, not_true_eq_false, decide_eq_true_eq]
    have z2 : 2 ≤ sizeLine := by decide
    have X2 := ex1.trans ex2
    refine ⟨z2, fun p np => ⟨z2, fun q nq => ?_⟩⟩
    have s1 := same_upd (o := HO.tup [V.int x, V.int y]) np
    have s2 := same_upd (o := HO.tup [V.int 0, V.int 0]) nq
    refine ⟨[x, y], s2 _ _ upd_same, iteC (fun c => ⟨z2, fun t nt => ?_⟩) (fun c => ⟨z2, fun t nt => ?_⟩)⟩
    · have hxy : ¬(x = 0 ∧ y = 0) := by
        rintro ⟨rfl, rfl⟩
        simp at c
      have s3 := same_upd (o := HO.tup [V.int x, V.int y]) nt
      have S := (s1.trans s2).trans s3
      refine ⟨t, [x, y], rfl, upd_same, by show 2 < 1000; decide, ?_, fun H' r sm hr e => ?_⟩
      · intro n hn
        unfold Wd
        rcases List.mem_cons.mp hn with rfl | hn
        · omega
        · rw [show n = y by simpa using hn]
          omega
      · obtain ⟨a, b, g, pe, g0, e1, e2, e3, e4⟩ := plain_two hxy
        rw [pe] at e
        have a1 := div_bd e1 g0 ⟨x1, x2⟩
        have b1 := div_bd e2 g0 ⟨y1, y2⟩
        have nr : H2 r = none := by
          rcases hr with rfl | hr
          · exact free_of (s1.trans s2) nt
          · exact free_of S hr
        exact k H' r a b (X2.trans (.same (S.trans sm))) (D2.same (S.trans sm)) (free_ex X2 D2 nr) e ⟨e3, e4, a1.1, a1.2, b1.1, b1.2⟩
    · have s3 := same_upd (o := HO.tup [V.int 1, V.int 0]) nt
      have S := (s1.trans s2).trans s3
      exact k _ t 1 0 (X2.trans (.same S)) (D2.same S) (free_ex X2 D2 (free_of (s1.trans s2) nt)) upd_same ⟨by decide, .inl (by omega), by omega, by omega, by omega, by omega⟩
/-! ### products of many -/
def allP (nss : List (List Int)) : List Int := nss.foldl mulP [1]
def sp_law_all_product : Sp := fun vs H Q _ => ∃ (p : Addr) (rs : List Addr) (nss : List (List Int)), vs = [.ref p] ∧ H p = some (.lst (rs.map V.ref)) ∧ rs.length = nss.length ∧
  (∀ (i : Nat) (r : Addr) (ns : List Int), rs[i]? = some r → nss[i]? = some ns → H r = some (TI ns) ∧ 0 < ns.length ∧ ns.length < 1000 ∧ (∀ n ∈ ns, Wd n) ∧ 0 < (allP (nss.take i)).length ∧ (allP (nss.take i)).length < 1000 ∧ ∀ n ∈ allP (nss.take i), Wd n) ∧
  ∀ H' r, Same H H' → H r = none → H' r = some (TI (allP nss)) → Q (.ref r) H'
theorem ok_law_all_product (T : Tx K mg) : FnOk P w K mg base CX0 2 T.f_law_all_product T.d_law_all_product p_law_all_product sp_law_all_product := by
  refine T.F_law_all_product.ok sc_law_all_product (fun vs H Q E h => ?_) (fun cdv A outer s H vs Q E hr h => ?_)
  · obtain ⟨p, rs, nss, rfl, _⟩ := h
    rfl
  · obtain ⟨p, rs, nss, rfl, hp, hl, hn, k⟩ := h
    refine ⟨_, (pss_cons (ps_set (i := 1) sc_law_all_product.nd rfl (Or.inl rfl) (pe_tup (pa_cons pe_int pa_nil)))
      (pss_cons (ps_for PassesOwn.never rfl (pi_list (pv 0)) (pg_name (i := 2) sc_law_all_product.nd rfl (by first | exact .inl rfl | exact .inr rfl))
      (pss_one (ps_set (i := 1) sc_law_all_product.nd rfl (Or.inl rfl) (pe_call (ok_law_product T) (hr.mono (by decide)) (by rfl) T.m_law_product T.F_law_product.kp T.b_law_product .nil pass0 (pa_cons (pv 1) (pa_cons (pv 2) pa_nil))))))
      (pss_one (ps_ret (pv 1))))), ?_⟩
    rw [st_law_all_product]
    simp only [ap_seq, ap_next, ap_asg, ap_gName, ap_ret, ap_retN, ap_drop, ap_ifS, ap_break, ap_cont, ap_par, ap_aug, ap_ip, ap_gSub, ap_gTup, ap_gNil, ap_gCons, ap_var, ap_c, ap_op, ap_un, ap_if, ap_test, ap_B, ap_and, ap_or, ap_not, ap_andV, ap_orV, ap_notV, ap_nil, ap_cons, ap_tup, ap_lst, ap_cb, ap_bm, ap_call, ap_chain, ap_rI, ap_rI0, ap_rU, ap_rEq, ap_rNe, ap_revT, ap_sl, ap_part, ap_noPart, ap_ixLI, ap_ixTI, ap_ixLV, ap_ixTV, ap_len, ap_setLI, ap_setLV, ap_appI, ap_appV, ap_tupL, ap_listS, ap_sumLI, ap_sumTI, ap_repLI, ap_intI, ap_intB, ap_eqTI, ap_neTI, ap_eqLI, ap_neLI, ap_isi, ap_for, ap_rng1, ap_rng2, ap_iList, ap_iTup, ap_lc, ap_yes, ap_cut, ap_gTupH, ap_fmt, ap_jsn, ap_jsc, ap_gcd, ap_isqrt, ap_ixL, tyV_l, wipe_nil, wipe_cons, upd_same, ap_iEnT, ap_iEnL, ap_iZipA, ap_all, ap_tupT, ap_attF, ap_makeL, ap_att, ap_prop, ap_isO, ap_bin, ap_ne, ap_meth, ap_make, ins_inj, FE_inj, ap_slI, ap_catI, ap_perm, ap_lenO, ap_strO, ap_listO, ap_reprB, ap_iterT, ap_neT, ap_negO, ap_binI, ap_catL, ap_tM1, ap_repTI, ap_popN, ap_par3, ap_catTT, ap_repTA, ap_countT, ap_notInT, ap_repL1, ap_cm, ap_shl, ap_shr, ap_mask, ap_comb, ap_bits, ap_rng3, List.set_cons_zero, List.set_cons_succ, List.getElem?_cons_zero, List.getElem?_cons_succ, List.cons_append, List.nil_append, List.append_nil, Option.some.injEq, V.int.injEq, V.ref.injEq, V.bl.injEq, V.str.injEq, V.ty.injEq, Bool.not_true, Bool.not_false, HO.lst.injEq, HO.tup.injEq, reduceCtorEq, Int.reduceToNat, Int.reduceLT, Int.reduceLE, Nat.reduceAdd, Int.cast_ofNat_Int, gi_c0, gi_c1, gi_c2, gi_c3, Int.natCast_inj, map_int_inj, map_nil_iff, List.cons.injEq, exists_eq_left, exists_eq_left', exists_eq, exists_eq', exists_and_left, exists_and_right, exists_const, and_assoc, and_true, true_and, and_false, false_and, or_false, false_or, or_true, true_or, ite_true, ite_false, if_true, if_false, Bool.false_eq_true, own_cons, own_nil, le1, le2, le3, le4, me_cons, me_nil, List.length_map, List.length_cons, List.length_nil, ne_eq, not_false_eq_true, not_true_eq_false, decide_eq_true_eq]
    refine ⟨by decide, fun l nl => ?_⟩
    have s0 := same_upd (o := HO.tup [V.int 1]) nl
    refine ⟨⟨_, sqL_of (s0 _ _ hp)⟩, loop_gen gives_list (fun i σ' H' => (∃ r y, σ' = [some (V.ref p), some (V.ref r), y] ∧ H r = none ∧ H' r = some (TI (allP (nss.take i)))) ∧ Same H H') ⟨⟨l, _, rfl, nl, upd_same⟩, s0⟩ (fun i σ' H' hi hP => hP.2 _ _ hp) (fun i v σ' H1 H2 hi hP hy => ?_) (fun σ' H1 hP => ?_)⟩
    · obtain ⟨⟨r, y, e, nr, er⟩, sm⟩ := hP
      obtain ⟨rfl, hx⟩ := hy
      subst e
      rw [List.getElem?_map, Option.map_eq_some_iff] at hx
      obtain ⟨u, eu, rfl⟩ := hx
      have li : i < rs.length := (List.getElem?_eq_some_iff.mp eu).1
      obtain ⟨ms, em⟩ : ∃ ms, nss[i]? = some ms := ⟨_, List.getElem?_eq_getElem (by omega)⟩
      obtain ⟨c1, c2, c3, c4, c5, c6, c7⟩ := hn i u ms eu em
      simp only [ap_seq, ap_next, ap_asg, ap_gName, ap_ret, ap_retN, ap_drop, ap_ifS, ap_break, ap_cont, ap_par, ap_aug, ap_ip, ap_gSub, ap_gTup, ap_gNil, ap_gCons, ap_var, ap_c, ap_op, ap_un, ap_if, ap_test, ap_B, ap_and, ap_or, ap_not, ap_andV, ap_orV, ap_notV, ap_nil, ap_cons, ap_tup, ap_lst, ap_cb, ap_bm, ap_call, ap_chain, ap_rI, ap_rI0, ap_rU, ap_rEq, ap_rNe, ap_revT, ap_sl, ap_part, ap_noPart, ap_ixLI, ap_ixTI, ap_ixLV, ap_ixTV, ap_len, ap_setLI, ap_setLV, ap_appI, ap_appV, ap_tupL, ap_listS, ap_sumLI, ap_sumTI, ap_repLI, ap_intI, ap_intB, ap_eqTI, ap_neTI, ap_eqLI, ap_neLI, ap_isi, ap_for, ap_rng1, ap_rng2, ap_iList, ap_iTup, ap_lc, ap_yes, ap_cut, ap_gTupH, ap_fmt, ap_jsn, ap_jsc, ap_gcd, ap_isqrt, ap_ixL, tyV_l, wipe_nil, wipe_cons, upd_same, ap_iEnT, ap_iEnL, ap_iZipA, ap_all, ap_tupT, ap_attF, ap_makeL, ap_att, ap_prop, ap_isO, ap_bin, ap_ne, ap_meth, ap_make, ins_inj, FE_inj, ap_slI, ap_catI, ap_perm, ap_lenO, ap_strO, ap_listO, ap_reprB, ap_iterT, ap_neT, ap_negO, ap_binI, ap_catL, ap_tM1, ap_repTI, ap_popN, ap_par3, ap_catTT, ap_repTA, ap_countT, ap_notInT, ap_repL1, ap_cm, ap_shl, ap_shr, ap_mask, ap_comb, ap_bits, ap_rng3, List.set_cons_zero, List.set_cons_succ, List.getElem?_cons_zero, List.getElem?_cons_succ, List.cons_append, List.nil_append, List.append_nil, Option.some.injEq, V.int.injEq, V.ref.injEq, V.bl.injEq, V.str.injEq, V.ty.injEq, Bool.not_true, Bool.not_false, HO.lst.injEq, HO.tup.injEq, reduceCtorEq, Int.reduceToNat, Int.reduceLT, Int.reduceLE, Nat.reduceAdd, Int.cast_ofNat_Int, gi_c0, gi_c1, gi_c2, gi_c3, Int.natCast_inj, map_int_inj, map_nil_iff, List.cons.injEq, exists_eq_left, exists_eq_left', exists_eq, exists_eq', exists_and_left, exists_and_right, exists_const, and_assoc, and_true, true_and, and_false, false_and, or_false, false_or, or_true, true_or, ite_true, ite_false, if_true, if_false, Bool.false_eq_true, own_cons, own_nil, le1, le2, le3, le4, me_cons, me_nil, List.length_map, List.length_cons, List.length_nil, ne_eq, not_false_eq_true, not_true_eq_false, decide_eq_true_eq]
      refine ⟨r, u, allP (nss.take i), ms, rfl, er, sm _ _ c1, c5, c2, c6, c3, c7, c4, fun H3 r3 s3 n3 e3 => ?_⟩
      have ea : allP (nss.take (i + 1)) = mulP (allP (nss.take i)) ms := by
        unfold allP
        rw [List.take_succ, em, List.foldl_append]
        rfl
      simp only [ap_seq, ap_next, ap_asg, ap_gName, ap_ret, ap_retN, ap_drop, ap_ifS, ap_break, ap_cont, ap_par, ap_aug, ap_ip, ap_gSub, ap_gTup, ap_gNil, ap_gCons, ap_var, ap_c, ap_op, ap_un, ap_if, ap_test, ap_B, ap_and, ap_or, ap_not, ap_andV, ap_orV, ap_notV, ap_nil, ap_cons, ap_tup, ap_lst, ap_cb, ap_bm, ap_call, ap_chain, ap_rI, ap_rI0, ap_rU, ap_rEq, ap_rNe, ap_revT, ap_sl, ap_part, ap_noPart, ap_ixLI, ap_ixTI, ap_ixLV, ap_ixTV, ap_len, ap_setLI, ap_setLV, ap_appI, ap_appV, ap_tupL, ap_listS, ap_sumLI, ap_sumTI, ap_repLI, ap_intI, ap_intB, ap_eqTI, ap_neTI, ap_eqLI, ap_neLI, ap_isi, ap_for, ap_rng1, ap_rng2, ap_iList, ap_iTup, ap_lc, ap_yes, ap_cut, ap_gTupH, ap_fmt, ap_jsn, ap_jsc, ap_gcd, ap_isqrt, ap_ixL, tyV_l, wipe_nil, wipe_cons, upd_same, ap_iEnT, ap_iEnL, ap_iZipA, ap_all, ap_tupT, ap_attF, ap_makeL, ap_att, ap_prop, ap_isO, ap_bin, ap_ne, ap_meth, ap_make, ins_inj, FE_inj, ap_slI, ap_catI, ap_perm, ap_lenO, ap_strO, ap_listO, ap_reprB, ap_iterT, ap_neT, ap_negO, ap_binI, ap_catL, ap_tM1, ap_repTI, ap_popN, ap_par3, ap_catTT, ap_repTA, ap_countT, ap_notInT, ap_repL1, ap_cm, ap_shl, ap_shr, ap_mask, ap_comb, ap_bits, ap_rng3, List.set_cons_zero, List.set_cons_succ, List.getElem?_cons_zero, List.getElem?_cons_succ, List.cons_append, List.nil_append, List.append_nil, Option.some.injEq, V.int.injEq, V.ref.injEq, V.bl.injEq, V.str.injEq, V.ty.injEq, Bool.not_true, Bool.not_false, HO.lst.injEq, HO.tup.injEq, reduceCtorEq, Int.reduceToNat, Int.reduceLT, Int.reduceLE, Nat.reduceAdd, Int.cast_ofNat_Int, gi_c0, gi_c1, gi_c2, gi_c3, Int.natCast_inj, map_int_inj, map_nil_iff, List.cons.injEq, exists_eq_left, exists_eq_left', exists_eq, exists_eq', exists_and_left, exists_and_right, exists_const, and_assoc, and_true, true_and, and_false, false_and, or_false, false_or, or_true, true_or, ite_true, ite_false, if_true, if_false, Bool.false_eq_true, own_cons, own_nil, le1, le2, le3, le4, me_cons, me_nil, List.length_map, List.length_cons, List.length_nil, ne_eq, not_false_eq_true, not_true_eq_false, decide_eq_true_eq]
      rw [ea]
      exact ⟨free_of sm n3, e3, sm.trans s3⟩
    · obtain ⟨⟨r, y, e, nr, er⟩, sm⟩ := hP
      subst e
      rw [List.length_map, hl, List.take_length] at er
      simp only [ap_seq, ap_next, ap_asg, ap_gName, ap_ret, ap_retN, ap_drop, ap_ifS, ap_break, ap_cont, ap_par, ap_aug, ap_ip, ap_gSub, ap_gTup, ap_gNil, ap_gCons, ap_var, ap_c, ap_op, ap_un, ap_if, ap_test, ap_B, ap_and, ap_or, ap_not, ap_andV, ap_orV, ap_notV, ap_nil, ap_cons, ap_tup, ap_lst, ap_cb, ap_bm, ap_call, ap_chain, ap_rI, ap_rI0, ap_rU, ap_rEq, ap_rNe, ap_revT, ap_sl, ap_part, ap_noPart, ap_ixLI, ap_ixTI, ap_ixLV, ap_ixTV, ap_len, ap_setLI, ap_setLV, ap_appI, ap_appV, ap_tupL, ap_listS, ap_sumLI, ap_sumTI, ap_repLI, ap_intI, ap_intB, ap_eqTI, ap_neTI, ap_eqLI, ap_neLI, ap_isi, ap_for, ap_rng1, ap_rng2, ap_iList, ap_iTup, ap_lc, ap_yes, ap_cut, ap_gTupH, ap_fmt, ap_jsn, ap_jsc, ap_gcd, ap_isqrt, ap_ixL, tyV_l, wipe_nil, wipe_cons, upd_same, ap_iEnT, ap_iEnL, ap_iZipA, ap_all, ap_tupT, ap_attF, ap_makeL, ap_att, ap_prop, ap_isO, ap_bin, ap_ne, ap_meth, ap_make, ins_inj, FE_inj, ap_slI, ap_catI, ap_perm, ap_lenO, ap_strO, ap_listO, ap_reprB, ap_iterT, ap_neT, ap_negO, ap_binI, ap_catL, ap_tM1, ap_repTI, ap_popN, ap_par3, ap_catTT, ap_repTA, ap_countT, ap_notInT, ap_repL1, ap_cm, ap_shl, ap_shr, ap_mask, ap_comb, ap_bits, ap_rng3, List.set_cons_zero, List.set_cons_succ, List.getElem?_cons_zero, List.getElem?_cons_succ, List.cons_append, List.nil_append, List.append_nil, Option.some.injEq, V.int.injEq, V.ref.injEq, V.bl.injEq, V.str.injEq, V.ty.injEq, Bool.not_true, Bool.not_false, HO.lst.injEq, HO.tup.injEq, reduceCtorEq, Int.reduceToNat, Int.reduceLT, Int.reduceLE, Nat.reduceAdd, Int.cast_ofNat_Int, gi_c0, gi_c1, gi_c2, gi_c3, Int.natCast_inj, map_int_inj, map_nil_iff, List.cons.injEq, exists_eq_left, exists_eq_left', exists_eq, exists_eq', exists_and_left, exists_and_right, exists_const, and_assoc, and_true, true_and, and_false, false_and, or_false, false_or, or_true, true_or, ite_true, ite_false, if_true, if_false, Bool.false_eq_true, own_cons, own_nil, le1, le2, le3, le4, me_cons, me_nil, List.length_map, List.length_cons, List.length_nil, ne_eq, not_false_eq_true, not_true_eq_false, decide_eq_true_eq]
      exact k _ r sm nr er
end
end My
namespace My
open PySem PySem.Spec PyProof.Rows L2 Pr
/-! ### the sum of all entries' sizes -/
def l1 (ns : List Int) : Nat := (ns.map Int.natAbs).sum
theorem l1_app (a b : List Int) : l1 (a ++ b) = l1 a + l1 b := by
  unfold l1
  rw [List.map_append, List.sum_append]
theorem l1_mem {ns : List Int} {n : Int} (h : n ∈ ns) : n.natAbs ≤ l1 ns := by
  obtain ⟨a, b, rfl⟩ := List.append_of_mem h
  rw [l1_app]
  show n.natAbs ≤ l1 a + (n.natAbs + l1 b)
  omega
def sN (N : Nat) (f : Nat → Int) : Nat := l1 ((List.range N).map f)
theorem sN_succ (N : Nat) (f : Nat → Int) : sN (N + 1) f = sN N f + (f N).natAbs := by
  unfold sN
  rw [List.range_succ, List.map_append, l1_app]
  show _ + ((f N).natAbs + 0) = _
  omega
theorem sN_add (N : Nat) (f g : Nat → Int) : sN N (fun k => f k + g k) ≤ sN N f + sN N g := by
  induction N with
  | zero => exact Nat.zero_le _
  | succ N ih =>
    rw [sN_succ, sN_succ, sN_succ]
    have := Int.natAbs_add_le (f N) (g N)
    omega
theorem l1_take (ms : List Int) (M : Nat) : l1 (ms.take M) ≤ l1 ms := by
  have h := l1_app (ms.take M) (ms.drop M)
  rw [List.take_append_drop] at h
  omega
theorem take_one (ms : List Int) (M : Nat) : l1 (ms.take (M + 1)) = l1 (ms.take M) + (ms.getD M 0).natAbs := by
  rw [List.take_succ, l1_app, List.getD_eq_getElem?_getD]
  rcases ms[M]? with _ | n
  · rfl
  · show _ + (n.natAbs + 0) = _
    rfl
theorem sN_shift (ms : List Int) (a : Int) (i : Nat) : ∀ N, sN N (fun k => if i ≤ k then a * ms.getD (k - i) 0 else 0) = a.natAbs * l1 (ms.take (N - i))
  | 0 => by
    rw [Nat.zero_sub]
    rfl
  | N + 1 => by
    rw [sN_succ, sN_shift ms a i N]
    by_cases h : i ≤ N
    · rw [if_pos h, show N + 1 - i = N - i + 1 by omega, take_one, Int.natAbs_mul, Nat.mul_add]
    · rw [if_neg h, show N + 1 - i = 0 by omega, show N - i = 0 by omega]
      rfl
theorem sN_cv (ns ms : List Int) (N : Nat) : ∀ i, sN N (cv ns ms i) ≤ l1 (ns.take i) * l1 ms
  | 0 => by
    have : sN N (cv ns ms 0) = 0 := by
      induction N with
      | zero => rfl
      | succ N ih =>
        rw [sN_succ, ih]
        rfl
    omega
  | i + 1 => by
    have h1 := sN_add N (cv ns ms i) (fun k => if i ≤ k then ns.getD i 0 * ms.getD (k - i) 0 else 0)
    have h2 := sN_cv ns ms N i
    rw [sN_shift] at h1
    have h3 : (ns.getD i 0).natAbs * l1 (ms.take (N - i)) ≤ (ns.getD i 0).natAbs * l1 ms := Nat.mul_le_mul_left _ (l1_take ..)
    rw [take_one, Nat.add_mul]
    exact Nat.le_trans h1 (Nat.add_le_add h2 h3)
theorem l1_mulP (ns ms : List Int) : l1 (mulP ns ms) ≤ l1 ns * l1 ms := by
  have h := sN_cv ns ms (ns.length + ms.length - 1) ns.length
  rw [List.take_length] at h
  exact h
theorem l1_powP (ns : List Int) : ∀ k, l1 (powP ns k) ≤ l1 ns ^ k
  | 0 => Nat.le_refl 1
  | k + 1 => by
    have h1 := l1_mulP (powP ns k) ns
    have h2 := Nat.mul_le_mul_right (l1 ns) (l1_powP ns k)
    rw [Nat.pow_succ]
    exact Nat.le_trans h1 h2
theorem l1_fold (nss : List (List Int)) (L : Nat) (h : ∀ ns ∈ nss, l1 ns ≤ L) : ∀ a : List Int, l1 (nss.foldl mulP a) ≤ l1 a * L ^ nss.length := by
  induction nss with
  | nil => exact fun a => by simp
  | cons ns nss ih =>
    intro a
    have h1 := ih (fun m hm => h m (List.mem_cons_of_mem _ hm)) (mulP a ns)
    have h2 := Nat.le_trans (l1_mulP a ns) (Nat.mul_le_mul_left (l1 a) (h ns (List.mem_cons_self ..)))
    rw [List.foldl_cons, List.length_cons, Nat.pow_succ]
    refine Nat.le_trans h1 (Nat.le_trans (Nat.mul_le_mul_right _ h2) ?_)
    rw [Nat.mul_assoc, Nat.mul_comm L]
    exact Nat.le_refl _
theorem l1_allP {nss : List (List Int)} {L : Nat} (h : ∀ ns ∈ nss, l1 ns ≤ L) : l1 (allP nss) ≤ L ^ nss.length := by
  have h1 := l1_fold nss L h [1]
  have : l1 [1] = 1 := by decide
  rw [this, Nat.one_mul] at h1
  exact h1
theorem powP_lenE {ns : List Int} (h : 0 < ns.length) : ∀ k, (powP ns k).length = k * (ns.length - 1) + 1
  | 0 => by show 1 = _; omega
  | k + 1 => by
    show (mulP (powP ns k) ns).length = _
    rw [mulP_len, powP_lenE h k, Nat.succ_mul]
    omega
theorem fold_len {n : Nat} (nss : List (List Int)) (h : ∀ ns ∈ nss, ns.length = n + 1) : ∀ a : List Int, 0 < a.length → (nss.foldl mulP a).length = a.length + nss.length * n := by
  induction nss with
  | nil => exact fun a _ => by simp
  | cons ns nss ih =>
    intro a ha
    have h1 := h ns (List.mem_cons_self ..)
    have h2 : (mulP a ns).length = a.length + n := by
      rw [mulP_len]
      omega
    rw [List.foldl_cons, ih (fun m hm => h m (List.mem_cons_of_mem _ hm)) _ (by omega), h2, List.length_cons, Nat.succ_mul]
    omega
theorem allP_len {nss : List (List Int)} {n : Nat} (h : ∀ ns ∈ nss, ns.length = n + 1) : (allP nss).length = nss.length * n + 1 := by
  unfold allP
  rw [fold_len nss h [1] (by show 0 < 1; omega)]
  show 1 + _ = _
  omega
theorem l1_wd {ns : List Int} {L : Nat} (h : l1 ns ≤ L) (hL : L < 10 ^ 50) : ∀ n ∈ ns, Sm n := by
  intro n hn
  have := l1_mem hn
  unfold Sm
  omega
theorem Sm.wd {n : Int} (h : Sm n) : Wd n := by
  unfold Sm at h
  unfold Wd
  omega
end My
namespace My
open PySem PySem.Spec PyProof.Rows L2 Pr
section
variable {g : TG} {D : Ends} {σ : L2.St} {H : Hp} {j : Nat} {te : TE} {vs : List Nat} {Q : VK} {tt : TT}
/-- the tuples at rs hold the rows nss -/
def Rows (H : Hp) (d : Addr) (rs : List Addr) (nss : List (List Int)) : Prop := rs.length = nss.length ∧ ∀ (i : Nat) (r : Addr) (ns : List Int), rs[i]? = some r → nss[i]? = some ns → H r = some (TI ns) ∧ r ≠ d
theorem Rows.exc {H H' : Hp} {d : Addr} {rs : List Addr} {nss : List (List Int)} (h : Rows H d rs nss) (ex : Exc d H H') : Rows H' d rs nss := ⟨h.1, fun i r ns e1 e2 => ⟨ex _ _ (h.2 i r ns e1 e2).2 (h.2 i r ns e1 e2).1, (h.2 i r ns e1 e2).2⟩⟩
theorem Rows.snoc {H : Hp} {d r : Addr} {ns : List Int} {rs : List Addr} {nss : List (List Int)} (h : Rows H d rs nss) (e : H r = some (TI ns)) (n : r ≠ d) : Rows H d (rs ++ [r]) (nss ++ [ns]) := by
  refine ⟨by simp [h.1], fun i r' ns' e1 e2 => ?_⟩
  by_cases hi : i < rs.length
  · rw [List.getElem?_append_left hi] at e1
    rw [List.getElem?_append_left (by have := h.1; omega)] at e2
    exact h.2 i r' ns' e1 e2
  · rw [List.getElem?_append_right (by omega)] at e1
    rw [List.getElem?_append_right (by have := h.1; omega), ← h.1] at e2
    by_cases h0 : i - rs.length = 0
    · rw [h0] at e1 e2
      cases e1
      cases e2
      exact ⟨e, n⟩
    · rw [List.getElem?_eq_none (by simp; omega)] at e1
      cases e1
/-- a comprehension whose turns throw dice and give tuples of ints -/
theorem lc_rangeT {lo : Int} {n : Nat} {d : Addr} (R : List Int → Prop) (hn : n < 1000000) (hD : Dc H d) (hw : ∀ x, wipe ((wipe σ vs).set j (some x)) vs = wipe σ vs)
    (he : ∀ (i : Nat) H', i < n → Exc d H H' → Dc H' d → ∀ Q' : VK, (∀ H'' r ns, Exc d H' H'' → Dc H'' d → H'' r = some (TI ns) → r ≠ d → R ns → Q' (.ref r) H'') → te ((wipe σ vs).set j (some (.int (lo + i)))) H' Q')
    (hq : ∀ p H' rs nss, H p = none → Exc d H H' → Dc H' d → nss.length = n → (∀ ns ∈ nss, R ns) → H' p = some (.lst (rs.map V.ref)) → Rows H' d rs nss → Q (.ref p) H') :
    tLcIn (gName j) tYes te vs σ Q (Itr lo n) H := fun A hA => by
  have nd : A ≠ d := by
    obtain ⟨_, _, _, e⟩ := hD
    exact (ne_of_none e hA).symm
  refine lc_range (g := gName j) (lo := lo) (n := n) (fun i H' => Exc d H H' ∧ Dc H' d ∧ ∃ rs nss, nss.length = i ∧ (∀ x ∈ nss, R x) ∧ H' A = some (.lst (rs.map V.ref)) ∧ Rows H' d rs nss) ⟨.same (same_upd hA), hD.same (same_upd hA), [], [], rfl, by simp, upd_same, rfl, fun i r ns e1 => by simp at e1⟩ (fun i H' hi hP => ?_) (fun H' hP => ?_)
  · obtain ⟨ex, dc, rs, nss, l, r, e, rw1⟩ := hP
    refine ⟨hw _, he i H' hi ex dc _ fun H2 t ns ex2 dc2 et td rx => ⟨_, ex2 _ _ nd e, sz (by have := rw1.1; simp; omega), ?_, ?_, rs ++ [t], nss ++ [ns], by simp [l], ?_, ?_, ?_⟩⟩
    · intro b o hb eb
      rw [upd_ne (ne_of_none eb hA)]
      exact ex2 _ _ hb (ex _ _ hb eb)
    · obtain ⟨a1, a2, a3, ed⟩ := dc2
      exact ⟨a1, a2, a3, by rw [upd_ne nd.symm]; exact ed⟩
    · intro y hy
      rcases List.mem_append.mp hy with h | h
      · exact r y h
      · rw [show y = ns by simpa using h]
        exact rx
    · rw [upd_same]
      exact congrArg (fun z => some (HO.lst z)) (List.map_append (f := V.ref) (l₁ := rs) (l₂ := [t])).symm
    · have r2 := (rw1.exc ex2).snoc et td
      refine ⟨r2.1, fun i r' ns' e1 e2 => ?_⟩
      obtain ⟨c1, c2⟩ := r2.2 i r' ns' e1 e2
      refine ⟨?_, c2⟩
      have ne : r' ≠ A := by
        rintro rfl
        rw [ex2 _ _ nd e] at c1
        cases c1
      rw [upd_ne ne]
      exact c1
  · obtain ⟨ex, dc, rs, nss, l, r, e, rw1⟩ := hP
    exact hq A H' rs nss hA ex dc l r e rw1
end
section
variable {P : Program} {w : World} {K : PySem.W.Frag} {mg : Str → Option Value} {base : Heap}
theorem l1_bd {ns : List Int} {L : Nat} (h : l1 ns ≤ L) (hL : L ≤ 10 ^ 13) : Bd (10 ^ 13) ns := by
  intro n hn
  have := l1_mem hn
  omega
theorem l1_Bd {ns : List Int} {m : Nat} (h : Bd m ns) : l1 ns ≤ ns.length * m := by
  induction ns with
  | nil => exact Nat.zero_le _
  | cons n ns ih =>
    have h1 := ih fun x hx => h x (List.mem_cons_of_mem _ hx)
    have h2 := h n (List.mem_cons_self ..)
    rw [List.length_cons, Nat.succ_mul]
    show n.natAbs + l1 ns ≤ _
    omega
theorem pow6 {k : Nat} (h : k ≤ 12) : 6 ^ k ≤ 6 ^ 12 := Nat.pow_le_pow_right (by omega) h
theorem not_dice {H : Hp} {d r : Addr} (D : Dc H d) (n : H r = none) : r ≠ d := by
  obtain ⟨_, _, _, ed⟩ := D
  exact (ne_of_none ed n).symm
theorem line_l1 {a b : Int} (p : Pt 3 a b) : l1 [b, 0 - a] ≤ 6 := by
  have := p.a0
  have := p.a1
  have := p.b0
  have := p.b1
  show b.natAbs + ((0 - a).natAbs + 0) ≤ 6
  omega
theorem point_l1 {a b : Int} (p : Pt 3 a b) : l1 [a, b] ≤ 6 := by
  have := p.a0
  have := p.a1
  have := p.b0
  have := p.b1
  show a.natAbs + (b.natAbs + 0) ≤ 6
  omega
/-- powers of a short pair -/
theorem pow_ok {ns : List Int} (hl : ns.length = 2) (h : l1 ns ≤ 6) {k : Nat} (hk : k ≤ 12) : (powP ns k).length = k + 1 ∧ l1 (powP ns k) ≤ 6 ^ 12 := by
  refine ⟨by rw [powP_lenE (by omega) k, hl]; omega, Nat.le_trans (l1_powP ns k) (Nat.le_trans (Nat.pow_le_pow_left h k) (pow6 hk))⟩
theorem pow_wd {ns : List Int} (hl : ns.length = 2) (h : l1 ns ≤ 6) {k : Nat} (hk : k ≤ 12) : ∀ n ∈ powP ns k, Sm n := l1_wd (pow_ok hl h hk).2 (by decide)
theorem zip_bd {A B : Int} : ∀ {ns ms : List Int}, Bd A ns → Bd B ms → Bd (A + B) (List.zipWith (· + ·) ns ms)
  | [], _, _, _ => fun n hn => by simp at hn
  | _ :: _, [], _, _ => fun n hn => by simp at hn
  | a :: ns, b :: ms, h1, h2 => fun n hn => by
    rw [List.zipWith_cons_cons] at hn
    rcases List.mem_cons.mp hn with rfl | hn
    · have := h1 a (List.mem_cons_self ..)
      have := h2 b (List.mem_cons_self ..)
      omega
    · exact zip_bd (fun x hx => h1 x (List.mem_cons_of_mem _ hx)) (fun x hx => h2 x (List.mem_cons_of_mem _ hx)) n hn
theorem scale_bd {A f : Int} {ms : List Int} (hA : 0 ≤ A) (hf : -4 ≤ f ∧ f ≤ 4) (h : Bd A ms) : Bd (4 * A) (ms.map (f * ·)) := by
  intro n hn
  obtain ⟨m, hm, rfl⟩ := List.mem_map.mp hn
  exact mul_bd hf (h m hm) (by omega) hA
theorem l1_B {ns : List Int} {L : Nat} (h : l1 ns ≤ L) : Bd (L : Nat) ns := by
  intro n hn
  have := l1_mem hn
  omega
/-- a drawn form's entries -/
def Drawn (n : Nat) (ns : List Int) : Prop := ns.length = n + 1 ∧ Bd (10 ^ 13) ns
def sp_law_form : Sp := fun vs H Q _ => ∃ (d : Addr) (n : Nat), vs = [.ref d, .int (n : Nat)] ∧ Dc H d ∧ n ≤ 12 ∧
  ∀ H' r ns, Exc d H H' → Dc H' d → H r = none → Drawn n ns → H' r = some (TI ns) → Q (.ref r) H'
theorem ok_law_form (T : Tx K mg) : FnOk P w K mg base CX0 5 T.f_law_form T.d_law_form p_law_form sp_law_form := by
  refine T.F_law_form.ok sc_law_form (fun vs H Q E h => ?_) (fun cdv A outer s H vs Q E hr h => ?_)
  · obtain ⟨d, n, rfl, _⟩ := h
    rfl
  · obtain ⟨d, n, rfl, hD, hn, k⟩ := h
    refine ⟨_, (pss_cons (ps_set (i := 2) sc_law_form.nd rfl (Or.inl rfl) (pe_call (ok_law_roll T) (hr.mono (by decide)) (by rfl) T.m_law_roll T.F_law_roll.kp T.b_law_roll .nil pass0 (pa_cons (pv 0) (pa_cons pe_int pa_nil))))
      (pss_cons (ps_if (pt_cmpR op_eq (pv 2) pe_int (nomark _)) (pss_one (ps_ret (pe_call (ok_law_all_product T) (hr.mono (by decide)) (by rfl) T.m_law_all_product T.F_law_all_product.kp T.b_law_all_product .nil pass0 (pa_cons (pe_lc (own := [("_law_turn", 6)]) (g := gName 6) (tt := tYes) rfl sc_law_form.nd (pi_range1 (by rfl) T.z_range (pa_cons (pv 1) pa_nil)) (blkOk_by (N := n_law_form) (sc := defScope s_law_form) (by decide +kernel)) (fun _ _ _ _ _ => (pg_name (i := 6) sc_law_form.nd rfl (by first | exact .inl rfl | exact .inr rfl))) (fun _ _ _ _ _ => pts_nil) (fun _ _ _ _ _ => (pe_call (ok_law_line T) (hr.mono (by decide)) (by rfl) T.m_law_line T.F_law_line.kp T.b_law_line .nil pass0 (pa_cons (pe_call (ok_law_point T) (hr.mono (by decide)) (by rfl) T.m_law_point T.F_law_point.kp T.b_law_point .nil pass0 (pa_cons (pv 0) (pa_cons pe_int pa_nil))) pa_nil)))) pa_nil)))) pss_nil)
      (pss_cons (ps_if (pt_cmpR op_eq (pv 2) pe_int (nomark _)) (pss_cons (ps_par (i := 3) (j := 4) (by rfl) sc_law_form.nd rfl rfl (by decide) rfl rfl (pa_cons (pe_call (ok_law_line T) (hr.mono (by decide)) (by rfl) T.m_law_line T.F_law_line.kp T.b_law_line .nil pass0 (pa_cons (pe_call (ok_law_point T) (hr.mono (by decide)) (by rfl) T.m_law_point T.F_law_point.kp T.b_law_point .nil pass0 (pa_cons (pv 0) (pa_cons pe_int pa_nil))) pa_nil)) (pa_cons (pe_call (ok_law_roll T) (hr.mono (by decide)) (by rfl) T.m_law_roll T.F_law_roll.kp T.b_law_roll .nil pass0 (pa_cons (pv 0) (pa_cons (pe_op op_add (pv 1) pe_int) pa_nil))) pa_nil)) (by rfl))
      (pss_one (ps_ret (pe_call (ok_law_product T) (hr.mono (by decide)) (by rfl) T.m_law_product T.F_law_product.kp T.b_law_product .nil pass0 (pa_cons (pe_call (ok_law_power T) (hr.mono (by decide)) (by rfl) T.m_law_power T.F_law_power.kp T.b_law_power .nil pass0 (pa_cons (pv 3) (pa_cons (pv 4) pa_nil))) (pa_cons (pe_call (ok_law_small_form T) (hr.mono (by decide)) (by rfl) T.m_law_small_form T.F_law_small_form.kp T.b_law_small_form .nil pass0 (pa_cons (pv 0) (pa_cons (pe_op op_sub (pv 1) (pv 4)) (pa_cons pe_int pa_nil)))) pa_nil)))))) pss_nil)
      (pss_cons (ps_if (pt_cmpR op_eq (pv 2) pe_int (nomark _)) (pss_cons (ps_set (i := 5) sc_law_form.nd rfl (Or.inl rfl) (pe_callTy cr_tupL (by rfl) T.z_tuple (by decide +kernel) (pa_cons (pe_lc (own := [("_law_place", 7)]) (g := gName 7) (tt := tYes) rfl sc_law_form.nd (pi_range1 (by rfl) T.z_range (pa_cons (pe_op op_add (pv 1) pe_int) pa_nil)) (blkOk_by (N := n_law_form) (sc := defScope s_law_form) (by decide +kernel)) (fun _ _ _ _ _ => (pg_name (i := 7) sc_law_form.nd rfl (by first | exact .inl rfl | exact .inr rfl))) (fun _ _ _ _ _ => pts_nil) (fun _ _ _ _ _ => pe_int)) pa_nil)))
      (pss_cons (ps_for PassesOwn.never rfl (pi_range1 (by rfl) T.z_range (pa_cons (pe_op op_add pe_int (pe_call (ok_law_roll T) (hr.mono (by decide)) (by rfl) T.m_law_roll T.F_law_roll.kp T.b_law_roll .nil pass0 (pa_cons (pv 0) (pa_cons pe_int pa_nil)))) pa_nil)) (pg_name (i := 6) sc_law_form.nd rfl (by first | exact .inl rfl | exact .inr rfl))
      (pss_one (ps_set (i := 5) sc_law_form.nd rfl (Or.inl rfl) (pe_call (ok_law_plus T) (hr.mono (by decide)) (by rfl) T.m_law_plus T.F_law_plus.kp T.b_law_plus .nil pass0 (pa_cons (pv 5) (pa_cons (pe_call (ok_law_scaled T) (hr.mono (by decide)) (by rfl) T.m_law_scaled T.F_law_scaled.kp T.b_law_scaled .nil pass0 (pa_cons (pe_call (ok_law_power T) (hr.mono (by decide)) (by rfl) T.m_law_power T.F_law_power.kp T.b_law_power .nil pass0 (pa_cons (pe_call (ok_law_point T) (hr.mono (by decide)) (by rfl) T.m_law_point T.F_law_point.kp T.b_law_point .nil pass0 (pa_cons (pv 0) (pa_cons pe_int pa_nil))) (pa_cons (pv 1) pa_nil))) (pa_cons (pe_call (ok_law_near T) (hr.mono (by decide)) (by rfl) T.m_law_near T.F_law_near.kp T.b_law_near .nil pass0 (pa_cons (pv 0) (pa_cons pe_int pa_nil))) pa_nil))) pa_nil))))))
      (pss_one (ps_ret (pv 5))))) pss_nil)
      (pss_cons (ps_if (pt_cmpR op_eq (pv 2) pe_int (nomark _)) (pss_one (ps_ret (pe_callTy cr_tupL (by rfl) T.z_tuple (by decide +kernel) (pa_cons (pe_lc (own := [("_law_place", 7)]) (g := gName 7) (tt := tYes) rfl sc_law_form.nd (pi_range1 (by rfl) T.z_range (pa_cons (pe_op op_add (pv 1) pe_int) pa_nil)) (blkOk_by (N := n_law_form) (sc := defScope s_law_form) (by decide +kernel)) (fun _ _ _ _ _ => (pg_name (i := 7) sc_law_form.nd rfl (by first | exact .inl rfl | exact .inr rfl))) (fun _ _ _ _ _ => pts_nil) (fun _ _ _ _ _ => (pe_op op_mulB (pe_call (ok_law_near T) (hr.mono (by decide)) (by rfl) T.m_law_near T.F_law_near.kp T.b_law_near .nil pass0 (pa_cons (pv 0) (pa_cons pe_int pa_nil))) (pe_call (ok_law_roll T) (hr.mono (by decide)) (by rfl) T.m_law_roll T.F_law_roll.kp T.b_law_roll .nil pass0 (pa_cons (pv 0) (pa_cons pe_int pa_nil)))))) pa_nil)))) pss_nil)
      (pss_cons (ps_if (PW.pt (pw_and (pt_cmpR op_eq (pv 2) pe_int (nomark _)) (pw_and1 (pt_cmpR op_eq (pe_call (ok_law_roll T) (hr.mono (by decide)) (by rfl) T.m_law_roll T.F_law_roll.kp T.b_law_roll .nil pass0 (pa_cons (pv 0) (pa_cons pe_int pa_nil))) pe_int (nomark _))))) (pss_one (ps_ret (pe_callTy cr_tupL (by rfl) T.z_tuple (by decide +kernel) (pa_cons (pe_lc (own := [("_law_place", 7)]) (g := gName 7) (tt := tYes) rfl sc_law_form.nd (pi_range1 (by rfl) T.z_range (pa_cons (pe_op op_add (pv 1) pe_int) pa_nil)) (blkOk_by (N := n_law_form) (sc := defScope s_law_form) (by decide +kernel)) (fun _ _ _ _ _ => (pg_name (i := 7) sc_law_form.nd rfl (by first | exact .inl rfl | exact .inr rfl))) (fun _ _ _ _ _ => pts_nil) (fun _ _ _ _ _ => (pe_call (ok_law_near T) (hr.mono (by decide)) (by rfl) T.m_law_near T.F_law_near.kp T.b_law_near .nil pass0 (pa_cons (pv 0) (pa_cons (pe_op op_pow pe_int pe_int) pa_nil))))) pa_nil)))) pss_nil)
      (pss_one (ps_ret (pe_call (ok_law_small_form T) (hr.mono (by decide)) (by rfl) T.m_law_small_form T.F_law_small_form.kp T.b_law_small_form .nil pass0 (pa_cons (pv 0) (pa_cons (pv 1) (pa_cons pe_int pa_nil)))))))))))), ?_⟩
    rw [st_law_form]
    simp only [ap_seq, ap_next, ap_asg, ap_gName, ap_ret, ap_retN, ap_drop, ap_ifS, ap_break, ap_cont, ap_par, ap_aug, ap_ip, ap_gSub, ap_gTup, ap_gNil, ap_gCons, ap_var, ap_c, ap_op, ap_un, ap_if, ap_test, ap_B, ap_and, ap_or, ap_not, ap_andV, ap_orV, ap_notV, ap_nil, ap_cons, ap_tup, ap_lst, ap_cb, ap_bm, ap_call, ap_chain, ap_rI, ap_rI0, ap_rU, ap_rEq, ap_rNe, ap_revT, ap_sl, ap_part, ap_noPart, ap_ixLI, ap_ixTI, ap_ixLV, ap_ixTV, ap_len, ap_setLI, ap_setLV, ap_appI, ap_appV, ap_tupL, ap_listS, ap_sumLI, ap_sumTI, ap_repLI, ap_intI, ap_intB, ap_eqTI, ap_neTI, ap_eqLI, ap_neLI, ap_isi, ap_for, ap_rng1, ap_rng2, ap_iList, ap_iTup, ap_lc, ap_yes, ap_cut, ap_gTupH, ap_fmt, ap_jsn, ap_jsc, ap_gcd, ap_isqrt, ap_ixL, tyV_l, wipe_nil, wipe_cons, upd_same, ap_iEnT, ap_iEnL, ap_iZipA, ap_all, ap_tupT, ap_attF, ap_makeL, ap_att, ap_prop, ap_isO, ap_bin, ap_ne, ap_meth, ap_make, ins_inj, FE_inj, ap_slI, ap_catI, ap_perm, ap_lenO, ap_strO, ap_listO, ap_reprB, ap_iterT, ap_neT, ap_negO, ap_binI, ap_catL, ap_tM1, ap_repTI, ap_popN, ap_par3, ap_catTT, ap_repTA, ap_countT, ap_notInT, ap_repL1, ap_cm, ap_shl, ap_shr, ap_mask, ap_comb, ap_bits, ap_rng3, List.set_cons_zero, List.set_cons_succ, List.getElem?_cons_zero, List.getElem?_cons_succ, List.cons_append, List.nil_append, List.append_nil, Option.some.injEq, V.int.injEq, V.ref.injEq, V.bl.injEq, V.str.injEq, V.ty.injEq, Bool.not_true, Bool.not_false, HO.lst.injEq, HO.tup.injEq, reduceCtorEq, Int.reduceToNat, Int.reduceLT, Int.reduceLE, Nat.reduceAdd, Int.cast_ofNat_Int, gi_c0, gi_c1, gi_c2, gi_c3, Int.natCast_inj, map_int_inj, map_nil_iff, List.cons.injEq, exists_eq_left, exists_eq_left', exists_eq, exists_eq', exists_and_left, exists_and_right, exists_const, and_assoc, and_true, true_and, and_false, false_and, or_false, false_or, or_true, true_or, ite_true, ite_false, if_true, if_false, Bool.false_eq_true, own_cons, own_nil, le1, le2, le3, le4, me_cons, me_nil, List.length_map, List.length_cons, List.length_nil, ne_eq, not_false_eq_true, not_true_eq_false, decide_eq_true_eq]
    refine ⟨d, 6, rfl, hD, by omega, by omega, fun H1 x ex1 D1 x0 x1 => ?_⟩
    simp only [ap_seq, ap_next, ap_asg, ap_gName, ap_ret, ap_retN, ap_drop, ap_ifS, ap_break, ap_cont, ap_par, ap_aug, ap_ip, ap_gSub, ap_gTup, ap_gNil, ap_gCons, ap_var, ap_c, ap_op, ap_un, ap_if, ap_test, ap_B, ap_and, ap_or, ap_not, ap_andV, ap_orV, ap_notV, ap_nil, ap_cons, ap_tup, ap_lst, ap_cb, ap_bm, ap_call, ap_chain, ap_rI, ap_rI0, ap_rU, ap_rEq, ap_rNe, ap_revT, ap_sl, ap_part, ap_noPart, ap_ixLI, ap_ixTI, ap_ixLV, ap_ixTV, ap_len, ap_setLI, ap_setLV, ap_appI, ap_appV, ap_tupL, ap_listS, ap_sumLI, ap_sumTI, ap_repLI, ap_intI, ap_intB, ap_eqTI, ap_neTI, ap_eqLI, ap_neLI, ap_isi, ap_for, ap_rng1, ap_rng2, ap_iList, ap_iTup, ap_lc, ap_yes, ap_cut, ap_gTupH, ap_fmt, ap_jsn, ap_jsc, ap_gcd, ap_isqrt, ap_ixL, tyV_l, wipe_nil, wipe_cons, upd_same, ap_iEnT, ap_iEnL, ap_iZipA, ap_all, ap_tupT, ap_attF, ap_makeL, ap_att, ap_prop, ap_isO, ap_bin, ap_ne, ap_meth, ap_make, ins_inj, FE_inj, ap_slI, ap_catI, ap_perm, ap_lenO, ap_strO, ap_listO, ap_reprB, ap_iterT, ap_neT, ap_negO, ap_binI, ap_catL, ap_tM1, ap_repTI, ap_popN, ap_par3, ap_catTT, ap_repTA, ap_countT, ap_notInT, ap_repL1, ap_cm, ap_shl, ap_shr, ap_mask, ap_comb, ap_bits, ap_rng3, List.set_cons_zero, List.set_cons_succ, List.getElem?_cons_zero, List.getElem?_cons_succ, List.cons_append, List.nil_append, List.append_nil, Option.some.injEq, V.int.injEq, V.ref.injEq, V.bl.injEq, V.str.injEq, V.ty.injEq, Bool.not_true, Bool.not_false, HO.lst.injEq, HO.tup.injEq, reduceCtorEq, Int.reduceToNat, Int.reduceLT, Int.reduceLE, Nat.reduceAdd, Int.cast_ofNat_Int, gi_c0, gi_c1, gi_c2, gi_c3, Int.natCast_inj, map_int_inj, map_nil_iff, List.cons.injEq, exists_eq_left, exists_eq_left', exists_eq, exists_eq', exists_and_left, exists_and_right, exists_const, and_assoc, and_true, true_and, and_false, false_and, or_false, false_or, or_true, true_or, ite_true, ite_false, if_true, if_false, Bool.false_eq_true, own_cons, own_nil, le1, le2, le3, le4, me_cons, me_nil, List.length_map, List.length_cons, List.length_nil, ne_eq, not_false_eq_true, not_true_eq_false, decide_eq_true_eq]
    refine ⟨rfl, iteC (fun c => ?_) (fun _ => ?_)⟩
    · rw [Int.toNat_natCast]
      refine ⟨by omega, by omega, lc_rangeT (fun ns => ns.length = 2 ∧ l1 ns ≤ 6) (by omega) D1 (fun x => rfl) (fun i H2 hi ex2 D2 Q' k' => ?_) (fun A H2 rs nss nA ex2 D2 ln hR eA rw1 => ?_)⟩
      · simp only [ap_seq, ap_next, ap_asg, ap_gName, ap_ret, ap_retN, ap_drop, ap_ifS, ap_break, ap_cont, ap_par, ap_aug, ap_ip, ap_gSub, ap_gTup, ap_gNil, ap_gCons, ap_var, ap_c, ap_op, ap_un, ap_if, ap_test, ap_B, ap_and, ap_or, ap_not, ap_andV, ap_orV, ap_notV, ap_nil, ap_cons, ap_tup, ap_lst, ap_cb, ap_bm, ap_call, ap_chain, ap_rI, ap_rI0, ap_rU, ap_rEq, ap_rNe, ap_revT, ap_sl, ap_part, ap_noPart, ap_ixLI, ap_ixTI, ap_ixLV, ap_ixTV, ap_len, ap_setLI, ap_setLV, ap_appI, ap_appV, ap_tupL, ap_listS, ap_sumLI, ap_sumTI, ap_repLI, ap_intI, ap_intB, ap_eqTI, ap_neTI, ap_eqLI, ap_neLI, ap_isi, ap_for, ap_rng1, ap_rng2, ap_iList, ap_iTup, ap_lc, ap_yes, ap_cut, ap_gTupH, ap_fmt, ap_jsn, ap_jsc, ap_gcd, ap_isqrt, ap_ixL, tyV_l, wipe_nil, wipe_cons, upd_same, ap_iEnT, ap_iEnL, ap_iZipA, ap_all, ap_tupT, ap_attF, ap_makeL, ap_att, ap_prop, ap_isO, ap_bin, ap_ne, ap_meth, ap_make, ins_inj, FE_inj, ap_slI, ap_catI, ap_perm, ap_lenO, ap_strO, ap_listO, ap_reprB, ap_iterT, ap_neT, ap_negO, ap_binI, ap_catL, ap_tM1, ap_repTI, ap_popN, ap_par3, ap_catTT, ap_repTA, ap_countT, ap_notInT, ap_repL1, ap_cm, ap_shl, ap_shr, ap_mask, ap_comb, ap_bits, ap_rng3, List.set_cons_zero, List.set_cons_succ, List.getElem?_cons_zero, List.getElem?_cons_succ, List.cons_append, List.nil_append, List.append_nil, Option.some.injEq, V.int.injEq, V.ref.injEq, V.bl.injEq, V.str.injEq, V.ty.injEq, Bool.not_true, Bool.not_false, HO.lst.injEq, HO.tup.injEq, reduceCtorEq, Int.reduceToNat, Int.reduceLT, Int.reduceLE, Nat.reduceAdd, Int.cast_ofNat_Int, gi_c0, gi_c1, gi_c2, gi_c3, Int.natCast_inj, map_int_inj, map_nil_iff, List.cons.injEq, exists_eq_left, exists_eq_left', exists_eq, exists_eq', exists_and_left, exists_and_right, exists_const, and_assoc, and_true, true_and, and_false, false_and, or_false, false_or, or_true, true_or, ite_true, ite_false, if_true, if_false, Bool.false_eq_true, own_cons, own_nil, le1, le2, le3, le4, me_cons, me_nil, List.length_map, List.length_cons, List.length_nil, ne_eq, not_false_eq_true, not_true_eq_false, decide_eq_true_eq]
        refine ⟨d, 3, rfl, D2, by omega, by omega, fun H3 r a b ex3 D3 nr er pt => ?_⟩
        simp only [ap_seq, ap_next, ap_asg, ap_gName, ap_ret, ap_retN, ap_drop, ap_ifS, ap_break, ap_cont, ap_par, ap_aug, ap_ip, ap_gSub, ap_gTup, ap_gNil, ap_gCons, ap_var, ap_c, ap_op, ap_un, ap_if, ap_test, ap_B, ap_and, ap_or, ap_not, ap_andV, ap_orV, ap_notV, ap_nil, ap_cons, ap_tup, ap_lst, ap_cb, ap_bm, ap_call, ap_chain, ap_rI, ap_rI0, ap_rU, ap_rEq, ap_rNe, ap_revT, ap_sl, ap_part, ap_noPart, ap_ixLI, ap_ixTI, ap_ixLV, ap_ixTV, ap_len, ap_setLI, ap_setLV, ap_appI, ap_appV, ap_tupL, ap_listS, ap_sumLI, ap_sumTI, ap_repLI, ap_intI, ap_intB, ap_eqTI, ap_neTI, ap_eqLI, ap_neLI, ap_isi, ap_for, ap_rng1, ap_rng2, ap_iList, ap_iTup, ap_lc, ap_yes, ap_cut, ap_gTupH, ap_fmt, ap_jsn, ap_jsc, ap_gcd, ap_isqrt, ap_ixL, tyV_l, wipe_nil, wipe_cons, upd_same, ap_iEnT, ap_iEnL, ap_iZipA, ap_all, ap_tupT, ap_attF, ap_makeL, ap_att, ap_prop, ap_isO, ap_bin, ap_ne, ap_meth, ap_make, ins_inj, FE_inj, ap_slI, ap_catI, ap_perm, ap_lenO, ap_strO, ap_listO, ap_reprB, ap_iterT, ap_neT, ap_negO, ap_binI, ap_catL, ap_tM1, ap_repTI, ap_popN, ap_par3, ap_catTT, ap_repTA, ap_countT, ap_notInT, ap_repL1, ap_cm, ap_shl, ap_shr, ap_mask, ap_comb, ap_bits, ap_rng3, List.set_cons_zero, List.set_cons_succ, List.getElem?_cons_zero, List.getElem?_cons_succ, List.cons_append, List.nil_append, List.append_nil, Option.some.injEq, V.int.injEq, V.ref.injEq, V.bl.injEq, V.str.injEq, V.ty.injEq, Bool.not_true, Bool.not_false, HO.lst.injEq, HO.tup.injEq, reduceCtorEq, Int.reduceToNat, Int.reduceLT, Int.reduceLE, Nat.reduceAdd, Int.cast_ofNat_Int, gi_c0, gi_c1, gi_c2, gi_c3, Int.natCast_inj, map_int_inj, map_nil_iff, List.cons.injEq, exists_eq_left, exists_eq_left', exists_eq, exists_eq', exists_and_left, exists_and_right, exists_const, and_assoc, and_true, true_and, and_false, false_and, or_false, false_or, or_true, true_or, ite_true, ite_false, if_true, if_false, Bool.false_eq_true, own_cons, own_nil, le1, le2, le3, le4, me_cons, me_nil, List.length_map, List.length_cons, List.length_nil, ne_eq, not_false_eq_true, not_true_eq_false, decide_eq_true_eq]
        refine ⟨r, a, b, rfl, er, fun H4 r2 s4 nr2 er2 => ?_⟩
        exact k' H4 r2 [b, 0 - a] (ex3.trans (.same s4)) (D3.same s4) er2 (not_dice D3 nr2) ⟨rfl, line_l1 pt⟩
      · have b40 : (6 : Nat) ^ 12 < 10 ^ 50 := by decide
        have b45 : (6 : Nat) ^ 12 ≤ 10 ^ 13 := by decide
        refine ⟨A, rs, nss, rfl, eA, rw1.1, fun i r ns e1 e2 => ?_, fun H' r s' nr er => ?_⟩
        · obtain ⟨c1, c2⟩ := rw1.2 i r ns e1 e2
          have q := hR ns (List.mem_of_getElem? e2)
          have tk : ∀ ms ∈ nss.take i, ms.length = 1 + 1 := fun ms hm => (hR ms (List.mem_of_mem_take hm)).1
          have len := allP_len tk
          have lb := l1_allP (nss := nss.take i) (L := 6) fun ms hm => (hR ms (List.mem_of_mem_take hm)).2
          have li : (nss.take i).length ≤ 12 := by rw [List.length_take]; omega
          exact ⟨c1, by omega, by omega, fun n hn => (l1_wd q.2 (by omega) n hn).wd, by omega, by omega, fun n hn => (l1_wd (Nat.le_trans lb (pow6 li)) b40 n hn).wd⟩
        · have len := allP_len (nss := nss) (n := 1) fun ms hm => (hR ms hm).1
          have lb := l1_allP (nss := nss) (L := 6) fun ms hm => (hR ms hm).2
          exact k H' r (allP nss) ((ex1.trans ex2).trans (.same s')) (D2.same s') (free_ex (ex1.trans ex2) D2 nr) ⟨by omega, l1_bd (Nat.le_trans lb (pow6 (by omega))) b45⟩ er
    refine ⟨rfl, iteC (fun c => ?_) (fun _ => ?_)⟩
    · refine ⟨d, 3, rfl, D1, by omega, by omega, fun H2 r a b ex2 D2 nr er pt => ?_⟩
      simp only [ap_seq, ap_next, ap_asg, ap_gName, ap_ret, ap_retN, ap_drop, ap_ifS, ap_break, ap_cont, ap_par, ap_aug, ap_ip, ap_gSub, ap_gTup, ap_gNil, ap_gCons, ap_var, ap_c, ap_op, ap_un, ap_if, ap_test, ap_B, ap_and, ap_or, ap_not, ap_andV, ap_orV, ap_notV, ap_nil, ap_cons, ap_tup, ap_lst, ap_cb, ap_bm, ap_call, ap_chain, ap_rI, ap_rI0, ap_rU, ap_rEq, ap_rNe, ap_revT, ap_sl, ap_part, ap_noPart, ap_ixLI, ap_ixTI, ap_ixLV, ap_ixTV, ap_len, ap_setLI, ap_setLV, ap_appI, ap_appV, ap_tupL, ap_listS, ap_sumLI, ap_sumTI, ap_repLI, ap_intI, ap_intB, ap_eqTI, ap_neTI, ap_eqLI, ap_neLI, ap_isi, ap_for, ap_rng1, ap_rng2, ap_iList, ap_iTup, ap_lc, ap_yes, ap_cut, ap_gTupH, ap_fmt, ap_jsn, ap_jsc, ap_gcd, ap_isqrt, ap_ixL, tyV_l, wipe_nil, wipe_cons, upd_same, ap_iEnT, ap_iEnL, ap_iZipA, ap_all, ap_tupT, ap_attF, ap_makeL, ap_att, ap_prop, ap_isO, ap_bin, ap_ne, ap_meth, ap_make, ins_inj, FE_inj, ap_slI, ap_catI, ap_perm, ap_lenO, ap_strO, ap_listO, ap_reprB, ap_iterT, ap_neT, ap_negO, ap_binI, ap_catL, ap_tM1, ap_repTI, ap_popN, ap_par3, ap_catTT, ap_repTA, ap_countT, ap_notInT, ap_repL1, ap_cm, ap_shl, ap_shr, ap_mask, ap_comb, ap_bits, ap_rng3, List.set_cons_zero, List.set_cons_succ, List.getElem?_cons_zero, List.getElem?_cons_succ, List.cons_append, List.nil_append, List.append_nil, Option.some.injEq, V.int.injEq, V.ref.injEq, V.bl.injEq, V.str.injEq, V.ty.injEq, Bool.not_true, Bool.not_false, HO.lst.injEq, HO.tup.injEq, reduceCtorEq, Int.reduceToNat, Int.reduceLT, Int.reduceLE, Nat.reduceAdd, Int.cast_ofNat_Int, gi_c0, gi_c1, gi_c2, gi_c3, Int.natCast_inj, map_int_inj, map_nil_iff, List.cons.injEq, exists_eq_left, exists_eq_left', exists_eq, exists_eq', exists_and_left, exists_and_right, exists_const, and_assoc, and_true, true_and, and_false, false_and, or_false, false_or, or_true, true_or, ite_true, ite_false, if_true, if_false, Bool.false_eq_true, own_cons, own_nil, le1, le2, le3, le4, me_cons, me_nil, List.length_map, List.length_cons, List.length_nil, ne_eq, not_false_eq_true, not_true_eq_false, decide_eq_true_eq]
      refine ⟨r, a, b, rfl, er, fun H3 r2 s3 nr2 er2 => ?_⟩
      have D3 := D2.same s3
      simp only [ap_seq, ap_next, ap_asg, ap_gName, ap_ret, ap_retN, ap_drop, ap_ifS, ap_break, ap_cont, ap_par, ap_aug, ap_ip, ap_gSub, ap_gTup, ap_gNil, ap_gCons, ap_var, ap_c, ap_op, ap_un, ap_if, ap_test, ap_B, ap_and, ap_or, ap_not, ap_andV, ap_orV, ap_notV, ap_nil, ap_cons, ap_tup, ap_lst, ap_cb, ap_bm, ap_call, ap_chain, ap_rI, ap_rI0, ap_rU, ap_rEq, ap_rNe, ap_revT, ap_sl, ap_part, ap_noPart, ap_ixLI, ap_ixTI, ap_ixLV, ap_ixTV, ap_len, ap_setLI, ap_setLV, ap_appI, ap_appV, ap_tupL, ap_listS, ap_sumLI, ap_sumTI, ap_repLI, ap_intI, ap_intB, ap_eqTI, ap_neTI, ap_eqLI, ap_neLI, ap_isi, ap_for, ap_rng1, ap_rng2, ap_iList, ap_iTup, ap_lc, ap_yes, ap_cut, ap_gTupH, ap_fmt, ap_jsn, ap_jsc, ap_gcd, ap_isqrt, ap_ixL, tyV_l, wipe_nil, wipe_cons, upd_same, ap_iEnT, ap_iEnL, ap_iZipA, ap_all, ap_tupT, ap_attF, ap_makeL, ap_att, ap_prop, ap_isO, ap_bin, ap_ne, ap_meth, ap_make, ins_inj, FE_inj, ap_slI, ap_catI, ap_perm, ap_lenO, ap_strO, ap_listO, ap_reprB, ap_iterT, ap_neT, ap_negO, ap_binI, ap_catL, ap_tM1, ap_repTI, ap_popN, ap_par3, ap_catTT, ap_repTA, ap_countT, ap_notInT, ap_repL1, ap_cm, ap_shl, ap_shr, ap_mask, ap_comb, ap_bits, ap_rng3, List.set_cons_zero, List.set_cons_succ, List.getElem?_cons_zero, List.getElem?_cons_succ, List.cons_append, List.nil_append, List.append_nil, Option.some.injEq, V.int.injEq, V.ref.injEq, V.bl.injEq, V.str.injEq, V.ty.injEq, Bool.not_true, Bool.not_false, HO.lst.injEq, HO.tup.injEq, reduceCtorEq, Int.reduceToNat, Int.reduceLT, Int.reduceLE, Nat.reduceAdd, Int.cast_ofNat_Int, gi_c0, gi_c1, gi_c2, gi_c3, Int.natCast_inj, map_int_inj, map_nil_iff, List.cons.injEq, exists_eq_left, exists_eq_left', exists_eq, exists_eq', exists_and_left, exists_and_right, exists_const, and_assoc, and_true, true_and, and_false, false_and, or_false, false_or, or_true, true_or, ite_true, ite_false, if_true, if_false, Bool.false_eq_true, own_cons, own_nil, le1, le2, le3, le4, me_cons, me_nil, List.length_map, List.length_cons, List.length_nil, ne_eq, not_false_eq_true, not_true_eq_false, decide_eq_true_eq]
      refine ⟨d, (n : Int) + 1, rfl, D3, by omega, by omega, fun H4 o ex4 D4 o0 o1 => ?_⟩
      obtain ⟨o, rfl⟩ := Int.eq_ofNat_of_zero_le o0
      have lo : o ≤ n := by omega
      have lp := line_l1 pt
      have b40 : (6 : Nat) ^ 12 < 10 ^ 50 := by decide
      simp only [ap_seq, ap_next, ap_asg, ap_gName, ap_ret, ap_retN, ap_drop, ap_ifS, ap_break, ap_cont, ap_par, ap_aug, ap_ip, ap_gSub, ap_gTup, ap_gNil, ap_gCons, ap_var, ap_c, ap_op, ap_un, ap_if, ap_test, ap_B, ap_and, ap_or, ap_not, ap_andV, ap_orV, ap_notV, ap_nil, ap_cons, ap_tup, ap_lst, ap_cb, ap_bm, ap_call, ap_chain, ap_rI, ap_rI0, ap_rU, ap_rEq, ap_rNe, ap_revT, ap_sl, ap_part, ap_noPart, ap_ixLI, ap_ixTI, ap_ixLV, ap_ixTV, ap_len, ap_setLI, ap_setLV, ap_appI, ap_appV, ap_tupL, ap_listS, ap_sumLI, ap_sumTI, ap_repLI, ap_intI, ap_intB, ap_eqTI, ap_neTI, ap_eqLI, ap_neLI, ap_isi, ap_for, ap_rng1, ap_rng2, ap_iList, ap_iTup, ap_lc, ap_yes, ap_cut, ap_gTupH, ap_fmt, ap_jsn, ap_jsc, ap_gcd, ap_isqrt, ap_ixL, tyV_l, wipe_nil, wipe_cons, upd_same, ap_iEnT, ap_iEnL, ap_iZipA, ap_all, ap_tupT, ap_attF, ap_makeL, ap_att, ap_prop, ap_isO, ap_bin, ap_ne, ap_meth, ap_make, ins_inj, FE_inj, ap_slI, ap_catI, ap_perm, ap_lenO, ap_strO, ap_listO, ap_reprB, ap_iterT, ap_neT, ap_negO, ap_binI, ap_catL, ap_tM1, ap_repTI, ap_popN, ap_par3, ap_catTT, ap_repTA, ap_countT, ap_notInT, ap_repL1, ap_cm, ap_shl, ap_shr, ap_mask, ap_comb, ap_bits, ap_rng3, List.set_cons_zero, List.set_cons_succ, List.getElem?_cons_zero, List.getElem?_cons_succ, List.cons_append, List.nil_append, List.append_nil, Option.some.injEq, V.int.injEq, V.ref.injEq, V.bl.injEq, V.str.injEq, V.ty.injEq, Bool.not_true, Bool.not_false, HO.lst.injEq, HO.tup.injEq, reduceCtorEq, Int.reduceToNat, Int.reduceLT, Int.reduceLE, Nat.reduceAdd, Int.cast_ofNat_Int, gi_c0, gi_c1, gi_c2, gi_c3, Int.natCast_inj, map_int_inj, map_nil_iff, List.cons.injEq, exists_eq_left, exists_eq_left', exists_eq, exists_eq', exists_and_left, exists_and_right, exists_const, and_assoc, and_true, true_and, and_false, false_and, or_false, false_or, or_true, true_or, ite_true, ite_false, if_true, if_false, Bool.false_eq_true, own_cons, own_nil, le1, le2, le3, le4, me_cons, me_nil, List.length_map, List.length_cons, List.length_nil, ne_eq, not_false_eq_true, not_true_eq_false, decide_eq_true_eq]
      refine ⟨r2, [b, 0 - a], o, rfl, ex4 _ _ (not_dice D2 nr2) er2, by show 0 < 2; omega, by show 2 < 1000; omega, by omega, fun j hj => ⟨by rw [(pow_ok (ns := [b, 0 - a]) rfl lp (k := j) (by omega)).1]; omega, fun m hm => (pow_wd (ns := [b, 0 - a]) rfl lp (k := j) (by omega) m hm).wd⟩, fun m hm => (l1_wd lp (by omega) m hm).wd, fun H5 r5 s5 nr5 er5 => ?_⟩
      have D5 := D4.same s5
      simp only [ap_seq, ap_next, ap_asg, ap_gName, ap_ret, ap_retN, ap_drop, ap_ifS, ap_break, ap_cont, ap_par, ap_aug, ap_ip, ap_gSub, ap_gTup, ap_gNil, ap_gCons, ap_var, ap_c, ap_op, ap_un, ap_if, ap_test, ap_B, ap_and, ap_or, ap_not, ap_andV, ap_orV, ap_notV, ap_nil, ap_cons, ap_tup, ap_lst, ap_cb, ap_bm, ap_call, ap_chain, ap_rI, ap_rI0, ap_rU, ap_rEq, ap_rNe, ap_revT, ap_sl, ap_part, ap_noPart, ap_ixLI, ap_ixTI, ap_ixLV, ap_ixTV, ap_len, ap_setLI, ap_setLV, ap_appI, ap_appV, ap_tupL, ap_listS, ap_sumLI, ap_sumTI, ap_repLI, ap_intI, ap_intB, ap_eqTI, ap_neTI, ap_eqLI, ap_neLI, ap_isi, ap_for, ap_rng1, ap_rng2, ap_iList, ap_iTup, ap_lc, ap_yes, ap_cut, ap_gTupH, ap_fmt, ap_jsn, ap_jsc, ap_gcd, ap_isqrt, ap_ixL, tyV_l, wipe_nil, wipe_cons, upd_same, ap_iEnT, ap_iEnL, ap_iZipA, ap_all, ap_tupT, ap_attF, ap_makeL, ap_att, ap_prop, ap_isO, ap_bin, ap_ne, ap_meth, ap_make, ins_inj, FE_inj, ap_slI, ap_catI, ap_perm, ap_lenO, ap_strO, ap_listO, ap_reprB, ap_iterT, ap_neT, ap_negO, ap_binI, ap_catL, ap_tM1, ap_repTI, ap_popN, ap_par3, ap_catTT, ap_repTA, ap_countT, ap_notInT, ap_repL1, ap_cm, ap_shl, ap_shr, ap_mask, ap_comb, ap_bits, ap_rng3, List.set_cons_zero, List.set_cons_succ, List.getElem?_cons_zero, List.getElem?_cons_succ, List.cons_append, List.nil_append, List.append_nil, Option.some.injEq, V.int.injEq, V.ref.injEq, V.bl.injEq, V.str.injEq, V.ty.injEq, Bool.not_true, Bool.not_false, HO.lst.injEq, HO.tup.injEq, reduceCtorEq, Int.reduceToNat, Int.reduceLT, Int.reduceLE, Nat.reduceAdd, Int.cast_ofNat_Int, gi_c0, gi_c1, gi_c2, gi_c3, Int.natCast_inj, map_int_inj, map_nil_iff, List.cons.injEq, exists_eq_left, exists_eq_left', exists_eq, exists_eq', exists_and_left, exists_and_right, exists_const, and_assoc, and_true, true_and, and_false, false_and, or_false, false_or, or_true, true_or, ite_true, ite_false, if_true, if_false, Bool.false_eq_true, own_cons, own_nil, le1, le2, le3, le4, me_cons, me_nil, List.length_map, List.length_cons, List.length_nil, ne_eq, not_false_eq_true, not_true_eq_false, decide_eq_true_eq]
      have eno : (n : Int) - (o : Int) = ((n - o : Nat) : Int) := by omega
      rw [eno]
      refine ⟨d, n - o, 4, rfl, D5, by omega, by omega, by omega, fun H6 r6 ms ex6 D6 nr6 lm bm er6 => ?_⟩
      have po := pow_ok (ns := [b, 0 - a]) rfl lp (k := o) (by omega)
      have lms := l1_Bd (m := 4) bm
      have lms2 : l1 ms ≤ 164 := by
        rw [lm] at lms
        omega
      refine ⟨r5, r6, powP [b, 0 - a] o, ms, rfl, ex6 _ _ (not_dice D4 nr5) er5, er6, by omega, by omega, by omega, by omega, fun m hm => (l1_wd po.2 b40 m hm).wd, fun m hm => (l1_wd lms2 (by omega) m hm).wd, fun H7 r7 s7 nr7 er7 => ?_⟩
      have EX := ((((ex1.trans ex2).trans (.same s3)).trans ex4).trans (.same s5)).trans ex6
      refine k H7 r7 _ (EX.trans (.same s7)) (D6.same s7) (free_ex EX D6 nr7) ⟨by rw [mulP_len]; omega, ?_⟩ er7
      have lb := Nat.le_trans (l1_mulP (powP [b, 0 - a] o) ms) (Nat.mul_le_mul po.2 lms2)
      exact l1_bd lb (by decide)
    refine ⟨rfl, iteC (fun c => ?_) (fun _ => ?_)⟩
    · have en : ((n : Int) + 1).toNat = n + 1 := by omega
      rw [en]
      refine ⟨by omega, by omega, lc_rangeI (fun _ => 0) (by omega) (fun x => rfl) (fun i G hi sm Q' k' => ?_) (fun A G nA sm eA => ?_)⟩
      · simp only [ap_seq, ap_next, ap_asg, ap_gName, ap_ret, ap_retN, ap_drop, ap_ifS, ap_break, ap_cont, ap_par, ap_aug, ap_ip, ap_gSub, ap_gTup, ap_gNil, ap_gCons, ap_var, ap_c, ap_op, ap_un, ap_if, ap_test, ap_B, ap_and, ap_or, ap_not, ap_andV, ap_orV, ap_notV, ap_nil, ap_cons, ap_tup, ap_lst, ap_cb, ap_bm, ap_call, ap_chain, ap_rI, ap_rI0, ap_rU, ap_rEq, ap_rNe, ap_revT, ap_sl, ap_part, ap_noPart, ap_ixLI, ap_ixTI, ap_ixLV, ap_ixTV, ap_len, ap_setLI, ap_setLV, ap_appI, ap_appV, ap_tupL, ap_listS, ap_sumLI, ap_sumTI, ap_repLI, ap_intI, ap_intB, ap_eqTI, ap_neTI, ap_eqLI, ap_neLI, ap_isi, ap_for, ap_rng1, ap_rng2, ap_iList, ap_iTup, ap_lc, ap_yes, ap_cut, ap_gTupH, ap_fmt, ap_jsn, ap_jsc, ap_gcd, ap_isqrt, ap_ixL, tyV_l, wipe_nil, wipe_cons, upd_same, ap_iEnT, ap_iEnL, ap_iZipA, ap_all, ap_tupT, ap_attF, ap_makeL, ap_att, ap_prop, ap_isO, ap_bin, ap_ne, ap_meth, ap_make, ins_inj, FE_inj, ap_slI, ap_catI, ap_perm, ap_lenO, ap_strO, ap_listO, ap_reprB, ap_iterT, ap_neT, ap_negO, ap_binI, ap_catL, ap_tM1, ap_repTI, ap_popN, ap_par3, ap_catTT, ap_repTA, ap_countT, ap_notInT, ap_repL1, ap_cm, ap_shl, ap_shr, ap_mask, ap_comb, ap_bits, ap_rng3, List.set_cons_zero, List.set_cons_succ, List.getElem?_cons_zero, List.getElem?_cons_succ, List.cons_append, List.nil_append, List.append_nil, Option.some.injEq, V.int.injEq, V.ref.injEq, V.bl.injEq, V.str.injEq, V.ty.injEq, Bool.not_true, Bool.not_false, HO.lst.injEq, HO.tup.injEq, reduceCtorEq, Int.reduceToNat, Int.reduceLT, Int.reduceLE, Nat.reduceAdd, Int.cast_ofNat_Int, gi_c0, gi_c1, gi_c2, gi_c3, Int.natCast_inj, map_int_inj, map_nil_iff, List.cons.injEq, exists_eq_left, exists_eq_left', exists_eq, exists_eq', exists_and_left, exists_and_right, exists_const, and_assoc, and_true, true_and, and_false, false_and, or_false, false_or, or_true, true_or, ite_true, ite_false, if_true, if_false, Bool.false_eq_true, own_cons, own_nil, le1, le2, le3, le4, me_cons, me_nil, List.length_map, List.length_cons, List.length_nil, ne_eq, not_false_eq_true, not_true_eq_false, decide_eq_true_eq]
        exact k' G (Same.refl G)
      · refine ⟨A, rfl, _, eA, fun l nl => ?_⟩
        have s1 := sm.trans (same_upd (o := TI ((List.range (n + 1)).map fun _ => (0 : Int))) nl)
        have D2 := D1.same s1
        have el : upd G l (TI ((List.range (n + 1)).map fun _ => (0 : Int))) l = some (TI ((List.range (n + 1)).map fun _ => (0 : Int))) := upd_same
        have ld : l ≠ d := not_dice D1 (free_of sm nl)
        have fl : H l = none := free_ex ex1 D1 (free_of sm nl)
        refine ⟨d, 3, rfl, D2, by omega, by omega, fun H2 o ex2 D3 o0 o1 => ⟨o, rfl, by omega, by omega, ?_⟩⟩
        refine loop_range (fun i σ' H' => (∃ r ns y, σ' = [some (V.ref d), some (V.int (n : Nat)), some (V.int x), none, none, some (V.ref r), y, none] ∧ H r = none ∧ H' r = some (TI ns) ∧ ns.length = n + 1 ∧ Bd ((i : Int) * (4 * 6 ^ 12)) ns) ∧ Exc d H H' ∧ Dc H' d) ⟨⟨l, _, none, rfl, fl, ex2 _ _ ld el, by simp, fun m hm => ?_⟩, (ex1.trans (.same s1)).trans ex2, D3⟩ (fun i σ' G2 hi hP => ?_) (fun σ' G2 hP => ?_)
        · obtain ⟨_, _, rfl⟩ := List.mem_map.mp hm
          omega
        · obtain ⟨⟨r, ns, y, e, nr, er, ln, bn⟩, ex, dc⟩ := hP
          subst e
          have rd := not_dice hD nr
          simp only [ap_seq, ap_next, ap_asg, ap_gName, ap_ret, ap_retN, ap_drop, ap_ifS, ap_break, ap_cont, ap_par, ap_aug, ap_ip, ap_gSub, ap_gTup, ap_gNil, ap_gCons, ap_var, ap_c, ap_op, ap_un, ap_if, ap_test, ap_B, ap_and, ap_or, ap_not, ap_andV, ap_orV, ap_notV, ap_nil, ap_cons, ap_tup, ap_lst, ap_cb, ap_bm, ap_call, ap_chain, ap_rI, ap_rI0, ap_rU, ap_rEq, ap_rNe, ap_revT, ap_sl, ap_part, ap_noPart, ap_ixLI, ap_ixTI, ap_ixLV, ap_ixTV, ap_len, ap_setLI, ap_setLV, ap_appI, ap_appV, ap_tupL, ap_listS, ap_sumLI, ap_sumTI, ap_repLI, ap_intI, ap_intB, ap_eqTI, ap_neTI, ap_eqLI, ap_neLI, ap_isi, ap_for, ap_rng1, ap_rng2, ap_iList, ap_iTup, ap_lc, ap_yes, ap_cut, ap_gTupH, ap_fmt, ap_jsn, ap_jsc, ap_gcd, ap_isqrt, ap_ixL, tyV_l, wipe_nil, wipe_cons, upd_same, ap_iEnT, ap_iEnL, ap_iZipA, ap_all, ap_tupT, ap_attF, ap_makeL, ap_att, ap_prop, ap_isO, ap_bin, ap_ne, ap_meth, ap_make, ins_inj, FE_inj, ap_slI, ap_catI, ap_perm, ap_lenO, ap_strO, ap_listO, ap_reprB, ap_iterT, ap_neT, ap_negO, ap_binI, ap_catL, ap_tM1, ap_repTI, ap_popN, ap_par3, ap_catTT, ap_repTA, ap_countT, ap_notInT, ap_repL1, ap_cm, ap_shl, ap_shr, ap_mask, ap_comb, ap_bits, ap_rng3, List.set_cons_zero, List.set_cons_succ, List.getElem?_cons_zero, List.getElem?_cons_succ, List.cons_append, List.nil_append, List.append_nil, Option.some.injEq, V.int.injEq, V.ref.injEq, V.bl.injEq, V.str.injEq, V.ty.injEq, Bool.not_true, Bool.not_false, HO.lst.injEq, HO.tup.injEq, reduceCtorEq, Int.reduceToNat, Int.reduceLT, Int.reduceLE, Nat.reduceAdd, Int.cast_ofNat_Int, gi_c0, gi_c1, gi_c2, gi_c3, Int.natCast_inj, map_int_inj, map_nil_iff, List.cons.injEq, exists_eq_left, exists_eq_left', exists_eq, exists_eq', exists_and_left, exists_and_right, exists_const, and_assoc, and_true, true_and, and_false, false_and, or_false, false_or, or_true, true_or, ite_true, ite_false, if_true, if_false, Bool.false_eq_true, own_cons, own_nil, le1, le2, le3, le4, me_cons, me_nil, List.length_map, List.length_cons, List.length_nil, ne_eq, not_false_eq_true, not_true_eq_false, decide_eq_true_eq]
          refine ⟨d, 3, rfl, dc, by omega, by omega, fun H3 p a b ex3 D3 np ep pt => ?_⟩
          have lp := point_l1 pt
          have po := pow_ok (ns := [a, b]) rfl lp (k := n) hn
          simp only [ap_seq, ap_next, ap_asg, ap_gName, ap_ret, ap_retN, ap_drop, ap_ifS, ap_break, ap_cont, ap_par, ap_aug, ap_ip, ap_gSub, ap_gTup, ap_gNil, ap_gCons, ap_var, ap_c, ap_op, ap_un, ap_if, ap_test, ap_B, ap_and, ap_or, ap_not, ap_andV, ap_orV, ap_notV, ap_nil, ap_cons, ap_tup, ap_lst, ap_cb, ap_bm, ap_call, ap_chain, ap_rI, ap_rI0, ap_rU, ap_rEq, ap_rNe, ap_revT, ap_sl, ap_part, ap_noPart, ap_ixLI, ap_ixTI, ap_ixLV, ap_ixTV, ap_len, ap_setLI, ap_setLV, ap_appI, ap_appV, ap_tupL, ap_listS, ap_sumLI, ap_sumTI, ap_repLI, ap_intI, ap_intB, ap_eqTI, ap_neTI, ap_eqLI, ap_neLI, ap_isi, ap_for, ap_rng1, ap_rng2, ap_iList, ap_iTup, ap_lc, ap_yes, ap_cut, ap_gTupH, ap_fmt, ap_jsn, ap_jsc, ap_gcd, ap_isqrt, ap_ixL, tyV_l, wipe_nil, wipe_cons, upd_same, ap_iEnT, ap_iEnL, ap_iZipA, ap_all, ap_tupT, ap_attF, ap_makeL, ap_att, ap_prop, ap_isO, ap_bin, ap_ne, ap_meth, ap_make, ins_inj, FE_inj, ap_slI, ap_catI, ap_perm, ap_lenO, ap_strO, ap_listO, ap_reprB, ap_iterT, ap_neT, ap_negO, ap_binI, ap_catL, ap_tM1, ap_repTI, ap_popN, ap_par3, ap_catTT, ap_repTA, ap_countT, ap_notInT, ap_repL1, ap_cm, ap_shl, ap_shr, ap_mask, ap_comb, ap_bits, ap_rng3, List.set_cons_zero, List.set_cons_succ, List.getElem?_cons_zero, List.getElem?_cons_succ, List.cons_append, List.nil_append, List.append_nil, Option.some.injEq, V.int.injEq, V.ref.injEq, V.bl.injEq, V.str.injEq, V.ty.injEq, Bool.not_true, Bool.not_false, HO.lst.injEq, HO.tup.injEq, reduceCtorEq, Int.reduceToNat, Int.reduceLT, Int.reduceLE, Nat.reduceAdd, Int.cast_ofNat_Int, gi_c0, gi_c1, gi_c2, gi_c3, Int.natCast_inj, map_int_inj, map_nil_iff, List.cons.injEq, exists_eq_left, exists_eq_left', exists_eq, exists_eq', exists_and_left, exists_and_right, exists_const, and_assoc, and_true, true_and, and_false, false_and, or_false, false_or, or_true, true_or, ite_true, ite_false, if_true, if_false, Bool.false_eq_true, own_cons, own_nil, le1, le2, le3, le4, me_cons, me_nil, List.length_map, List.length_cons, List.length_nil, ne_eq, not_false_eq_true, not_true_eq_false, decide_eq_true_eq]
          refine ⟨p, [a, b], n, rfl, ep, by show 0 < 2; omega, by show 2 < 1000; omega, by omega, fun j hj => ⟨by rw [(pow_ok (ns := [a, b]) rfl lp (k := j) (by omega)).1]; omega, fun m hm => (pow_wd (ns := [a, b]) rfl lp (k := j) (by omega) m hm).wd⟩, fun m hm => (l1_wd lp (by omega) m hm).wd, fun H4 q s4 nq eq => ?_⟩
          have D4 := D3.same s4
          simp only [ap_seq, ap_next, ap_asg, ap_gName, ap_ret, ap_retN, ap_drop, ap_ifS, ap_break, ap_cont, ap_par, ap_aug, ap_ip, ap_gSub, ap_gTup, ap_gNil, ap_gCons, ap_var, ap_c, ap_op, ap_un, ap_if, ap_test, ap_B, ap_and, ap_or, ap_not, ap_andV, ap_orV, ap_notV, ap_nil, ap_cons, ap_tup, ap_lst, ap_cb, ap_bm, ap_call, ap_chain, ap_rI, ap_rI0, ap_rU, ap_rEq, ap_rNe, ap_revT, ap_sl, ap_part, ap_noPart, ap_ixLI, ap_ixTI, ap_ixLV, ap_ixTV, ap_len, ap_setLI, ap_setLV, ap_appI, ap_appV, ap_tupL, ap_listS, ap_sumLI, ap_sumTI, ap_repLI, ap_intI, ap_intB, ap_eqTI, ap_neTI, ap_eqLI, ap_neLI, ap_isi, ap_for, ap_rng1, ap_rng2, ap_iList, ap_iTup, ap_lc, ap_yes, ap_cut, ap_gTupH, ap_fmt, ap_jsn, ap_jsc, ap_gcd, ap_isqrt, ap_ixL, tyV_l, wipe_nil, wipe_cons, upd_same, ap_iEnT, ap_iEnL, ap_iZipA, ap_all, ap_tupT, ap_attF, ap_makeL, ap_att, ap_prop, ap_isO, ap_bin, ap_ne, ap_meth, ap_make, ins_inj, FE_inj, ap_slI, ap_catI, ap_perm, ap_lenO, ap_strO, ap_listO, ap_reprB, ap_iterT, ap_neT, ap_negO, ap_binI, ap_catL, ap_tM1, ap_repTI, ap_popN, ap_par3, ap_catTT, ap_repTA, ap_countT, ap_notInT, ap_repL1, ap_cm, ap_shl, ap_shr, ap_mask, ap_comb, ap_bits, ap_rng3, List.set_cons_zero, List.set_cons_succ, List.getElem?_cons_zero, List.getElem?_cons_succ, List.cons_append, List.nil_append, List.append_nil, Option.some.injEq, V.int.injEq, V.ref.injEq, V.bl.injEq, V.str.injEq, V.ty.injEq, Bool.not_true, Bool.not_false, HO.lst.injEq, HO.tup.injEq, reduceCtorEq, Int.reduceToNat, Int.reduceLT, Int.reduceLE, Nat.reduceAdd, Int.cast_ofNat_Int, gi_c0, gi_c1, gi_c2, gi_c3, Int.natCast_inj, map_int_inj, map_nil_iff, List.cons.injEq, exists_eq_left, exists_eq_left', exists_eq, exists_eq', exists_and_left, exists_and_right, exists_const, and_assoc, and_true, true_and, and_false, false_and, or_false, false_or, or_true, true_or, ite_true, ite_false, if_true, if_false, Bool.false_eq_true, own_cons, own_nil, le1, le2, le3, le4, me_cons, me_nil, List.length_map, List.length_cons, List.length_nil, ne_eq, not_false_eq_true, not_true_eq_false, decide_eq_true_eq]
          refine ⟨d, 4, rfl, D4, by omega, by omega, fun H5 f ex5 D5 f0 f1 => ?_⟩
          simp only [ap_seq, ap_next, ap_asg, ap_gName, ap_ret, ap_retN, ap_drop, ap_ifS, ap_break, ap_cont, ap_par, ap_aug, ap_ip, ap_gSub, ap_gTup, ap_gNil, ap_gCons, ap_var, ap_c, ap_op, ap_un, ap_if, ap_test, ap_B, ap_and, ap_or, ap_not, ap_andV, ap_orV, ap_notV, ap_nil, ap_cons, ap_tup, ap_lst, ap_cb, ap_bm, ap_call, ap_chain, ap_rI, ap_rI0, ap_rU, ap_rEq, ap_rNe, ap_revT, ap_sl, ap_part, ap_noPart, ap_ixLI, ap_ixTI, ap_ixLV, ap_ixTV, ap_len, ap_setLI, ap_setLV, ap_appI, ap_appV, ap_tupL, ap_listS, ap_sumLI, ap_sumTI, ap_repLI, ap_intI, ap_intB, ap_eqTI, ap_neTI, ap_eqLI, ap_neLI, ap_isi, ap_for, ap_rng1, ap_rng2, ap_iList, ap_iTup, ap_lc, ap_yes, ap_cut, ap_gTupH, ap_fmt, ap_jsn, ap_jsc, ap_gcd, ap_isqrt, ap_ixL, tyV_l, wipe_nil, wipe_cons, upd_same, ap_iEnT, ap_iEnL, ap_iZipA, ap_all, ap_tupT, ap_attF, ap_makeL, ap_att, ap_prop, ap_isO, ap_bin, ap_ne, ap_meth, ap_make, ins_inj, FE_inj, ap_slI, ap_catI, ap_perm, ap_lenO, ap_strO, ap_listO, ap_reprB, ap_iterT, ap_neT, ap_negO, ap_binI, ap_catL, ap_tM1, ap_repTI, ap_popN, ap_par3, ap_catTT, ap_repTA, ap_countT, ap_notInT, ap_repL1, ap_cm, ap_shl, ap_shr, ap_mask, ap_comb, ap_bits, ap_rng3, List.set_cons_zero, List.set_cons_succ, List.getElem?_cons_zero, List.getElem?_cons_succ, List.cons_append, List.nil_append, List.append_nil, Option.some.injEq, V.int.injEq, V.ref.injEq, V.bl.injEq, V.str.injEq, V.ty.injEq, Bool.not_true, Bool.not_false, HO.lst.injEq, HO.tup.injEq, reduceCtorEq, Int.reduceToNat, Int.reduceLT, Int.reduceLE, Nat.reduceAdd, Int.cast_ofNat_Int, gi_c0, gi_c1, gi_c2, gi_c3, Int.natCast_inj, map_int_inj, map_nil_iff, List.cons.injEq, exists_eq_left, exists_eq_left', exists_eq, exists_eq', exists_and_left, exists_and_right, exists_const, and_assoc, and_true, true_and, and_false, false_and, or_false, false_or, or_true, true_or, ite_true, ite_false, if_true, if_false, Bool.false_eq_true, own_cons, own_nil, le1, le2, le3, le4, me_cons, me_nil, List.length_map, List.length_cons, List.length_nil, ne_eq, not_false_eq_true, not_true_eq_false, decide_eq_true_eq]
          refine ⟨q, powP [a, b] n, f, rfl, ex5 _ _ (not_dice D3 nq) eq, by omega, fun n h => (pow_wd (ns := [a, b]) rfl lp hn n h).wd, by unfold Wd; omega, fun H6 t s6 nt et => ?_⟩
          have EX := ((ex3.trans (.same s4)).trans ex5).trans (.same s6)
          simp only [ap_seq, ap_next, ap_asg, ap_gName, ap_ret, ap_retN, ap_drop, ap_ifS, ap_break, ap_cont, ap_par, ap_aug, ap_ip, ap_gSub, ap_gTup, ap_gNil, ap_gCons, ap_var, ap_c, ap_op, ap_un, ap_if, ap_test, ap_B, ap_and, ap_or, ap_not, ap_andV, ap_orV, ap_notV, ap_nil, ap_cons, ap_tup, ap_lst, ap_cb, ap_bm, ap_call, ap_chain, ap_rI, ap_rI0, ap_rU, ap_rEq, ap_rNe, ap_revT, ap_sl, ap_part, ap_noPart, ap_ixLI, ap_ixTI, ap_ixLV, ap_ixTV, ap_len, ap_setLI, ap_setLV, ap_appI, ap_appV, ap_tupL, ap_listS, ap_sumLI, ap_sumTI, ap_repLI, ap_intI, ap_intB, ap_eqTI, ap_neTI, ap_eqLI, ap_neLI, ap_isi, ap_for, ap_rng1, ap_rng2, ap_iList, ap_iTup, ap_lc, ap_yes, ap_cut, ap_gTupH, ap_fmt, ap_jsn, ap_jsc, ap_gcd, ap_isqrt, ap_ixL, tyV_l, wipe_nil, wipe_cons, upd_same, ap_iEnT, ap_iEnL, ap_iZipA, ap_all, ap_tupT, ap_attF, ap_makeL, ap_att, ap_prop, ap_isO, ap_bin, ap_ne, ap_meth, ap_make, ins_inj, FE_inj, ap_slI, ap_catI, ap_perm, ap_lenO, ap_strO, ap_listO, ap_reprB, ap_iterT, ap_neT, ap_negO, ap_binI, ap_catL, ap_tM1, ap_repTI, ap_popN, ap_par3, ap_catTT, ap_repTA, ap_countT, ap_notInT, ap_repL1, ap_cm, ap_shl, ap_shr, ap_mask, ap_comb, ap_bits, ap_rng3, List.set_cons_zero, List.set_cons_succ, List.getElem?_cons_zero, List.getElem?_cons_succ, List.cons_append, List.nil_append, List.append_nil, Option.some.injEq, V.int.injEq, V.ref.injEq, V.bl.injEq, V.str.injEq, V.ty.injEq, Bool.not_true, Bool.not_false, HO.lst.injEq, HO.tup.injEq, reduceCtorEq, Int.reduceToNat, Int.reduceLT, Int.reduceLE, Nat.reduceAdd, Int.cast_ofNat_Int, gi_c0, gi_c1, gi_c2, gi_c3, Int.natCast_inj, map_int_inj, map_nil_iff, List.cons.injEq, exists_eq_left, exists_eq_left', exists_eq, exists_eq', exists_and_left, exists_and_right, exists_const, and_assoc, and_true, true_and, and_false, false_and, or_false, false_or, or_true, true_or, ite_true, ite_false, if_true, if_false, Bool.false_eq_true, own_cons, own_nil, le1, le2, le3, le4, me_cons, me_nil, List.length_map, List.length_cons, List.length_nil, ne_eq, not_false_eq_true, not_true_eq_false, decide_eq_true_eq]
          refine ⟨r, t, ns, _, rfl, EX _ _ rd er, et, by rw [List.length_map]; omega, by omega, fun H7 u s7 nu eu => ?_⟩
          have EX2 := ex.trans EX
          have D6 := D5.same s6
          simp only [ap_seq, ap_next, ap_asg, ap_gName, ap_ret, ap_retN, ap_drop, ap_ifS, ap_break, ap_cont, ap_par, ap_aug, ap_ip, ap_gSub, ap_gTup, ap_gNil, ap_gCons, ap_var, ap_c, ap_op, ap_un, ap_if, ap_test, ap_B, ap_and, ap_or, ap_not, ap_andV, ap_orV, ap_notV, ap_nil, ap_cons, ap_tup, ap_lst, ap_cb, ap_bm, ap_call, ap_chain, ap_rI, ap_rI0, ap_rU, ap_rEq, ap_rNe, ap_revT, ap_sl, ap_part, ap_noPart, ap_ixLI, ap_ixTI, ap_ixLV, ap_ixTV, ap_len, ap_setLI, ap_setLV, ap_appI, ap_appV, ap_tupL, ap_listS, ap_sumLI, ap_sumTI, ap_repLI, ap_intI, ap_intB, ap_eqTI, ap_neTI, ap_eqLI, ap_neLI, ap_isi, ap_for, ap_rng1, ap_rng2, ap_iList, ap_iTup, ap_lc, ap_yes, ap_cut, ap_gTupH, ap_fmt, ap_jsn, ap_jsc, ap_gcd, ap_isqrt, ap_ixL, tyV_l, wipe_nil, wipe_cons, upd_same, ap_iEnT, ap_iEnL, ap_iZipA, ap_all, ap_tupT, ap_attF, ap_makeL, ap_att, ap_prop, ap_isO, ap_bin, ap_ne, ap_meth, ap_make, ins_inj, FE_inj, ap_slI, ap_catI, ap_perm, ap_lenO, ap_strO, ap_listO, ap_reprB, ap_iterT, ap_neT, ap_negO, ap_binI, ap_catL, ap_tM1, ap_repTI, ap_popN, ap_par3, ap_catTT, ap_repTA, ap_countT, ap_notInT, ap_repL1, ap_cm, ap_shl, ap_shr, ap_mask, ap_comb, ap_bits, ap_rng3, List.set_cons_zero, List.set_cons_succ, List.getElem?_cons_zero, List.getElem?_cons_succ, List.cons_append, List.nil_append, List.append_nil, Option.some.injEq, V.int.injEq, V.ref.injEq, V.bl.injEq, V.str.injEq, V.ty.injEq, Bool.not_true, Bool.not_false, HO.lst.injEq, HO.tup.injEq, reduceCtorEq, Int.reduceToNat, Int.reduceLT, Int.reduceLE, Nat.reduceAdd, Int.cast_ofNat_Int, gi_c0, gi_c1, gi_c2, gi_c3, Int.natCast_inj, map_int_inj, map_nil_iff, List.cons.injEq, exists_eq_left, exists_eq_left', exists_eq, exists_eq', exists_and_left, exists_and_right, exists_const, and_assoc, and_true, true_and, and_false, false_and, or_false, false_or, or_true, true_or, ite_true, ite_false, if_true, if_false, Bool.false_eq_true, own_cons, own_nil, le1, le2, le3, le4, me_cons, me_nil, List.length_map, List.length_cons, List.length_nil, ne_eq, not_false_eq_true, not_true_eq_false, decide_eq_true_eq]
          refine ⟨free_ex EX2 D6 nu, ⟨_, eu, by rw [List.length_zipWith, List.length_map]; omega, ?_⟩, EX2.trans (.same s7), D6.same s7⟩
          have z := zip_bd bn (scale_bd (by omega) ⟨f0, f1⟩ (l1_B po.2))
          intro m hm
          have zz := z m hm
          have e6 : ((6 ^ 12 : Nat) : Int) = 6 ^ 12 := by decide
          rw [e6] at zz
          omega
        · obtain ⟨⟨r, ns, y, e, nr, er, ln, bn⟩, ex, dc⟩ := hP
          subst e
          simp only [ap_seq, ap_next, ap_asg, ap_gName, ap_ret, ap_retN, ap_drop, ap_ifS, ap_break, ap_cont, ap_par, ap_aug, ap_ip, ap_gSub, ap_gTup, ap_gNil, ap_gCons, ap_var, ap_c, ap_op, ap_un, ap_if, ap_test, ap_B, ap_and, ap_or, ap_not, ap_andV, ap_orV, ap_notV, ap_nil, ap_cons, ap_tup, ap_lst, ap_cb, ap_bm, ap_call, ap_chain, ap_rI, ap_rI0, ap_rU, ap_rEq, ap_rNe, ap_revT, ap_sl, ap_part, ap_noPart, ap_ixLI, ap_ixTI, ap_ixLV, ap_ixTV, ap_len, ap_setLI, ap_setLV, ap_appI, ap_appV, ap_tupL, ap_listS, ap_sumLI, ap_sumTI, ap_repLI, ap_intI, ap_intB, ap_eqTI, ap_neTI, ap_eqLI, ap_neLI, ap_isi, ap_for, ap_rng1, ap_rng2, ap_iList, ap_iTup, ap_lc, ap_yes, ap_cut, ap_gTupH, ap_fmt, ap_jsn, ap_jsc, ap_gcd, ap_isqrt, ap_ixL, tyV_l, wipe_nil, wipe_cons, upd_same, ap_iEnT, ap_iEnL, ap_iZipA, ap_all, ap_tupT, ap_attF, ap_makeL, ap_att, ap_prop, ap_isO, ap_bin, ap_ne, ap_meth, ap_make, ins_inj, FE_inj, ap_slI, ap_catI, ap_perm, ap_lenO, ap_strO, ap_listO, ap_reprB, ap_iterT, ap_neT, ap_negO, ap_binI, ap_catL, ap_tM1, ap_repTI, ap_popN, ap_par3, ap_catTT, ap_repTA, ap_countT, ap_notInT, ap_repL1, ap_cm, ap_shl, ap_shr, ap_mask, ap_comb, ap_bits, ap_rng3, List.set_cons_zero, List.set_cons_succ, List.getElem?_cons_zero, List.getElem?_cons_succ, List.cons_append, List.nil_append, List.append_nil, Option.some.injEq, V.int.injEq, V.ref.injEq, V.bl.injEq, V.str.injEq, V.ty.injEq, Bool.not_true, Bool.not_false, HO.lst.injEq, HO.tup.injEq, reduceCtorEq, Int.reduceToNat, Int.reduceLT, Int.reduceLE, Nat.reduceAdd, Int.cast_ofNat_Int, gi_c0, gi_c1, gi_c2, gi_c3, Int.natCast_inj, map_int_inj, map_nil_iff, List.cons.injEq, exists_eq_left, exists_eq_left', exists_eq, exists_eq', exists_and_left, exists_and_right, exists_const, and_assoc, and_true, true_and, and_false, false_and, or_false, false_or, or_true, true_or, ite_true, ite_false, if_true, if_false, Bool.false_eq_true, own_cons, own_nil, le1, le2, le3, le4, me_cons, me_nil, List.length_map, List.length_cons, List.length_nil, ne_eq, not_false_eq_true, not_true_eq_false, decide_eq_true_eq]
          refine k G2 r ns ex dc nr ⟨ln, fun m hm => ?_⟩ er
          have b := bn m hm
          omega
    refine ⟨rfl, iteC (fun c => ?_) (fun _ => ?_)⟩
    · have en : ((n : Int) + 1).toNat = n + 1 := by omega
      rw [en]
      refine ⟨by omega, by omega, lc_rangeR (fun x => -3 ≤ x ∧ x ≤ 3) (by omega) D1 (fun x => rfl) (fun i H2 hi ex2 D2 Q' k' => ?_) (fun A H2 ns nA ex2 D2 l r e => ?_)⟩
      · simp only [ap_seq, ap_next, ap_asg, ap_gName, ap_ret, ap_retN, ap_drop, ap_ifS, ap_break, ap_cont, ap_par, ap_aug, ap_ip, ap_gSub, ap_gTup, ap_gNil, ap_gCons, ap_var, ap_c, ap_op, ap_un, ap_if, ap_test, ap_B, ap_and, ap_or, ap_not, ap_andV, ap_orV, ap_notV, ap_nil, ap_cons, ap_tup, ap_lst, ap_cb, ap_bm, ap_call, ap_chain, ap_rI, ap_rI0, ap_rU, ap_rEq, ap_rNe, ap_revT, ap_sl, ap_part, ap_noPart, ap_ixLI, ap_ixTI, ap_ixLV, ap_ixTV, ap_len, ap_setLI, ap_setLV, ap_appI, ap_appV, ap_tupL, ap_listS, ap_sumLI, ap_sumTI, ap_repLI, ap_intI, ap_intB, ap_eqTI, ap_neTI, ap_eqLI, ap_neLI, ap_isi, ap_for, ap_rng1, ap_rng2, ap_iList, ap_iTup, ap_lc, ap_yes, ap_cut, ap_gTupH, ap_fmt, ap_jsn, ap_jsc, ap_gcd, ap_isqrt, ap_ixL, tyV_l, wipe_nil, wipe_cons, upd_same, ap_iEnT, ap_iEnL, ap_iZipA, ap_all, ap_tupT, ap_attF, ap_makeL, ap_att, ap_prop, ap_isO, ap_bin, ap_ne, ap_meth, ap_make, ins_inj, FE_inj, ap_slI, ap_catI, ap_perm, ap_lenO, ap_strO, ap_listO, ap_reprB, ap_iterT, ap_neT, ap_negO, ap_binI, ap_catL, ap_tM1, ap_repTI, ap_popN, ap_par3, ap_catTT, ap_repTA, ap_countT, ap_notInT, ap_repL1, ap_cm, ap_shl, ap_shr, ap_mask, ap_comb, ap_bits, ap_rng3, List.set_cons_zero, List.set_cons_succ, List.getElem?_cons_zero, List.getElem?_cons_succ, List.cons_append, List.nil_append, List.append_nil, Option.some.injEq, V.int.injEq, V.ref.injEq, V.bl.injEq, V.str.injEq, V.ty.injEq, Bool.not_true, Bool.not_false, HO.lst.injEq, HO.tup.injEq, reduceCtorEq, Int.reduceToNat, Int.reduceLT, Int.reduceLE, Nat.reduceAdd, Int.cast_ofNat_Int, gi_c0, gi_c1, gi_c2, gi_c3, Int.natCast_inj, map_int_inj, map_nil_iff, List.cons.injEq, exists_eq_left, exists_eq_left', exists_eq, exists_eq', exists_and_left, exists_and_right, exists_const, and_assoc, and_true, true_and, and_false, false_and, or_false, false_or, or_true, true_or, ite_true, ite_false, if_true, if_false, Bool.false_eq_true, own_cons, own_nil, le1, le2, le3, le4, me_cons, me_nil, List.length_map, List.length_cons, List.length_nil, ne_eq, not_false_eq_true, not_true_eq_false, decide_eq_true_eq]
        refine ⟨d, 3, rfl, D2, by omega, by omega, fun H3 u ex3 D3 u0 u1 => ?_⟩
        simp only [ap_seq, ap_next, ap_asg, ap_gName, ap_ret, ap_retN, ap_drop, ap_ifS, ap_break, ap_cont, ap_par, ap_aug, ap_ip, ap_gSub, ap_gTup, ap_gNil, ap_gCons, ap_var, ap_c, ap_op, ap_un, ap_if, ap_test, ap_B, ap_and, ap_or, ap_not, ap_andV, ap_orV, ap_notV, ap_nil, ap_cons, ap_tup, ap_lst, ap_cb, ap_bm, ap_call, ap_chain, ap_rI, ap_rI0, ap_rU, ap_rEq, ap_rNe, ap_revT, ap_sl, ap_part, ap_noPart, ap_ixLI, ap_ixTI, ap_ixLV, ap_ixTV, ap_len, ap_setLI, ap_setLV, ap_appI, ap_appV, ap_tupL, ap_listS, ap_sumLI, ap_sumTI, ap_repLI, ap_intI, ap_intB, ap_eqTI, ap_neTI, ap_eqLI, ap_neLI, ap_isi, ap_for, ap_rng1, ap_rng2, ap_iList, ap_iTup, ap_lc, ap_yes, ap_cut, ap_gTupH, ap_fmt, ap_jsn, ap_jsc, ap_gcd, ap_isqrt, ap_ixL, tyV_l, wipe_nil, wipe_cons, upd_same, ap_iEnT, ap_iEnL, ap_iZipA, ap_all, ap_tupT, ap_attF, ap_makeL, ap_att, ap_prop, ap_isO, ap_bin, ap_ne, ap_meth, ap_make, ins_inj, FE_inj, ap_slI, ap_catI, ap_perm, ap_lenO, ap_strO, ap_listO, ap_reprB, ap_iterT, ap_neT, ap_negO, ap_binI, ap_catL, ap_tM1, ap_repTI, ap_popN, ap_par3, ap_catTT, ap_repTA, ap_countT, ap_notInT, ap_repL1, ap_cm, ap_shl, ap_shr, ap_mask, ap_comb, ap_bits, ap_rng3, List.set_cons_zero, List.set_cons_succ, List.getElem?_cons_zero, List.getElem?_cons_succ, List.cons_append, List.nil_append, List.append_nil, Option.some.injEq, V.int.injEq, V.ref.injEq, V.bl.injEq, V.str.injEq, V.ty.injEq, Bool.not_true, Bool.not_false, HO.lst.injEq, HO.tup.injEq, reduceCtorEq, Int.reduceToNat, Int.reduceLT, Int.reduceLE, Nat.reduceAdd, Int.cast_ofNat_Int, gi_c0, gi_c1, gi_c2, gi_c3, Int.natCast_inj, map_int_inj, map_nil_iff, List.cons.injEq, exists_eq_left, exists_eq_left', exists_eq, exists_eq', exists_and_left, exists_and_right, exists_const, and_assoc, and_true, true_and, and_false, false_and, or_false, false_or, or_true, true_or, ite_true, ite_false, if_true, if_false, Bool.false_eq_true, own_cons, own_nil, le1, le2, le3, le4, me_cons, me_nil, List.length_map, List.length_cons, List.length_nil, ne_eq, not_false_eq_true, not_true_eq_false, decide_eq_true_eq]
        refine ⟨d, 2, rfl, D3, by omega, by omega, fun H4 v ex4 D4 v0 v1 => ?_⟩
        simp only [ap_seq, ap_next, ap_asg, ap_gName, ap_ret, ap_retN, ap_drop, ap_ifS, ap_break, ap_cont, ap_par, ap_aug, ap_ip, ap_gSub, ap_gTup, ap_gNil, ap_gCons, ap_var, ap_c, ap_op, ap_un, ap_if, ap_test, ap_B, ap_and, ap_or, ap_not, ap_andV, ap_orV, ap_notV, ap_nil, ap_cons, ap_tup, ap_lst, ap_cb, ap_bm, ap_call, ap_chain, ap_rI, ap_rI0, ap_rU, ap_rEq, ap_rNe, ap_revT, ap_sl, ap_part, ap_noPart, ap_ixLI, ap_ixTI, ap_ixLV, ap_ixTV, ap_len, ap_setLI, ap_setLV, ap_appI, ap_appV, ap_tupL, ap_listS, ap_sumLI, ap_sumTI, ap_repLI, ap_intI, ap_intB, ap_eqTI, ap_neTI, ap_eqLI, ap_neLI, ap_isi, ap_for, ap_rng1, ap_rng2, ap_iList, ap_iTup, ap_lc, ap_yes, ap_cut, ap_gTupH, ap_fmt, ap_jsn, ap_jsc, ap_gcd, ap_isqrt, ap_ixL, tyV_l, wipe_nil, wipe_cons, upd_same, ap_iEnT, ap_iEnL, ap_iZipA, ap_all, ap_tupT, ap_attF, ap_makeL, ap_att, ap_prop, ap_isO, ap_bin, ap_ne, ap_meth, ap_make, ins_inj, FE_inj, ap_slI, ap_catI, ap_perm, ap_lenO, ap_strO, ap_listO, ap_reprB, ap_iterT, ap_neT, ap_negO, ap_binI, ap_catL, ap_tM1, ap_repTI, ap_popN, ap_par3, ap_catTT, ap_repTA, ap_countT, ap_notInT, ap_repL1, ap_cm, ap_shl, ap_shr, ap_mask, ap_comb, ap_bits, ap_rng3, List.set_cons_zero, List.set_cons_succ, List.getElem?_cons_zero, List.getElem?_cons_succ, List.cons_append, List.nil_append, List.append_nil, Option.some.injEq, V.int.injEq, V.ref.injEq, V.bl.injEq, V.str.injEq, V.ty.injEq, Bool.not_true, Bool.not_false, HO.lst.injEq, HO.tup.injEq, reduceCtorEq, Int.reduceToNat, Int.reduceLT, Int.reduceLE, Nat.reduceAdd, Int.cast_ofNat_Int, gi_c0, gi_c1, gi_c2, gi_c3, Int.natCast_inj, map_int_inj, map_nil_iff, List.cons.injEq, exists_eq_left, exists_eq_left', exists_eq, exists_eq', exists_and_left, exists_and_right, exists_const, and_assoc, and_true, true_and, and_false, false_and, or_false, false_or, or_true, true_or, ite_true, ite_false, if_true, if_false, Bool.false_eq_true, own_cons, own_nil, le1, le2, le3, le4, me_cons, me_nil, List.length_map, List.length_cons, List.length_nil, ne_eq, not_false_eq_true, not_true_eq_false, decide_eq_true_eq, CMu]
        refine ⟨by omega, by omega, by omega, by omega, k' H4 _ (ex3.trans ex4) D4 ?_⟩
        rcases (show v = 0 ∨ v = 1 by omega) with rfl | rfl
        · omega
        · omega
      · refine ⟨A, rfl, _, e, fun t nt => ?_⟩
        have EX := ex1.trans ex2
        exact k _ t ns (EX.trans (.same (same_upd nt))) (D2.same (same_upd nt)) (free_ex EX D2 nt) ⟨l, fun m hm => by have := r m hm; omega⟩ upd_same
    have small : ∀ H2, Exc d H1 H2 → Dc H2 d → sp_law_small_form [V.ref d, V.int (n : Nat), V.int 6] H2 Q E0 := fun H2 ex2 D2 =>
      ⟨d, n, 6, rfl, D2, by omega, by omega, by omega, fun H3 r ns ex3 D3 nr ln bn er => k H3 r ns ((ex1.trans ex2).trans ex3) D3 (free_ex (ex1.trans ex2) D2 nr) ⟨ln, fun m hm => by have := bn m hm; omega⟩ er⟩
    refine ⟨rfl, iteC (fun c => ?_) (fun _ => small H1 Exc.refl D1)⟩
    refine ⟨d, 4, rfl, D1, by omega, by omega, fun H2 z ex2 D2 z0 z1 => ?_⟩
    simp only [ap_seq, ap_next, ap_asg, ap_gName, ap_ret, ap_retN, ap_drop, ap_ifS, ap_break, ap_cont, ap_par, ap_aug, ap_ip, ap_gSub, ap_gTup, ap_gNil, ap_gCons, ap_var, ap_c, ap_op, ap_un, ap_if, ap_test, ap_B, ap_and, ap_or, ap_not, ap_andV, ap_orV, ap_notV, ap_nil, ap_cons, ap_tup, ap_lst, ap_cb, ap_bm, ap_call, ap_chain, ap_rI, ap_rI0, ap_rU, ap_rEq, ap_rNe, ap_revT, ap_sl, ap_part, ap_noPart, ap_ixLI, ap_ixTI, ap_ixLV, ap_ixTV, ap_len, ap_setLI, ap_setLV, ap_appI, ap_appV, ap_tupL, ap_listS, ap_sumLI, ap_sumTI, ap_repLI, ap_intI, ap_intB, ap_eqTI, ap_neTI, ap_eqLI, ap_neLI, ap_isi, ap_for, ap_rng1, ap_rng2, ap_iList, ap_iTup, ap_lc, ap_yes, ap_cut, ap_gTupH, ap_fmt, ap_jsn, ap_jsc, ap_gcd, ap_isqrt, ap_ixL, tyV_l, wipe_nil, wipe_cons, upd_same, ap_iEnT, ap_iEnL, ap_iZipA, ap_all, ap_tupT, ap_attF, ap_makeL, ap_att, ap_prop, ap_isO, ap_bin, ap_ne, ap_meth, ap_make, ins_inj, FE_inj, ap_slI, ap_catI, ap_perm, ap_lenO, ap_strO, ap_listO, ap_reprB, ap_iterT, ap_neT, ap_negO, ap_binI, ap_catL, ap_tM1, ap_repTI, ap_popN, ap_par3, ap_catTT, ap_repTA, ap_countT, ap_notInT, ap_repL1, ap_cm, ap_shl, ap_shr, ap_mask, ap_comb, ap_bits, ap_rng3, List.set_cons_zero, List.set_cons_succ, List.getElem?_cons_zero, List.getElem?_cons_succ, List.cons_append, List.nil_append, List.append_nil, Option.some.injEq, V.int.injEq, V.ref.injEq, V.bl.injEq, V.str.injEq, V.ty.injEq, Bool.not_true, Bool.not_false, HO.lst.injEq, HO.tup.injEq, reduceCtorEq, Int.reduceToNat, Int.reduceLT, Int.reduceLE, Nat.reduceAdd, Int.cast_ofNat_Int, gi_c0, gi_c1, gi_c2, gi_c3, Int.natCast_inj, map_int_inj, map_nil_iff, List.cons.injEq, exists_eq_left, exists_eq_left', exists_eq, exists_eq', exists_and_left, exists_and_right, exists_const, and_assoc, and_true, true_and, and_false, false_and, or_false, false_or, or_true, true_or, ite_true, ite_false, if_true, if_false, Bool.false_eq_true, own_cons, own_nil, le1, le2, le3, le4, me_cons, me_nil, List.length_map, List.length_cons, List.length_nil, ne_eq, not_false_eq_true, not_true_eq_false, decide_eq_true_eq]
    refine ⟨rfl, iteC (fun c => ?_) (fun _ => small H2 ex2 D2)⟩
    have en : ((n : Int) + 1).toNat = n + 1 := by omega
    rw [en]
    refine ⟨by omega, by omega, lc_rangeR (fun x => -(10 ^ 12) ≤ x ∧ x ≤ 10 ^ 12) (by omega) D2 (fun x => rfl) (fun i H3 hi ex3 D3 Q' k' => ?_) (fun A H3 ns nA ex3 D3 l r e => ?_)⟩
    · simp only [ap_seq, ap_next, ap_asg, ap_gName, ap_ret, ap_retN, ap_drop, ap_ifS, ap_break, ap_cont, ap_par, ap_aug, ap_ip, ap_gSub, ap_gTup, ap_gNil, ap_gCons, ap_var, ap_c, ap_op, ap_un, ap_if, ap_test, ap_B, ap_and, ap_or, ap_not, ap_andV, ap_orV, ap_notV, ap_nil, ap_cons, ap_tup, ap_lst, ap_cb, ap_bm, ap_call, ap_chain, ap_rI, ap_rI0, ap_rU, ap_rEq, ap_rNe, ap_revT, ap_sl, ap_part, ap_noPart, ap_ixLI, ap_ixTI, ap_ixLV, ap_ixTV, ap_len, ap_setLI, ap_setLV, ap_appI, ap_appV, ap_tupL, ap_listS, ap_sumLI, ap_sumTI, ap_repLI, ap_intI, ap_intB, ap_eqTI, ap_neTI, ap_eqLI, ap_neLI, ap_isi, ap_for, ap_rng1, ap_rng2, ap_iList, ap_iTup, ap_lc, ap_yes, ap_cut, ap_gTupH, ap_fmt, ap_jsn, ap_jsc, ap_gcd, ap_isqrt, ap_ixL, tyV_l, wipe_nil, wipe_cons, upd_same, ap_iEnT, ap_iEnL, ap_iZipA, ap_all, ap_tupT, ap_attF, ap_makeL, ap_att, ap_prop, ap_isO, ap_bin, ap_ne, ap_meth, ap_make, ins_inj, FE_inj, ap_slI, ap_catI, ap_perm, ap_lenO, ap_strO, ap_listO, ap_reprB, ap_iterT, ap_neT, ap_negO, ap_binI, ap_catL, ap_tM1, ap_repTI, ap_popN, ap_par3, ap_catTT, ap_repTA, ap_countT, ap_notInT, ap_repL1, ap_cm, ap_shl, ap_shr, ap_mask, ap_comb, ap_bits, ap_rng3, List.set_cons_zero, List.set_cons_succ, List.getElem?_cons_zero, List.getElem?_cons_succ, List.cons_append, List.nil_append, List.append_nil, Option.some.injEq, V.int.injEq, V.ref.injEq, V.bl.injEq, V.str.injEq, V.ty.injEq, Bool.not_true, Bool.not_false, HO.lst.injEq, HO.tup.injEq, reduceCtorEq, Int.reduceToNat, Int.reduceLT, Int.reduceLE, Nat.reduceAdd, Int.cast_ofNat_Int, gi_c0, gi_c1, gi_c2, gi_c3, Int.natCast_inj, map_int_inj, map_nil_iff, List.cons.injEq, exists_eq_left, exists_eq_left', exists_eq, exists_eq', exists_and_left, exists_and_right, exists_const, and_assoc, and_true, true_and, and_false, false_and, or_false, false_or, or_true, true_or, ite_true, ite_false, if_true, if_false, Bool.false_eq_true, own_cons, own_nil, le1, le2, le3, le4, me_cons, me_nil, List.length_map, List.length_cons, List.length_nil, ne_eq, not_false_eq_true, not_true_eq_false, decide_eq_true_eq]
      refine ⟨⟨by decide, by decide, by decide⟩, d, _, rfl, D3, by decide, by decide, fun H4 u ex4 D4 u0 u1 => k' H4 u ex4 D4 ⟨u0, u1⟩⟩
    · refine ⟨A, rfl, _, e, fun t nt => ?_⟩
      have EX := (ex1.trans ex2).trans ex3
      exact k _ t ns (EX.trans (.same (same_upd nt))) (D3.same (same_upd nt)) (free_ex EX D3 nt) ⟨l, fun m hm => by have := r m hm; omega⟩ upd_same
end
end My
namespace My
open PySem PySem.Spec PyProof.Rows L2 Pr
/-! ### values -/
/-- the value of a form: the sum of c x^(n-i) y^i -/
def val : List Int → Int → Int → Int
  | [], _, _ => 0
  | c :: cs, x, y => c * x ^ cs.length + y * val cs x y
theorem val_nil (x y : Int) : val [] x y = 0 := rfl
theorem val_cons (c : Int) (cs : List Int) (x y : Int) : val (c :: cs) x y = c * x ^ cs.length + y * val cs x y := rfl
theorem val_app (a b : List Int) (x y : Int) : val (a ++ b) x y = val a x y * x ^ b.length + y ^ a.length * val b x y := by
  induction a with
  | nil =>
    show val b x y = 0 * x ^ b.length + y ^ 0 * val b x y
    rw [Int.zero_mul, Int.pow_zero, Int.one_mul, Int.zero_add]
  | cons c cs ih =>
    show c * x ^ (cs ++ b).length + y * val (cs ++ b) x y = (c * x ^ cs.length + y * val cs x y) * x ^ b.length + y ^ (cs.length + 1) * val b x y
    rw [ih, List.length_append, Int.pow_add, Int.pow_succ, Int.add_mul, Int.mul_add]
    generalize val cs x y = v
    generalize val b x y = w
    generalize x ^ cs.length = p
    generalize x ^ b.length = q
    generalize y ^ cs.length = r
    grind
theorem val_snoc (a : List Int) (c x y : Int) : val (a ++ [c]) x y = val a x y * x + y ^ a.length * c := by
  rw [val_app]
  show val a x y * x ^ 1 + y ^ a.length * (c * x ^ 0 + y * 0) = _
  rw [Int.pow_zero, Int.mul_one, Int.mul_zero, Int.add_zero, Int.pow_succ, Int.pow_zero, Int.one_mul]
theorem val_zip : ∀ (a b : List Int) (x y : Int), a.length = b.length → val (List.zipWith (· + ·) a b) x y = val a x y + val b x y
  | [], [], _, _, _ => rfl
  | [], _ :: _, _, _, h => by cases h
  | _ :: _, [], _, _, h => by cases h
  | c :: cs, d :: ds, x, y, h => by
    have hl : cs.length = ds.length := by simpa using h
    rw [List.zipWith_cons_cons, val_cons, val_cons, val_cons, val_zip cs ds x y hl, List.length_zipWith, hl, Nat.min_self]
    grind
theorem val_map (m : Int) : ∀ (a : List Int) (x y : Int), val (a.map (m * ·)) x y = m * val a x y
  | [], _, _ => by rw [List.map_nil, val_nil, Int.mul_zero]
  | c :: cs, x, y => by
    rw [List.map_cons, val_cons, val_cons, val_map m cs, List.length_map]
    grind
theorem val_zeros {a : List Int} (h : ∀ c ∈ a, c = 0) (x y : Int) : val a x y = 0 := by
  induction a with
  | nil => rfl
  | cons c cs ih =>
    rw [val_cons, ih fun d hd => h d (List.mem_cons_of_mem _ hd), h c (List.mem_cons_self ..)]
    simp
/-- a row with the value 0 everywhere has entries 0 alone -/
theorem zero_of_val : ∀ (n : Nat) (a : List Int), a.length = n → (∀ x : Int, 0 < x → val a x 1 = 0) → ∀ c ∈ a, c = 0
  | 0, a, h, _ => by
    have : a = [] := List.length_eq_zero_iff.mp h
    subst this
    simp
  | n + 1, a, h, hv => by
    obtain ⟨b, c, rfl⟩ : ∃ b c, a = b ++ [c] := ⟨a.dropLast, a.getLast (by intro e; subst e; cases h), (List.dropLast_concat_getLast _).symm⟩
    have hb : b.length = n := by simpa using h
    have e : ∀ x : Int, 0 < x → val b x 1 * x + c = 0 := fun x hx => by
      have := hv x hx
      rw [val_snoc, Int.one_pow, Int.one_mul] at this
      exact this
    have c0 : c = 0 := by
      have h1 := e ((c.natAbs : Int) + 1) (by omega)
      refine Int.eq_zero_of_dvd_of_natAbs_lt_natAbs (d := (c.natAbs : Int) + 1) (show ((c.natAbs : Int) + 1) ∣ c from ⟨-val b ((c.natAbs : Int) + 1) 1, ?_⟩) (by omega)
      rw [Int.mul_neg, Int.mul_comm]
      omega
    subst c0
    have hz := zero_of_val n b hb fun x hx => by
      have := e x hx
      rw [Int.add_zero] at this
      rcases Int.mul_eq_zero.mp this with h | h
      · exact h
      · omega
    intro d hd
    rcases List.mem_append.mp hd with h | h
    · exact hz d h
    · simpa using h
theorem eq_of_val {a b : List Int} (h : a.length = b.length) (hv : ∀ x : Int, 0 < x → val a x 1 = val b x 1) : a = b := by
  have z := zero_of_val _ (List.zipWith (· + ·) a (b.map ((-1) * ·))) rfl fun x hx => by
    rw [val_zip _ _ _ _ (by rw [List.length_map]; exact h), val_map, hv x hx]
    omega
  refine List.ext_getElem h fun i h1 h2 => ?_
  have hl : i < (List.zipWith (· + ·) a (b.map ((-1) * ·))).length := by
    rw [List.length_zipWith, List.length_map]
    omega
  have := z _ (List.getElem_mem hl)
  rw [List.getElem_zipWith, List.getElem_map] at this
  omega
/-- values of products -/
def sh (b : List Int) (k N : Nat) : List Int := List.replicate k 0 ++ b ++ List.replicate (N - k - b.length) 0
theorem val_rep (k : Nat) (x y : Int) : val (List.replicate k 0) x y = 0 := val_zeros (fun c hc => (List.mem_replicate.mp hc).2) x y
theorem val_sh {b : List Int} {k N : Nat} (x y : Int) : val (sh b k N) x y = y ^ k * val b x y * x ^ (N - k - b.length) := by
  unfold sh
  rw [val_app, val_app, val_rep, val_rep, List.length_replicate, List.length_replicate, Int.zero_mul, Int.zero_add, Int.mul_zero, Int.add_zero]
theorem sh_get {b : List Int} {k N x : Nat} (hk : k + b.length ≤ N) (hx : x < N) : (sh b k N).getD x 0 = if k ≤ x then b.getD (x - k) 0 else 0 := by
  unfold sh
  by_cases h1 : x < k
  · rw [if_neg (by omega), List.append_assoc, List.getD_eq_getElem?_getD, List.getElem?_append_left (by simpa using h1)]
    simp [h1]
  · rw [if_pos (by omega)]
    by_cases h2 : x < k + b.length
    · rw [List.getD_eq_getElem?_getD, List.getElem?_append_left (by simp; omega), List.getElem?_append_right (by simp; omega), List.length_replicate, List.getD_eq_getElem?_getD]
    · rw [List.getD_eq_getElem?_getD, List.getElem?_append_right (by simp; omega), List.getD_eq_getElem?_getD, List.getElem?_eq_none (l := b) (by omega), List.getElem?_replicate]
      split <;> rfl
theorem val_cv {ns ms : List Int} {N : Nat} (hN : N + 1 = ns.length + ms.length) (hm : 0 < ms.length) (x y : Int) : ∀ i, i ≤ ns.length → val ((List.range N).map (cv ns ms i)) x y = val (ns.take i) x y * x ^ (ns.length - i) * val ms x y
  | 0, _ => by
    rw [List.take_zero, val_nil, Int.zero_mul, Int.zero_mul]
    refine val_zeros (fun c hc => ?_) x y
    obtain ⟨k, _, rfl⟩ := List.mem_map.mp hc
    rfl
  | i + 1, hi => by
    have e : (List.range N).map (cv ns ms (i + 1)) = List.zipWith (· + ·) ((List.range N).map (cv ns ms i)) ((sh ms i N).map (ns.getD i 0 * ·)) := by
      have lsh : (sh ms i N).length = N := by
        unfold sh
        simp
        omega
      refine List.ext_getElem (by simp [lsh]) fun k h1 h2 => ?_
      have hk : k < N := by simpa using h1
      rw [List.getElem_zipWith, List.getElem_map, List.getElem_map, List.getElem_map, List.getElem_range]
      have g := sh_get (b := ms) (k := i) (N := N) (x := k) (by omega) hk
      rw [List.getD_eq_getElem?_getD, List.getElem?_eq_getElem (by omega)] at g
      have g2 : (sh ms i N)[k] = if i ≤ k then ms.getD (k - i) 0 else 0 := g
      rw [g2]
      show cv ns ms i k + _ = cv ns ms i k + _
      congr 1
      split
      · rfl
      · rw [Int.mul_zero]
    have et : ns.take (i + 1) = ns.take i ++ [ns.getD i 0] := by
      rw [List.take_succ, List.getD_eq_getElem?_getD, List.getElem?_eq_getElem (by omega)]
      rfl
    have lt : (ns.take i).length = i := by rw [List.length_take]; omega
    rw [e, val_zip _ _ _ _ (by unfold sh; simp; omega), val_cv hN hm x y i (by omega), val_map, val_sh, et, val_snoc, lt]
    have p1 : ns.length - i = (ns.length - (i + 1)) + 1 := by omega
    have p2 : N - i - ms.length = ns.length - (i + 1) := by omega
    rw [p1, p2, Int.pow_succ]
    generalize val (ns.take i) x y = v
    generalize val ms x y = w
    generalize x ^ (ns.length - (i + 1)) = p
    generalize y ^ i = q
    grind
theorem val_mulP {a b : List Int} (ha : 0 < a.length) (hb : 0 < b.length) (x y : Int) : val (mulP a b) x y = val a x y * val b x y := by
  unfold mulP
  have h := val_cv (ns := a) (ms := b) (N := a.length + b.length - 1) (by omega) hb x y a.length (Nat.le_refl _)
  rw [List.take_length, Nat.sub_self, Int.pow_zero, Int.mul_one] at h
  exact h
theorem val_powP {a : List Int} (ha : 0 < a.length) (x y : Int) : ∀ k, val (powP a k) x y = val a x y ^ k
  | 0 => by
    rw [Int.pow_zero]
    show 1 * x ^ 0 + y * 0 = (1 : Int)
    rw [Int.pow_zero, Int.mul_zero, Int.add_zero, Int.mul_one]
  | k + 1 => by
    have hl := powP_lenE ha k
    show val (mulP (powP a k) a) x y = _
    rw [val_mulP (by omega) ha, val_powP ha x y k, Int.pow_succ]
theorem val_two (p q x y : Int) : val [p, q] x y = p * x + q * y := by
  show p * x ^ 1 + y * (q * x ^ 0 + y * 0) = _
  rw [Int.pow_zero, Int.pow_succ, Int.pow_zero, Int.one_mul, Int.mul_zero, Int.add_zero, Int.mul_one, Int.mul_comm y q]
end My
namespace My
open PySem PySem.Spec PyProof.Rows L2 Pr
section
variable {P : Program} {w : World} {K : PySem.W.Frag} {mg : Str → Option Value} {base : Heap}
def sp_product_row : Sp := fun vs H Q _ => ∃ (p q : Addr) (ns ms : List Int), vs = [.ref p, .ref q] ∧ H p = some (TI ns) ∧ H q = some (TI ms) ∧ 0 < ns.length ∧ 0 < ms.length ∧ ns.length < 1000 ∧ ms.length < 1000 ∧
  (∀ n ∈ ns, Wd n) ∧ (∀ n ∈ ms, Wd n) ∧ ∀ H' r, Same H H' → H r = none → H' r = some (TI (mulP ns ms)) → Q (.ref r) H'
theorem ok_product_row (T : Tx K mg) : FnOk P w K mg base CX0 1 T.f_product_row T.d_product_row p_product_row sp_product_row := by
  refine T.F_product_row.ok sc_product_row (fun vs H Q E h => ?_) (fun cdv A outer s H vs Q E hr h => ?_)
  · obtain ⟨p, q, ns, ms, rfl, _⟩ := h
    rfl
  · obtain ⟨p, q, ns, ms, rfl, hp, hq, h1, h2, h3, h4, b1, b2, k⟩ := h
    refine ⟨_, (pss_cons (ps_setLc (i := 2) (own := [("_", 7)]) (g := gName 7) (tt := tYes) rfl sc_product_row.nd rfl rfl (sw_true rfl rfl rfl (by decide +kernel)) (pi_range1 (by rfl) T.z_range (pa_cons (pe_op op_sub (pe_op op_add (pe_callB cr_len (by rfl) T.z_len PySem.boot_len (pa_cons (pv 0) pa_nil)) (pe_callB cr_len (by rfl) T.z_len PySem.boot_len (pa_cons (pv 1) pa_nil))) pe_int) pa_nil)) (blkOk_by (N := n_product_row) (sc := defScope s_product_row) (by decide +kernel)) (fun _ _ _ _ _ => (pg_name (i := 7) sc_product_row.nd rfl (by first | exact .inl rfl | exact .inr rfl))) (fun _ _ _ _ _ => pts_nil) (fun _ _ _ _ _ => pe_int))
      (pss_cons (ps_for PassesOwn.never rfl (pi_enT (by rfl) T.z_enumerate (pa_cons (pv 0) pa_nil)) (pg_tupH (n := 2) (by rfl) (pgs_cons (pg_name (i := 3) sc_product_row.nd rfl (by first | exact .inl rfl | exact .inr rfl)) (pgs_cons (pg_name (i := 4) sc_product_row.nd rfl (by first | exact .inl rfl | exact .inr rfl)) pgs_nil)))
      (pss_one (ps_for PassesOwn.never rfl (pi_enT (by rfl) T.z_enumerate (pa_cons (pv 1) pa_nil)) (pg_tupH (n := 2) (by rfl) (pgs_cons (pg_name (i := 5) sc_product_row.nd rfl (by first | exact .inl rfl | exact .inr rfl)) (pgs_cons (pg_name (i := 6) sc_product_row.nd rfl (by first | exact .inl rfl | exact .inr rfl)) pgs_nil)))
      (pss_one (ps_asg (pe_op op_add (pe_ix ix_LI (pv 2) (pe_op op_add (pv 3) (pv 5)) (fun _ _ => rfl)) (pe_op op_mulB (pv 4) (pv 6))) (pg_sub (pv 2) (pe_op op_add (pv 3) (pv 5)) set_LI))))))
      (pss_one (ps_ret (pe_callTy cr_tupL (by rfl) T.z_tuple (by decide +kernel) (pa_cons (pv 2) pa_nil)))))), ?_⟩
    rw [st_product_row]
    simp only [ap_seq, ap_next, ap_asg, ap_gName, ap_ret, ap_retN, ap_drop, ap_ifS, ap_break, ap_cont, ap_par, ap_aug, ap_ip, ap_gSub, ap_gTup, ap_gNil, ap_gCons, ap_var, ap_c, ap_op, ap_un, ap_if, ap_test, ap_B, ap_and, ap_or, ap_not, ap_andV, ap_orV, ap_notV, ap_nil, ap_cons, ap_tup, ap_lst, ap_cb, ap_bm, ap_call, ap_chain, ap_rI, ap_rI0, ap_rU, ap_rEq, ap_rNe, ap_revT, ap_sl, ap_part, ap_noPart, ap_ixLI, ap_ixTI, ap_ixLV, ap_ixTV, ap_len, ap_setLI, ap_setLV, ap_appI, ap_appV, ap_tupL, ap_listS, ap_sumLI, ap_sumTI, ap_repLI, ap_intI, ap_intB, ap_eqTI, ap_neTI, ap_eqLI, ap_neLI, ap_isi, ap_for, ap_rng1, ap_rng2, ap_iList, ap_iTup, ap_lc, ap_yes, ap_cut, ap_gTupH, ap_fmt, ap_jsn, ap_jsc, ap_gcd, ap_isqrt, ap_ixL, tyV_l, wipe_nil, wipe_cons, upd_same, ap_iEnT, ap_iEnL, ap_iZipA, ap_all, ap_tupT, ap_attF, ap_makeL, ap_att, ap_prop, ap_isO, ap_bin, ap_ne, ap_meth, ap_make, ins_inj, FE_inj, ap_slI, ap_catI, ap_perm, ap_lenO, ap_strO, ap_listO, ap_reprB, ap_iterT, ap_neT, ap_negO, ap_binI, ap_catL, ap_tM1, ap_repTI, ap_popN, ap_par3, ap_catTT, ap_repTA, ap_countT, ap_notInT, ap_repL1, ap_cm, ap_shl, ap_shr, ap_mask, ap_comb, ap_bits, ap_rng3, List.set_cons_zero, List.set_cons_succ, List.getElem?_cons_zero, List.getElem?_cons_succ, List.cons_append, List.nil_append, List.append_nil, Option.some.injEq, V.int.injEq, V.ref.injEq, V.bl.injEq, V.str.injEq, V.ty.injEq, Bool.not_true, Bool.not_false, HO.lst.injEq, HO.tup.injEq, reduceCtorEq, Int.reduceToNat, Int.reduceLT, Int.reduceLE, Nat.reduceAdd, Int.cast_ofNat_Int, gi_c0, gi_c1, gi_c2, gi_c3, Int.natCast_inj, map_int_inj, map_nil_iff, List.cons.injEq, exists_eq_left, exists_eq_left', exists_eq, exists_eq', exists_and_left, exists_and_right, exists_const, and_assoc, and_true, true_and, and_false, false_and, or_false, false_or, or_true, true_or, ite_true, ite_false, if_true, if_false, Bool.false_eq_true, own_cons, own_nil, le1, le2, le3, le4, me_cons, me_nil, List.length_map, List.length_cons, List.length_nil, ne_eq, not_false_eq_true, not_true_eq_false, decide_eq_true_eq, hp, hq]
    have eN : ((ns.length : Int) + (ms.length : Int) - 1).toNat = ns.length + ms.length - 1 := by omega
    rw [eN]
    refine ⟨by omega, by omega, lc_rangeI (fun _ => 0) (by omega) (fun x => rfl) (fun i G hi sm Q' k' => ?_) (fun f G nf sm ef => ?_)⟩
    · simp only [ap_seq, ap_next, ap_asg, ap_gName, ap_ret, ap_retN, ap_drop, ap_ifS, ap_break, ap_cont, ap_par, ap_aug, ap_ip, ap_gSub, ap_gTup, ap_gNil, ap_gCons, ap_var, ap_c, ap_op, ap_un, ap_if, ap_test, ap_B, ap_and, ap_or, ap_not, ap_andV, ap_orV, ap_notV, ap_nil, ap_cons, ap_tup, ap_lst, ap_cb, ap_bm, ap_call, ap_chain, ap_rI, ap_rI0, ap_rU, ap_rEq, ap_rNe, ap_revT, ap_sl, ap_part, ap_noPart, ap_ixLI, ap_ixTI, ap_ixLV, ap_ixTV, ap_len, ap_setLI, ap_setLV, ap_appI, ap_appV, ap_tupL, ap_listS, ap_sumLI, ap_sumTI, ap_repLI, ap_intI, ap_intB, ap_eqTI, ap_neTI, ap_eqLI, ap_neLI, ap_isi, ap_for, ap_rng1, ap_rng2, ap_iList, ap_iTup, ap_lc, ap_yes, ap_cut, ap_gTupH, ap_fmt, ap_jsn, ap_jsc, ap_gcd, ap_isqrt, ap_ixL, tyV_l, wipe_nil, wipe_cons, upd_same, ap_iEnT, ap_iEnL, ap_iZipA, ap_all, ap_tupT, ap_attF, ap_makeL, ap_att, ap_prop, ap_isO, ap_bin, ap_ne, ap_meth, ap_make, ins_inj, FE_inj, ap_slI, ap_catI, ap_perm, ap_lenO, ap_strO, ap_listO, ap_reprB, ap_iterT, ap_neT, ap_negO, ap_binI, ap_catL, ap_tM1, ap_repTI, ap_popN, ap_par3, ap_catTT, ap_repTA, ap_countT, ap_notInT, ap_repL1, ap_cm, ap_shl, ap_shr, ap_mask, ap_comb, ap_bits, ap_rng3, List.set_cons_zero, List.set_cons_succ, List.getElem?_cons_zero, List.getElem?_cons_succ, List.cons_append, List.nil_append, List.append_nil, Option.some.injEq, V.int.injEq, V.ref.injEq, V.bl.injEq, V.str.injEq, V.ty.injEq, Bool.not_true, Bool.not_false, HO.lst.injEq, HO.tup.injEq, reduceCtorEq, Int.reduceToNat, Int.reduceLT, Int.reduceLE, Nat.reduceAdd, Int.cast_ofNat_Int, gi_c0, gi_c1, gi_c2, gi_c3, Int.natCast_inj, map_int_inj, map_nil_iff, List.cons.injEq, exists_eq_left, exists_eq_left', exists_eq, exists_eq', exists_and_left, exists_and_right, exists_const, and_assoc, and_true, true_and, and_false, false_and, or_false, false_or, or_true, true_or, ite_true, ite_false, if_true, if_false, Bool.false_eq_true, own_cons, own_nil, le1, le2, le3, le4, me_cons, me_nil, List.length_map, List.length_cons, List.length_nil, ne_eq, not_false_eq_true, not_true_eq_false, decide_eq_true_eq]
      exact k' G (Same.refl G)
    · refine ⟨⟨_, sqT_of (sm _ _ hp)⟩, loop_pair gives_en (fun i σ' H' => (∃ y1 y2 y3 y4 y9, σ' = [some (V.ref p), some (V.ref q), some (V.ref f), y1, y2, y3, y4, y9]) ∧ Same H H' ∧ H' f = some (LI ((List.range (ns.length + ms.length - 1)).map (cv ns ms i)))) ⟨⟨_, _, _, _, _, rfl⟩, sm, ef⟩ (fun i σ' H' hi hP => hP.2.1 _ _ hp) (fun i a b t σ' G1 hi hP nt r => ?_) (fun σ' G1 hP => ?_)⟩
      · obtain ⟨⟨y1, y2, y3, y4, y9, e⟩, sm1, ef1⟩ := hP
        obtain ⟨rfl, r⟩ := r
        obtain ⟨n, rfl, en⟩ := at_int r
        subst e
        have s2 := same_upd (o := HO.tup [V.int (i : Nat), V.int n]) nt
        have hq2 := s2 _ _ (sm1 _ _ hq)
        have ef2 := s2 _ _ ef1
        have bn := b1 n (List.mem_of_getElem? en)
        have li : i < ns.length := (List.getElem?_eq_some_iff.mp en).1
        rw [← cvj_zero] at ef2
        simp only [ap_seq, ap_next, ap_asg, ap_gName, ap_ret, ap_retN, ap_drop, ap_ifS, ap_break, ap_cont, ap_par, ap_aug, ap_ip, ap_gSub, ap_gTup, ap_gNil, ap_gCons, ap_var, ap_c, ap_op, ap_un, ap_if, ap_test, ap_B, ap_and, ap_or, ap_not, ap_andV, ap_orV, ap_notV, ap_nil, ap_cons, ap_tup, ap_lst, ap_cb, ap_bm, ap_call, ap_chain, ap_rI, ap_rI0, ap_rU, ap_rEq, ap_rNe, ap_revT, ap_sl, ap_part, ap_noPart, ap_ixLI, ap_ixTI, ap_ixLV, ap_ixTV, ap_len, ap_setLI, ap_setLV, ap_appI, ap_appV, ap_tupL, ap_listS, ap_sumLI, ap_sumTI, ap_repLI, ap_intI, ap_intB, ap_eqTI, ap_neTI, ap_eqLI, ap_neLI, ap_isi, ap_for, ap_rng1, ap_rng2, ap_iList, ap_iTup, ap_lc, ap_yes, ap_cut, ap_gTupH, ap_fmt, ap_jsn, ap_jsc, ap_gcd, ap_isqrt, ap_ixL, tyV_l, wipe_nil, wipe_cons, upd_same, ap_iEnT, ap_iEnL, ap_iZipA, ap_all, ap_tupT, ap_attF, ap_makeL, ap_att, ap_prop, ap_isO, ap_bin, ap_ne, ap_meth, ap_make, ins_inj, FE_inj, ap_slI, ap_catI, ap_perm, ap_lenO, ap_strO, ap_listO, ap_reprB, ap_iterT, ap_neT, ap_negO, ap_binI, ap_catL, ap_tM1, ap_repTI, ap_popN, ap_par3, ap_catTT, ap_repTA, ap_countT, ap_notInT, ap_repL1, ap_cm, ap_shl, ap_shr, ap_mask, ap_comb, ap_bits, ap_rng3, List.set_cons_zero, List.set_cons_succ, List.getElem?_cons_zero, List.getElem?_cons_succ, List.cons_append, List.nil_append, List.append_nil, Option.some.injEq, V.int.injEq, V.ref.injEq, V.bl.injEq, V.str.injEq, V.ty.injEq, Bool.not_true, Bool.not_false, HO.lst.injEq, HO.tup.injEq, reduceCtorEq, Int.reduceToNat, Int.reduceLT, Int.reduceLE, Nat.reduceAdd, Int.cast_ofNat_Int, gi_c0, gi_c1, gi_c2, gi_c3, Int.natCast_inj, map_int_inj, map_nil_iff, List.cons.injEq, exists_eq_left, exists_eq_left', exists_eq, exists_eq', exists_and_left, exists_and_right, exists_const, and_assoc, and_true, true_and, and_false, false_and, or_false, false_or, or_true, true_or, ite_true, ite_false, if_true, if_false, Bool.false_eq_true, own_cons, own_nil, le1, le2, le3, le4, me_cons, me_nil, List.length_map, List.length_cons, List.length_nil, ne_eq, not_false_eq_true, not_true_eq_false, decide_eq_true_eq]
        refine ⟨⟨_, sqT_of hq2⟩, loop_pair gives_en (fun j σ' H' => (∃ y5 y6, σ' = [some (V.ref p), some (V.ref q), some (V.ref f), some (V.int (i : Nat)), some (V.int n), y5, y6, y9]) ∧ Same H H' ∧ H' f = some (LI ((List.range (ns.length + ms.length - 1)).map (cvj ns ms i j)))) ⟨⟨_, _, rfl⟩, sm1.trans s2, ef2⟩ (fun j σ' H' hj hP => hP.2.1 _ _ hq) (fun j a b u σ' G2 hj hP nu r => ?_) (fun σ' G2 hP => ?_)⟩
        · obtain ⟨⟨y5, y6, e⟩, sm3, ef3⟩ := hP
          obtain ⟨rfl, r⟩ := r
          obtain ⟨m, rfl, em⟩ := at_int r
          subst e
          have s4 := same_upd (o := HO.tup [V.int (j : Nat), V.int m]) nu
          have ef4 := s4 _ _ ef3
          have bm := b2 m (List.mem_of_getElem? em)
          have lj : j < ms.length := (List.getElem?_eq_some_iff.mp em).1
          unfold Wd at bn bm
          simp only [ap_seq, ap_next, ap_asg, ap_gName, ap_ret, ap_retN, ap_drop, ap_ifS, ap_break, ap_cont, ap_par, ap_aug, ap_ip, ap_gSub, ap_gTup, ap_gNil, ap_gCons, ap_var, ap_c, ap_op, ap_un, ap_if, ap_test, ap_B, ap_and, ap_or, ap_not, ap_andV, ap_orV, ap_notV, ap_nil, ap_cons, ap_tup, ap_lst, ap_cb, ap_bm, ap_call, ap_chain, ap_rI, ap_rI0, ap_rU, ap_rEq, ap_rNe, ap_revT, ap_sl, ap_part, ap_noPart, ap_ixLI, ap_ixTI, ap_ixLV, ap_ixTV, ap_len, ap_setLI, ap_setLV, ap_appI, ap_appV, ap_tupL, ap_listS, ap_sumLI, ap_sumTI, ap_repLI, ap_intI, ap_intB, ap_eqTI, ap_neTI, ap_eqLI, ap_neLI, ap_isi, ap_for, ap_rng1, ap_rng2, ap_iList, ap_iTup, ap_lc, ap_yes, ap_cut, ap_gTupH, ap_fmt, ap_jsn, ap_jsc, ap_gcd, ap_isqrt, ap_ixL, tyV_l, wipe_nil, wipe_cons, upd_same, ap_iEnT, ap_iEnL, ap_iZipA, ap_all, ap_tupT, ap_attF, ap_makeL, ap_att, ap_prop, ap_isO, ap_bin, ap_ne, ap_meth, ap_make, ins_inj, FE_inj, ap_slI, ap_catI, ap_perm, ap_lenO, ap_strO, ap_listO, ap_reprB, ap_iterT, ap_neT, ap_negO, ap_binI, ap_catL, ap_tM1, ap_repTI, ap_popN, ap_par3, ap_catTT, ap_repTA, ap_countT, ap_notInT, ap_repL1, ap_cm, ap_shl, ap_shr, ap_mask, ap_comb, ap_bits, ap_rng3, List.set_cons_zero, List.set_cons_succ, List.getElem?_cons_zero, List.getElem?_cons_succ, List.cons_append, List.nil_append, List.append_nil, Option.some.injEq, V.int.injEq, V.ref.injEq, V.bl.injEq, V.str.injEq, V.ty.injEq, Bool.not_true, Bool.not_false, HO.lst.injEq, HO.tup.injEq, reduceCtorEq, Int.reduceToNat, Int.reduceLT, Int.reduceLE, Nat.reduceAdd, Int.cast_ofNat_Int, gi_c0, gi_c1, gi_c2, gi_c3, Int.natCast_inj, map_int_inj, map_nil_iff, List.cons.injEq, exists_eq_left, exists_eq_left', exists_eq, exists_eq', exists_and_left, exists_and_right, exists_const, and_assoc, and_true, true_and, and_false, false_and, or_false, false_or, or_true, true_or, ite_true, ite_false, if_true, if_false, Bool.false_eq_true, own_cons, own_nil, le1, le2, le3, le4, me_cons, me_nil, List.length_map, List.length_cons, List.length_nil, ne_eq, not_false_eq_true, not_true_eq_false, decide_eq_true_eq, CMu, ef4]
          have eij : (i : Int) + (j : Int) = ((i + j : Nat) : Int) := by omega
          rw [eij, Int.toNat_natCast, gi_range (by omega), range_set, cvj_step en em, List.length_range]
          refine ⟨by omega, by omega, by omega, by omega, by omega, by omega, by omega, by omega, same_mut (sm3.trans s4) nf, rfl⟩
        · obtain ⟨⟨y5, y6, e⟩, sm3, ef3⟩ := hP
          subst e
          rw [List.length_map, cvj_full] at ef3
          exact ⟨⟨_, _, _, _, _, rfl⟩, sm3, ef3⟩
      · obtain ⟨⟨y1, y2, y3, y4, y9, e⟩, sm1, ef1⟩ := hP
        subst e
        rw [List.length_map] at ef1
        simp only [ap_seq, ap_next, ap_asg, ap_gName, ap_ret, ap_retN, ap_drop, ap_ifS, ap_break, ap_cont, ap_par, ap_aug, ap_ip, ap_gSub, ap_gTup, ap_gNil, ap_gCons, ap_var, ap_c, ap_op, ap_un, ap_if, ap_test, ap_B, ap_and, ap_or, ap_not, ap_andV, ap_orV, ap_notV, ap_nil, ap_cons, ap_tup, ap_lst, ap_cb, ap_bm, ap_call, ap_chain, ap_rI, ap_rI0, ap_rU, ap_rEq, ap_rNe, ap_revT, ap_sl, ap_part, ap_noPart, ap_ixLI, ap_ixTI, ap_ixLV, ap_ixTV, ap_len, ap_setLI, ap_setLV, ap_appI, ap_appV, ap_tupL, ap_listS, ap_sumLI, ap_sumTI, ap_repLI, ap_intI, ap_intB, ap_eqTI, ap_neTI, ap_eqLI, ap_neLI, ap_isi, ap_for, ap_rng1, ap_rng2, ap_iList, ap_iTup, ap_lc, ap_yes, ap_cut, ap_gTupH, ap_fmt, ap_jsn, ap_jsc, ap_gcd, ap_isqrt, ap_ixL, tyV_l, wipe_nil, wipe_cons, upd_same, ap_iEnT, ap_iEnL, ap_iZipA, ap_all, ap_tupT, ap_attF, ap_makeL, ap_att, ap_prop, ap_isO, ap_bin, ap_ne, ap_meth, ap_make, ins_inj, FE_inj, ap_slI, ap_catI, ap_perm, ap_lenO, ap_strO, ap_listO, ap_reprB, ap_iterT, ap_neT, ap_negO, ap_binI, ap_catL, ap_tM1, ap_repTI, ap_popN, ap_par3, ap_catTT, ap_repTA, ap_countT, ap_notInT, ap_repL1, ap_cm, ap_shl, ap_shr, ap_mask, ap_comb, ap_bits, ap_rng3, List.set_cons_zero, List.set_cons_succ, List.getElem?_cons_zero, List.getElem?_cons_succ, List.cons_append, List.nil_append, List.append_nil, Option.some.injEq, V.int.injEq, V.ref.injEq, V.bl.injEq, V.str.injEq, V.ty.injEq, Bool.not_true, Bool.not_false, HO.lst.injEq, HO.tup.injEq, reduceCtorEq, Int.reduceToNat, Int.reduceLT, Int.reduceLE, Nat.reduceAdd, Int.cast_ofNat_Int, gi_c0, gi_c1, gi_c2, gi_c3, Int.natCast_inj, map_int_inj, map_nil_iff, List.cons.injEq, exists_eq_left, exists_eq_left', exists_eq, exists_eq', exists_and_left, exists_and_right, exists_const, and_assoc, and_true, true_and, and_false, false_and, or_false, false_or, or_true, true_or, ite_true, ite_false, if_true, if_false, Bool.false_eq_true, own_cons, own_nil, le1, le2, le3, le4, me_cons, me_nil, List.length_map, List.length_cons, List.length_nil, ne_eq, not_false_eq_true, not_true_eq_false, decide_eq_true_eq, ef1]
        exact fun l nl => k _ l (sm1.trans (same_upd nl)) (free_of sm1 nl) upd_same
/-! ### the class -/
theorem isC (T : Tx K mg) : IsC K T.C_Form := ⟨T.cl_Form, T.x_cls, T.x_get, T.x_tak, T.x_obj, T.x_ty, T.x_int, T.x_tup⟩
abbrev FEe (t : Addr) : List (Str × V) := FE "_entries" t
/-- entries that may be passed -/
structure Good (es : List Int) : Prop where
  lo : 1 ≤ es.length
  hi : es.length ≤ 41
  sm : ∀ n ∈ es, Sm n
def sp_Form___init__ (C : Addr) : Sp := fun vs H Q _ => ∃ (x dx t : Addr) (es : List Int), vs = [.ref x, .ref t] ∧ H x = some (.ins C dx []) ∧ H t = some (TI es) ∧ Good es ∧
  ∀ H', (∀ b o, b ≠ x → H b = some o → H' b = some o) → H' x = some (.ins C dx (FEe t)) → Q .non H'
theorem ok_Form___init__ (T : Tx K mg) : FnOk P w K mg base CX0 8 T.f_Form___init__ T.d_Form___init__ p_Form___init__ (sp_Form___init__ T.C_Form) := by
  refine T.F_Form___init__.ok sc_Form___init__ (fun vs H Q E h => ?_) (fun cdv A outer s H vs Q E hr h => ?_)
  · obtain ⟨x, dx, t, es, rfl, _⟩ := h
    rfl
  · obtain ⟨x, dx, t, es, rfl, hx, ht, g, q⟩ := h
    refine ⟨_, (pss_cons (ps_if (PW.pt (pw_or (pt_not (pt_val (pe_call (ok_is_row T) (hr.mono (by decide)) (by rfl) T.m_is_row T.F_is_row.kp T.b_is_row .nil pass0 (pa_cons (pv 1) pa_nil)))) (pw_or1 (pt_not (pt_chain op_le op_le pe_int (pe_callB cr_len (by rfl) T.z_len PySem.boot_len (pa_cons (pv 1) pa_nil)) (pe_op op_add (pe_glob (v := .int 40) (by rfl) T.c_MAX_DEGREE ⟨_, rfl⟩) pe_int)))))) (pss_one ps_never) pss_nil)
      (pss_one (ps_fld (pv 0) (pv 1) rfl))), ?_⟩
    rw [st_Form___init__]
    have h1 := g.lo
    have h2 := g.hi
    simp only [ap_seq, ap_next, ap_asg, ap_gName, ap_ret, ap_retN, ap_drop, ap_ifS, ap_break, ap_cont, ap_par, ap_aug, ap_ip, ap_gSub, ap_gTup, ap_gNil, ap_gCons, ap_var, ap_c, ap_op, ap_un, ap_if, ap_test, ap_B, ap_and, ap_or, ap_not, ap_andV, ap_orV, ap_notV, ap_nil, ap_cons, ap_tup, ap_lst, ap_cb, ap_bm, ap_call, ap_chain, ap_rI, ap_rI0, ap_rU, ap_rEq, ap_rNe, ap_revT, ap_sl, ap_part, ap_noPart, ap_ixLI, ap_ixTI, ap_ixLV, ap_ixTV, ap_len, ap_setLI, ap_setLV, ap_appI, ap_appV, ap_tupL, ap_listS, ap_sumLI, ap_sumTI, ap_repLI, ap_intI, ap_intB, ap_eqTI, ap_neTI, ap_eqLI, ap_neLI, ap_isi, ap_for, ap_rng1, ap_rng2, ap_iList, ap_iTup, ap_lc, ap_yes, ap_cut, ap_gTupH, ap_fmt, ap_jsn, ap_jsc, ap_gcd, ap_isqrt, ap_ixL, tyV_l, wipe_nil, wipe_cons, upd_same, ap_iEnT, ap_iEnL, ap_iZipA, ap_all, ap_tupT, ap_attF, ap_makeL, ap_att, ap_prop, ap_isO, ap_bin, ap_ne, ap_meth, ap_make, ins_inj, FE_inj, ap_slI, ap_catI, ap_perm, ap_lenO, ap_strO, ap_listO, ap_reprB, ap_iterT, ap_neT, ap_negO, ap_binI, ap_catL, ap_tM1, ap_repTI, ap_popN, ap_par3, ap_catTT, ap_repTA, ap_countT, ap_notInT, ap_repL1, ap_cm, ap_shl, ap_shr, ap_mask, ap_comb, ap_bits, ap_rng3, List.set_cons_zero, List.set_cons_succ, List.getElem?_cons_zero, List.getElem?_cons_succ, List.cons_append, List.nil_append, List.append_nil, Option.some.injEq, V.int.injEq, V.ref.injEq, V.bl.injEq, V.str.injEq, V.ty.injEq, Bool.not_true, Bool.not_false, HO.lst.injEq, HO.tup.injEq, reduceCtorEq, Int.reduceToNat, Int.reduceLT, Int.reduceLE, Nat.reduceAdd, Int.cast_ofNat_Int, gi_c0, gi_c1, gi_c2, gi_c3, Int.natCast_inj, map_int_inj, map_nil_iff, List.cons.injEq, exists_eq_left, exists_eq_left', exists_eq, exists_eq', exists_and_left, exists_and_right, exists_const, and_assoc, and_true, true_and, and_false, false_and, or_false, false_or, or_true, true_or, ite_true, ite_false, if_true, if_false, Bool.false_eq_true, own_cons, own_nil, le1, le2, le3, le4, me_cons, me_nil, List.length_map, List.length_cons, List.length_nil, ne_eq, not_false_eq_true, not_true_eq_false, decide_eq_true_eq, sp_is_row]
    refine ⟨es, ht, by omega, g.sm, fun H1 s1 => ?_⟩
    have ht1 := s1 _ _ ht
    have hx1 := s1 _ _ hx
    refine ⟨_, .inr ht1, ?_⟩
    rw [List.length_map, if_pos (by omega), decide_eq_true (by omega), if_neg (by simp)]
    refine ⟨_, rfl, _, rfl, x, T.C_Form, dx, _, rfl, hx1, T.cl_Form, T.no_Form_entries, by decide, ?_⟩
    refine q _ (fun b o hb e => ?_) upd_same
    rw [upd_ne hb]
    exact s1 _ _ e
/-- a new form -/
theorem new_ok {H1 : Hp} {t C : Addr} {es : List Int} {Q : VK} (h : H1 t = some (TI es)) (g : Good es) (k : ∀ p dx H', Same H1 H' → H1 p = none → H' p = some (.ins C dx (FEe t)) → Q (.ref p) H') :
    NewV C (sp_Form___init__ C) [] E0 [.ref t] H1 Q := fun x dx nx ndx ne => by
  have ntx : t ≠ x := ne_of_none h nx
  have ntd : t ≠ dx := ne_of_none h ndx
  refine ⟨x, dx, t, es, rfl, upd_same, by rw [upd_ne ntx, upd_ne ntd]; exact h, g, fun H' s hx => ⟨rfl, k x dx H' (fun b o e => ?_) nx hx⟩⟩
  have nbx : b ≠ x := ne_of_none e nx
  have nbd : b ≠ dx := ne_of_none e ndx
  exact s _ _ nbx (by rw [upd_ne nbx, upd_ne nbd]; exact e)
def sp_made_form (C : Addr) : Sp := fun vs H Q _ => ∃ (t : Addr) (o : HO), vs = [.ref t] ∧ H t = some o ∧ ∀ p dx H', Same H H' → H p = none → H' p = some (.ins C dx (FEe t)) → Q (.ref p) H'
theorem ok_made_form (T : Tx K mg) : FnOk P w K mg base CX0 11 T.f_made_form T.d_made_form p_made_form (sp_made_form T.C_Form) := by
  refine T.F_made_form.ok sc_made_form (fun vs H Q E h => ?_) (fun cdv A outer s H vs Q E hr h => ?_)
  · obtain ⟨t, o, rfl, _⟩ := h
    rfl
  · obtain ⟨t, o, rfl, ht, q⟩ := h
    refine ⟨_, (pss_cons (ps_set (i := 1) sc_made_form.nd rfl (Or.inl rfl) (pe_make T.mk_Form (ok_Form___init__ T) (hr.mono (by decide)) (by rfl) T.mg_Form T.b_Form___init__ .nil pass0 (pa_cons (pe_tup (pa_cons pe_int pa_nil)) pa_nil)))
      (pss_cons (ps_fld (pv 1) (pv 0) rfl)
      (pss_one (ps_ret (pv 1))))), ?_⟩
    rw [st_made_form]
    simp only [ap_seq, ap_next, ap_asg, ap_gName, ap_ret, ap_retN, ap_drop, ap_ifS, ap_break, ap_cont, ap_par, ap_aug, ap_ip, ap_gSub, ap_gTup, ap_gNil, ap_gCons, ap_var, ap_c, ap_op, ap_un, ap_if, ap_test, ap_B, ap_and, ap_or, ap_not, ap_andV, ap_orV, ap_notV, ap_nil, ap_cons, ap_tup, ap_lst, ap_cb, ap_bm, ap_call, ap_chain, ap_rI, ap_rI0, ap_rU, ap_rEq, ap_rNe, ap_revT, ap_sl, ap_part, ap_noPart, ap_ixLI, ap_ixTI, ap_ixLV, ap_ixTV, ap_len, ap_setLI, ap_setLV, ap_appI, ap_appV, ap_tupL, ap_listS, ap_sumLI, ap_sumTI, ap_repLI, ap_intI, ap_intB, ap_eqTI, ap_neTI, ap_eqLI, ap_neLI, ap_isi, ap_for, ap_rng1, ap_rng2, ap_iList, ap_iTup, ap_lc, ap_yes, ap_cut, ap_gTupH, ap_fmt, ap_jsn, ap_jsc, ap_gcd, ap_isqrt, ap_ixL, tyV_l, wipe_nil, wipe_cons, upd_same, ap_iEnT, ap_iEnL, ap_iZipA, ap_all, ap_tupT, ap_attF, ap_makeL, ap_att, ap_prop, ap_isO, ap_bin, ap_ne, ap_meth, ap_make, ins_inj, FE_inj, ap_slI, ap_catI, ap_perm, ap_lenO, ap_strO, ap_listO, ap_reprB, ap_iterT, ap_neT, ap_negO, ap_binI, ap_catL, ap_tM1, ap_repTI, ap_popN, ap_par3, ap_catTT, ap_repTA, ap_countT, ap_notInT, ap_repL1, ap_cm, ap_shl, ap_shr, ap_mask, ap_comb, ap_bits, ap_rng3, List.set_cons_zero, List.set_cons_succ, List.getElem?_cons_zero, List.getElem?_cons_succ, List.cons_append, List.nil_append, List.append_nil, Option.some.injEq, V.int.injEq, V.ref.injEq, V.bl.injEq, V.str.injEq, V.ty.injEq, Bool.not_true, Bool.not_false, HO.lst.injEq, HO.tup.injEq, reduceCtorEq, Int.reduceToNat, Int.reduceLT, Int.reduceLE, Nat.reduceAdd, Int.cast_ofNat_Int, gi_c0, gi_c1, gi_c2, gi_c3, Int.natCast_inj, map_int_inj, map_nil_iff, List.cons.injEq, exists_eq_left, exists_eq_left', exists_eq, exists_eq', exists_and_left, exists_and_right, exists_const, and_assoc, and_true, true_and, and_false, false_and, or_false, false_or, or_true, true_or, ite_true, ite_false, if_true, if_false, Bool.false_eq_true, own_cons, own_nil, le1, le2, le3, le4, me_cons, me_nil, List.length_map, List.length_cons, List.length_nil, ne_eq, not_false_eq_true, not_true_eq_false, decide_eq_true_eq]
    trace_state
    refine ⟨by decide, fun u nu => new_ok (es := [0]) upd_same ⟨by decide, by decide, ?_⟩ fun p dx H1 s1 np hp => ?_⟩
    · intro n hn
      rw [List.mem_singleton] at hn
      subst hn
      unfold Sm
      omega
    · refine ⟨_, rfl, _, rfl, p, T.C_Form, dx, _, rfl, hp, T.cl_Form, T.no_Form_entries, by simp [FE], ?_⟩
      rw [FE_put]
      simp only [ap_seq, ap_next, ap_asg, ap_gName, ap_ret, ap_retN, ap_drop, ap_ifS, ap_break, ap_cont, ap_par, ap_aug, ap_ip, ap_gSub, ap_gTup, ap_gNil, ap_gCons, ap_var, ap_c, ap_op, ap_un, ap_if, ap_test, ap_B, ap_and, ap_or, ap_not, ap_andV, ap_orV, ap_notV, ap_nil, ap_cons, ap_tup, ap_lst, ap_cb, ap_bm, ap_call, ap_chain, ap_rI, ap_rI0, ap_rU, ap_rEq, ap_rNe, ap_revT, ap_sl, ap_part, ap_noPart, ap_ixLI, ap_ixTI, ap_ixLV, ap_ixTV, ap_len, ap_setLI, ap_setLV, ap_appI, ap_appV, ap_tupL, ap_listS, ap_sumLI, ap_sumTI, ap_repLI, ap_intI, ap_intB, ap_eqTI, ap_neTI, ap_eqLI, ap_neLI, ap_isi, ap_for, ap_rng1, ap_rng2, ap_iList, ap_iTup, ap_lc, ap_yes, ap_cut, ap_gTupH, ap_fmt, ap_jsn, ap_jsc, ap_gcd, ap_isqrt, ap_ixL, tyV_l, wipe_nil, wipe_cons, upd_same, ap_iEnT, ap_iEnL, ap_iZipA, ap_all, ap_tupT, ap_attF, ap_makeL, ap_att, ap_prop, ap_isO, ap_bin, ap_ne, ap_meth, ap_make, ins_inj, FE_inj, ap_slI, ap_catI, ap_perm, ap_lenO, ap_strO, ap_listO, ap_reprB, ap_iterT, ap_neT, ap_negO, ap_binI, ap_catL, ap_tM1, ap_repTI, ap_popN, ap_par3, ap_catTT, ap_repTA, ap_countT, ap_notInT, ap_repL1, ap_cm, ap_shl, ap_shr, ap_mask, ap_comb, ap_bits, ap_rng3, List.set_cons_zero, List.set_cons_succ, List.getElem?_cons_zero, List.getElem?_cons_succ, List.cons_append, List.nil_append, List.append_nil, Option.some.injEq, V.int.injEq, V.ref.injEq, V.bl.injEq, V.str.injEq, V.ty.injEq, Bool.not_true, Bool.not_false, HO.lst.injEq, HO.tup.injEq, reduceCtorEq, Int.reduceToNat, Int.reduceLT, Int.reduceLE, Nat.reduceAdd, Int.cast_ofNat_Int, gi_c0, gi_c1, gi_c2, gi_c3, Int.natCast_inj, map_int_inj, map_nil_iff, List.cons.injEq, exists_eq_left, exists_eq_left', exists_eq, exists_eq', exists_and_left, exists_and_right, exists_const, and_assoc, and_true, true_and, and_false, false_and, or_false, false_or, or_true, true_or, ite_true, ite_false, if_true, if_false, Bool.false_eq_true, own_cons, own_nil, le1, le2, le3, le4, me_cons, me_nil, List.length_map, List.length_cons, List.length_nil, ne_eq, not_false_eq_true, not_true_eq_false, decide_eq_true_eq]
      have s0 := same_upd (o := HO.tup [V.int 0]) nu
      have np0 : H p = none := free_of s0 np
      refine q p dx _ (fun b o e => ?_) np0 upd_same
      rw [upd_ne (ne_of_none e np0)]
      exact s1 _ _ (s0 _ _ e)
/-! ### properties -/
def sp_Form_entries (C : Addr) : Sp := fun vs H Q _ => ∃ (p dx t : Addr), vs = [.ref p] ∧ H p = some (.ins C dx (FEe t)) ∧ Q (.ref t) H
theorem ok_Form_entries (T : Tx K mg) : FnOk P w K mg base CX0 2 T.f_Form_entries T.d_Form_entries p_Form_entries (sp_Form_entries T.C_Form) := by
  refine T.F_Form_entries.ok sc_Form_entries (fun vs H Q E h => ?_) (fun cdv A outer s H vs Q E hr h => ?_)
  · obtain ⟨p, dx, t, rfl, _⟩ := h
    rfl
  · obtain ⟨p, dx, t, rfl, hp, q⟩ := h
    refine ⟨_, (pss_one (ps_ret (pe_att (pe_fld (pv 0) rfl) mono_var T.cl_Form T.no_Form_entries))), ?_⟩
    rw [st_Form_entries]
    simp only [ap_seq, ap_next, ap_asg, ap_gName, ap_ret, ap_retN, ap_drop, ap_ifS, ap_break, ap_cont, ap_par, ap_aug, ap_ip, ap_gSub, ap_gTup, ap_gNil, ap_gCons, ap_var, ap_c, ap_op, ap_un, ap_if, ap_test, ap_B, ap_and, ap_or, ap_not, ap_andV, ap_orV, ap_notV, ap_nil, ap_cons, ap_tup, ap_lst, ap_cb, ap_bm, ap_call, ap_chain, ap_rI, ap_rI0, ap_rU, ap_rEq, ap_rNe, ap_revT, ap_sl, ap_part, ap_noPart, ap_ixLI, ap_ixTI, ap_ixLV, ap_ixTV, ap_len, ap_setLI, ap_setLV, ap_appI, ap_appV, ap_tupL, ap_listS, ap_sumLI, ap_sumTI, ap_repLI, ap_intI, ap_intB, ap_eqTI, ap_neTI, ap_eqLI, ap_neLI, ap_isi, ap_for, ap_rng1, ap_rng2, ap_iList, ap_iTup, ap_lc, ap_yes, ap_cut, ap_gTupH, ap_fmt, ap_jsn, ap_jsc, ap_gcd, ap_isqrt, ap_ixL, tyV_l, wipe_nil, wipe_cons, upd_same, ap_iEnT, ap_iEnL, ap_iZipA, ap_all, ap_tupT, ap_attF, ap_makeL, ap_att, ap_prop, ap_isO, ap_bin, ap_ne, ap_meth, ap_make, ins_inj, FE_inj, ap_slI, ap_catI, ap_perm, ap_lenO, ap_strO, ap_listO, ap_reprB, ap_iterT, ap_neT, ap_negO, ap_binI, ap_catL, ap_tM1, ap_repTI, ap_popN, ap_par3, ap_catTT, ap_repTA, ap_countT, ap_notInT, ap_repL1, ap_cm, ap_shl, ap_shr, ap_mask, ap_comb, ap_bits, ap_rng3, List.set_cons_zero, List.set_cons_succ, List.getElem?_cons_zero, List.getElem?_cons_succ, List.cons_append, List.nil_append, List.append_nil, Option.some.injEq, V.int.injEq, V.ref.injEq, V.bl.injEq, V.str.injEq, V.ty.injEq, Bool.not_true, Bool.not_false, HO.lst.injEq, HO.tup.injEq, reduceCtorEq, Int.reduceToNat, Int.reduceLT, Int.reduceLE, Nat.reduceAdd, Int.cast_ofNat_Int, gi_c0, gi_c1, gi_c2, gi_c3, Int.natCast_inj, map_int_inj, map_nil_iff, List.cons.injEq, exists_eq_left, exists_eq_left', exists_eq, exists_eq', exists_and_left, exists_and_right, exists_const, and_assoc, and_true, true_and, and_false, false_and, or_false, false_or, or_true, true_or, ite_true, ite_false, if_true, if_false, Bool.false_eq_true, own_cons, own_nil, le1, le2, le3, le4, me_cons, me_nil, List.length_map, List.length_cons, List.length_nil, ne_eq, not_false_eq_true, not_true_eq_false, decide_eq_true_eq, hp]
    exact q
def sp_Form_degree (C : Addr) : Sp := fun vs H Q _ => ∃ (p dx t : Addr) (es : List Int), vs = [.ref p] ∧ H p = some (.ins C dx (FEe t)) ∧ H t = some (TI es) ∧ Q (.int (es.length - 1)) H
theorem ok_Form_degree (T : Tx K mg) : FnOk P w K mg base CX0 2 T.f_Form_degree T.d_Form_degree p_Form_degree (sp_Form_degree T.C_Form) := by
  refine T.F_Form_degree.ok sc_Form_degree (fun vs H Q E h => ?_) (fun cdv A outer s H vs Q E hr h => ?_)
  · obtain ⟨p, dx, t, es, rfl, _⟩ := h
    rfl
  · obtain ⟨p, dx, t, es, rfl, hp, ht, q⟩ := h
    refine ⟨_, (pss_one (ps_ret (pe_op op_sub (pe_callB cr_len (by rfl) T.z_len PySem.boot_len (pa_cons (pe_att (pe_fld (pv 0) rfl) mono_var T.cl_Form T.no_Form_entries) pa_nil)) pe_int))), ?_⟩
    rw [st_Form_degree]
    simp only [ap_seq, ap_next, ap_asg, ap_gName, ap_ret, ap_retN, ap_drop, ap_ifS, ap_break, ap_cont, ap_par, ap_aug, ap_ip, ap_gSub, ap_gTup, ap_gNil, ap_gCons, ap_var, ap_c, ap_op, ap_un, ap_if, ap_test, ap_B, ap_and, ap_or, ap_not, ap_andV, ap_orV, ap_notV, ap_nil, ap_cons, ap_tup, ap_lst, ap_cb, ap_bm, ap_call, ap_chain, ap_rI, ap_rI0, ap_rU, ap_rEq, ap_rNe, ap_revT, ap_sl, ap_part, ap_noPart, ap_ixLI, ap_ixTI, ap_ixLV, ap_ixTV, ap_len, ap_setLI, ap_setLV, ap_appI, ap_appV, ap_tupL, ap_listS, ap_sumLI, ap_sumTI, ap_repLI, ap_intI, ap_intB, ap_eqTI, ap_neTI, ap_eqLI, ap_neLI, ap_isi, ap_for, ap_rng1, ap_rng2, ap_iList, ap_iTup, ap_lc, ap_yes, ap_cut, ap_gTupH, ap_fmt, ap_jsn, ap_jsc, ap_gcd, ap_isqrt, ap_ixL, tyV_l, wipe_nil, wipe_cons, upd_same, ap_iEnT, ap_iEnL, ap_iZipA, ap_all, ap_tupT, ap_attF, ap_makeL, ap_att, ap_prop, ap_isO, ap_bin, ap_ne, ap_meth, ap_make, ins_inj, FE_inj, ap_slI, ap_catI, ap_perm, ap_lenO, ap_strO, ap_listO, ap_reprB, ap_iterT, ap_neT, ap_negO, ap_binI, ap_catL, ap_tM1, ap_repTI, ap_popN, ap_par3, ap_catTT, ap_repTA, ap_countT, ap_notInT, ap_repL1, ap_cm, ap_shl, ap_shr, ap_mask, ap_comb, ap_bits, ap_rng3, List.set_cons_zero, List.set_cons_succ, List.getElem?_cons_zero, List.getElem?_cons_succ, List.cons_append, List.nil_append, List.append_nil, Option.some.injEq, V.int.injEq, V.ref.injEq, V.bl.injEq, V.str.injEq, V.ty.injEq, Bool.not_true, Bool.not_false, HO.lst.injEq, HO.tup.injEq, reduceCtorEq, Int.reduceToNat, Int.reduceLT, Int.reduceLE, Nat.reduceAdd, Int.cast_ofNat_Int, gi_c0, gi_c1, gi_c2, gi_c3, Int.natCast_inj, map_int_inj, map_nil_iff, List.cons.injEq, exists_eq_left, exists_eq_left', exists_eq, exists_eq', exists_and_left, exists_and_right, exists_const, and_assoc, and_true, true_and, and_false, false_and, or_false, false_or, or_true, true_or, ite_true, ite_false, if_true, if_false, Bool.false_eq_true, own_cons, own_nil, le1, le2, le3, le4, me_cons, me_nil, List.length_map, List.length_cons, List.length_nil, ne_eq, not_false_eq_true, not_true_eq_false, decide_eq_true_eq, hp]
    refine ⟨_, .inr ht, ?_⟩
    rw [List.length_map]
    exact q
end
end My
namespace My
open PySem PySem.Spec PyProof.Rows L2 Pr
section
variable {P : Program} {w : World} {K : PySem.W.Frag} {mg : Str → Option Value} {base : Heap}
def sp_is_pair : Sp := fun vs H Q _ => ∃ (p : Addr) (a b : Int), vs = [.ref p] ∧ H p = some (TI [a, b]) ∧ Sm a ∧ Sm b ∧ ∀ H', Same H H' → Q (.bl true) H'
theorem ok_is_pair (T : Tx K mg) : FnOk P w K mg base CX0 5 T.f_is_pair T.d_is_pair p_is_pair sp_is_pair := by
  refine T.F_is_pair.ok sc_is_pair (fun vs H Q E h => ?_) (fun cdv A outer s H vs Q E hr h => ?_)
  · obtain ⟨p, a, b, rfl, _⟩ := h
    rfl
  · obtain ⟨p, a, b, rfl, hp, ba, bb, q⟩ := h
    refine ⟨_, (pss_one (ps_ret (pe_and (pe_call (ok_is_row T) (hr.mono (by decide)) (by rfl) T.m_is_row T.F_is_row.kp T.b_is_row .nil pass0 (pa_cons (pv 0) pa_nil)) (pe_one (pe_cmpR op_eq (pe_callB cr_len (by rfl) T.z_len PySem.boot_len (pa_cons (pv 0) pa_nil)) pe_int (nomark _)))))), ?_⟩
    rw [st_is_pair]
    simp only [ap_seq, ap_next, ap_asg, ap_gName, ap_ret, ap_retN, ap_drop, ap_ifS, ap_break, ap_cont, ap_par, ap_aug, ap_ip, ap_gSub, ap_gTup, ap_gNil, ap_gCons, ap_var, ap_c, ap_op, ap_un, ap_if, ap_test, ap_B, ap_and, ap_or, ap_not, ap_andV, ap_orV, ap_notV, ap_nil, ap_cons, ap_tup, ap_lst, ap_cb, ap_bm, ap_call, ap_chain, ap_rI, ap_rI0, ap_rU, ap_rEq, ap_rNe, ap_revT, ap_sl, ap_part, ap_noPart, ap_ixLI, ap_ixTI, ap_ixLV, ap_ixTV, ap_len, ap_setLI, ap_setLV, ap_appI, ap_appV, ap_tupL, ap_listS, ap_sumLI, ap_sumTI, ap_repLI, ap_intI, ap_intB, ap_eqTI, ap_neTI, ap_eqLI, ap_neLI, ap_isi, ap_for, ap_rng1, ap_rng2, ap_iList, ap_iTup, ap_lc, ap_yes, ap_cut, ap_gTupH, ap_fmt, ap_jsn, ap_jsc, ap_gcd, ap_isqrt, ap_ixL, tyV_l, wipe_nil, wipe_cons, upd_same, ap_iEnT, ap_iEnL, ap_iZipA, ap_all, ap_tupT, ap_attF, ap_makeL, ap_att, ap_prop, ap_isO, ap_bin, ap_ne, ap_meth, ap_make, ins_inj, FE_inj, ap_slI, ap_catI, ap_perm, ap_lenO, ap_strO, ap_listO, ap_reprB, ap_iterT, ap_neT, ap_negO, ap_binI, ap_catL, ap_tM1, ap_repTI, ap_popN, ap_par3, ap_catTT, ap_repTA, ap_countT, ap_notInT, ap_repL1, ap_cm, ap_shl, ap_shr, ap_mask, ap_comb, ap_bits, ap_rng3, List.set_cons_zero, List.set_cons_succ, List.getElem?_cons_zero, List.getElem?_cons_succ, List.cons_append, List.nil_append, List.append_nil, Option.some.injEq, V.int.injEq, V.ref.injEq, V.bl.injEq, V.str.injEq, V.ty.injEq, Bool.not_true, Bool.not_false, HO.lst.injEq, HO.tup.injEq, reduceCtorEq, Int.reduceToNat, Int.reduceLT, Int.reduceLE, Nat.reduceAdd, Int.cast_ofNat_Int, gi_c0, gi_c1, gi_c2, gi_c3, Int.natCast_inj, map_int_inj, map_nil_iff, List.cons.injEq, exists_eq_left, exists_eq_left', exists_eq, exists_eq', exists_and_left, exists_and_right, exists_const, and_assoc, and_true, true_and, and_false, false_and, or_false, false_or, or_true, true_or, ite_true, ite_false, if_true, if_false, Bool.false_eq_true, own_cons, own_nil, le1, le2, le3, le4, me_cons, me_nil, List.length_map, List.length_cons, List.length_nil, ne_eq, not_false_eq_true, not_true_eq_false, decide_eq_true_eq, sp_is_row]
    refine ⟨[a, b], hp, by simp, fun n hn => ?_, fun H1 s1 => ?_⟩
    · simp at hn
      rcases hn with rfl | rfl
      · exact ba
      · exact bb
    · have h1 := s1 _ _ hp
      simp only [ap_seq, ap_next, ap_asg, ap_gName, ap_ret, ap_retN, ap_drop, ap_ifS, ap_break, ap_cont, ap_par, ap_aug, ap_ip, ap_gSub, ap_gTup, ap_gNil, ap_gCons, ap_var, ap_c, ap_op, ap_un, ap_if, ap_test, ap_B, ap_and, ap_or, ap_not, ap_andV, ap_orV, ap_notV, ap_nil, ap_cons, ap_tup, ap_lst, ap_cb, ap_bm, ap_call, ap_chain, ap_rI, ap_rI0, ap_rU, ap_rEq, ap_rNe, ap_revT, ap_sl, ap_part, ap_noPart, ap_ixLI, ap_ixTI, ap_ixLV, ap_ixTV, ap_len, ap_setLI, ap_setLV, ap_appI, ap_appV, ap_tupL, ap_listS, ap_sumLI, ap_sumTI, ap_repLI, ap_intI, ap_intB, ap_eqTI, ap_neTI, ap_eqLI, ap_neLI, ap_isi, ap_for, ap_rng1, ap_rng2, ap_iList, ap_iTup, ap_lc, ap_yes, ap_cut, ap_gTupH, ap_fmt, ap_jsn, ap_jsc, ap_gcd, ap_isqrt, ap_ixL, tyV_l, wipe_nil, wipe_cons, upd_same, ap_iEnT, ap_iEnL, ap_iZipA, ap_all, ap_tupT, ap_attF, ap_makeL, ap_att, ap_prop, ap_isO, ap_bin, ap_ne, ap_meth, ap_make, ins_inj, FE_inj, ap_slI, ap_catI, ap_perm, ap_lenO, ap_strO, ap_listO, ap_reprB, ap_iterT, ap_neT, ap_negO, ap_binI, ap_catL, ap_tM1, ap_repTI, ap_popN, ap_par3, ap_catTT, ap_repTA, ap_countT, ap_notInT, ap_repL1, ap_cm, ap_shl, ap_shr, ap_mask, ap_comb, ap_bits, ap_rng3, List.set_cons_zero, List.set_cons_succ, List.getElem?_cons_zero, List.getElem?_cons_succ, List.cons_append, List.nil_append, List.append_nil, Option.some.injEq, V.int.injEq, V.ref.injEq, V.bl.injEq, V.str.injEq, V.ty.injEq, Bool.not_true, Bool.not_false, HO.lst.injEq, HO.tup.injEq, reduceCtorEq, Int.reduceToNat, Int.reduceLT, Int.reduceLE, Nat.reduceAdd, Int.cast_ofNat_Int, gi_c0, gi_c1, gi_c2, gi_c3, Int.natCast_inj, map_int_inj, map_nil_iff, List.cons.injEq, exists_eq_left, exists_eq_left', exists_eq, exists_eq', exists_and_left, exists_and_right, exists_const, and_assoc, and_true, true_and, and_false, false_and, or_false, false_or, or_true, true_or, ite_true, ite_false, if_true, if_false, Bool.false_eq_true, own_cons, own_nil, le1, le2, le3, le4, me_cons, me_nil, List.length_map, List.length_cons, List.length_nil, ne_eq, not_false_eq_true, not_true_eq_false, decide_eq_true_eq, h1]
      exact ⟨rfl, by rw [decide_eq_true trivial]; exact q H1 s1⟩
/-- two rows of two numbers at p -/
def TabAt (H : Hp) (p : Addr) (a b c d : Int) : Prop := ∃ r s, H p = some (.tup [.ref r, .ref s]) ∧ H r = some (TI [a, b]) ∧ H s = some (TI [c, d])
theorem TabAt.same {H H' : Hp} {p : Addr} {a b c d : Int} (h : TabAt H p a b c d) (s : Same H H') : TabAt H' p a b c d := by
  obtain ⟨r, t, h1, h2, h3⟩ := h
  exact ⟨r, t, s _ _ h1, s _ _ h2, s _ _ h3⟩
def sp_is_change : Sp := fun vs H Q _ => ∃ (p : Addr) (a b c d : Int), vs = [.ref p] ∧ TabAt H p a b c d ∧ Sm a ∧ Sm b ∧ Sm c ∧ Sm d ∧ ∀ H', Same H H' → Q (.bl true) H'
theorem ok_is_change (T : Tx K mg) : FnOk P w K mg base CX0 8 T.f_is_change T.d_is_change p_is_change sp_is_change := by
  refine T.F_is_change.ok sc_is_change (fun vs H Q E h => ?_) (fun cdv A outer s H vs Q E hr h => ?_)
  · obtain ⟨p, a, b, c, d, rfl, _⟩ := h
    rfl
  · obtain ⟨p, a, b, c, d, rfl, ⟨r, s', h1, h2, h3⟩, ba, bb, bc, bd, q⟩ := h
    refine ⟨_, (pss_one (ps_ret (pe_and (pe_callB cr_isiS (by rfl) T.z_isinstance (by decide +kernel) (pa_cons (pv 0) (pa_cons (pe_bltn (v := .ty "tuple") (by rfl) T.z_tuple (by decide +kernel) rfl) pa_nil))) (pe_and (pe_cmpR op_eq (pe_callB cr_len (by rfl) T.z_len PySem.boot_len (pa_cons (pv 0) pa_nil)) pe_int (nomark _)) (pe_one (pe_callB (cr_all rfl) (by rfl) T.z_all (by decide +kernel) (pa_cons (pe_lc (own := [("row", 1)]) (g := gName 1) (tt := tYes) rfl sc_is_change.nd (pi_tup (pv 0)) (blkOk_by (N := n_is_change) (sc := defScope s_is_change) (by decide +kernel)) (fun _ _ _ _ _ => (pg_name (i := 1) sc_is_change.nd rfl (by first | exact .inl rfl | exact .inr rfl))) (fun _ _ _ _ _ => pts_nil) (fun _ _ _ _ _ => (pe_call (ok_is_pair T) (hr.mono (by decide)) (by rfl) T.m_is_pair T.F_is_pair.kp T.b_is_pair .nil pass0 (pa_cons (pv 1) pa_nil)))) pa_nil))))))), ?_⟩
    rw [st_is_change]
    simp only [ap_seq, ap_next, ap_asg, ap_gName, ap_ret, ap_retN, ap_drop, ap_ifS, ap_break, ap_cont, ap_par, ap_aug, ap_ip, ap_gSub, ap_gTup, ap_gNil, ap_gCons, ap_var, ap_c, ap_op, ap_un, ap_if, ap_test, ap_B, ap_and, ap_or, ap_not, ap_andV, ap_orV, ap_notV, ap_nil, ap_cons, ap_tup, ap_lst, ap_cb, ap_bm, ap_call, ap_chain, ap_rI, ap_rI0, ap_rU, ap_rEq, ap_rNe, ap_revT, ap_sl, ap_part, ap_noPart, ap_ixLI, ap_ixTI, ap_ixLV, ap_ixTV, ap_len, ap_setLI, ap_setLV, ap_appI, ap_appV, ap_tupL, ap_listS, ap_sumLI, ap_sumTI, ap_repLI, ap_intI, ap_intB, ap_eqTI, ap_neTI, ap_eqLI, ap_neLI, ap_isi, ap_for, ap_rng1, ap_rng2, ap_iList, ap_iTup, ap_lc, ap_yes, ap_cut, ap_gTupH, ap_fmt, ap_jsn, ap_jsc, ap_gcd, ap_isqrt, ap_ixL, tyV_l, wipe_nil, wipe_cons, upd_same, ap_iEnT, ap_iEnL, ap_iZipA, ap_all, ap_tupT, ap_attF, ap_makeL, ap_att, ap_prop, ap_isO, ap_bin, ap_ne, ap_meth, ap_make, ins_inj, FE_inj, ap_slI, ap_catI, ap_perm, ap_lenO, ap_strO, ap_listO, ap_reprB, ap_iterT, ap_neT, ap_negO, ap_binI, ap_catL, ap_tM1, ap_repTI, ap_popN, ap_par3, ap_catTT, ap_repTA, ap_countT, ap_notInT, ap_repL1, ap_cm, ap_shl, ap_shr, ap_mask, ap_comb, ap_bits, ap_rng3, List.set_cons_zero, List.set_cons_succ, List.getElem?_cons_zero, List.getElem?_cons_succ, List.cons_append, List.nil_append, List.append_nil, Option.some.injEq, V.int.injEq, V.ref.injEq, V.bl.injEq, V.str.injEq, V.ty.injEq, Bool.not_true, Bool.not_false, HO.lst.injEq, HO.tup.injEq, reduceCtorEq, Int.reduceToNat, Int.reduceLT, Int.reduceLE, Nat.reduceAdd, Int.cast_ofNat_Int, gi_c0, gi_c1, gi_c2, gi_c3, Int.natCast_inj, map_int_inj, map_nil_iff, List.cons.injEq, exists_eq_left, exists_eq_left', exists_eq, exists_eq', exists_and_left, exists_and_right, exists_const, and_assoc, and_true, true_and, and_false, false_and, or_false, false_or, or_true, true_or, ite_true, ite_false, if_true, if_false, Bool.false_eq_true, own_cons, own_nil, le1, le2, le3, le4, me_cons, me_nil, List.length_map, List.length_cons, List.length_nil, ne_eq, not_false_eq_true, not_true_eq_false, decide_eq_true_eq]
    have ht := ty_tup h1
    refine ⟨_, ht, _, kit_tt, ?_⟩
    rw [if_pos rfl]
    refine ⟨_, .inr h1, rfl, ?_⟩
    rw [if_pos (show ((([V.ref r, V.ref s'] : List V).length : Nat) : Int) = 2 from rfl)]
    refine ⟨⟨_, sqT_of h1⟩, lc_tupV (fun _ => .bl true) h1 (by show 2 < 1000000; omega) (fun x => rfl) (fun i x G hx sm Q' hq => ?_) (fun D G nD sm eD => ?_)⟩
    · have hG2 := sm _ _ h2
      have hG3 := sm _ _ h3
      have hx2 : x = .ref r ∨ x = .ref s' := by
        have := List.mem_of_getElem? hx
        simpa using this
      rcases hx2 with rfl | rfl
      · simp only [ap_seq, ap_next, ap_asg, ap_gName, ap_ret, ap_retN, ap_drop, ap_ifS, ap_break, ap_cont, ap_par, ap_aug, ap_ip, ap_gSub, ap_gTup, ap_gNil, ap_gCons, ap_var, ap_c, ap_op, ap_un, ap_if, ap_test, ap_B, ap_and, ap_or, ap_not, ap_andV, ap_orV, ap_notV, ap_nil, ap_cons, ap_tup, ap_lst, ap_cb, ap_bm, ap_call, ap_chain, ap_rI, ap_rI0, ap_rU, ap_rEq, ap_rNe, ap_revT, ap_sl, ap_part, ap_noPart, ap_ixLI, ap_ixTI, ap_ixLV, ap_ixTV, ap_len, ap_setLI, ap_setLV, ap_appI, ap_appV, ap_tupL, ap_listS, ap_sumLI, ap_sumTI, ap_repLI, ap_intI, ap_intB, ap_eqTI, ap_neTI, ap_eqLI, ap_neLI, ap_isi, ap_for, ap_rng1, ap_rng2, ap_iList, ap_iTup, ap_lc, ap_yes, ap_cut, ap_gTupH, ap_fmt, ap_jsn, ap_jsc, ap_gcd, ap_isqrt, ap_ixL, tyV_l, wipe_nil, wipe_cons, upd_same, ap_iEnT, ap_iEnL, ap_iZipA, ap_all, ap_tupT, ap_attF, ap_makeL, ap_att, ap_prop, ap_isO, ap_bin, ap_ne, ap_meth, ap_make, ins_inj, FE_inj, ap_slI, ap_catI, ap_perm, ap_lenO, ap_strO, ap_listO, ap_reprB, ap_iterT, ap_neT, ap_negO, ap_binI, ap_catL, ap_tM1, ap_repTI, ap_popN, ap_par3, ap_catTT, ap_repTA, ap_countT, ap_notInT, ap_repL1, ap_cm, ap_shl, ap_shr, ap_mask, ap_comb, ap_bits, ap_rng3, List.set_cons_zero, List.set_cons_succ, List.getElem?_cons_zero, List.getElem?_cons_succ, List.cons_append, List.nil_append, List.append_nil, Option.some.injEq, V.int.injEq, V.ref.injEq, V.bl.injEq, V.str.injEq, V.ty.injEq, Bool.not_true, Bool.not_false, HO.lst.injEq, HO.tup.injEq, reduceCtorEq, Int.reduceToNat, Int.reduceLT, Int.reduceLE, Nat.reduceAdd, Int.cast_ofNat_Int, gi_c0, gi_c1, gi_c2, gi_c3, Int.natCast_inj, map_int_inj, map_nil_iff, List.cons.injEq, exists_eq_left, exists_eq_left', exists_eq, exists_eq', exists_and_left, exists_and_right, exists_const, and_assoc, and_true, true_and, and_false, false_and, or_false, false_or, or_true, true_or, ite_true, ite_false, if_true, if_false, Bool.false_eq_true, own_cons, own_nil, le1, le2, le3, le4, me_cons, me_nil, List.length_map, List.length_cons, List.length_nil, ne_eq, not_false_eq_true, not_true_eq_false, decide_eq_true_eq]
        exact ⟨r, a, b, rfl, hG2, ba, bb, fun H1 s1 => hq H1 s1⟩
      · simp only [ap_seq, ap_next, ap_asg, ap_gName, ap_ret, ap_retN, ap_drop, ap_ifS, ap_break, ap_cont, ap_par, ap_aug, ap_ip, ap_gSub, ap_gTup, ap_gNil, ap_gCons, ap_var, ap_c, ap_op, ap_un, ap_if, ap_test, ap_B, ap_and, ap_or, ap_not, ap_andV, ap_orV, ap_notV, ap_nil, ap_cons, ap_tup, ap_lst, ap_cb, ap_bm, ap_call, ap_chain, ap_rI, ap_rI0, ap_rU, ap_rEq, ap_rNe, ap_revT, ap_sl, ap_part, ap_noPart, ap_ixLI, ap_ixTI, ap_ixLV, ap_ixTV, ap_len, ap_setLI, ap_setLV, ap_appI, ap_appV, ap_tupL, ap_listS, ap_sumLI, ap_sumTI, ap_repLI, ap_intI, ap_intB, ap_eqTI, ap_neTI, ap_eqLI, ap_neLI, ap_isi, ap_for, ap_rng1, ap_rng2, ap_iList, ap_iTup, ap_lc, ap_yes, ap_cut, ap_gTupH, ap_fmt, ap_jsn, ap_jsc, ap_gcd, ap_isqrt, ap_ixL, tyV_l, wipe_nil, wipe_cons, upd_same, ap_iEnT, ap_iEnL, ap_iZipA, ap_all, ap_tupT, ap_attF, ap_makeL, ap_att, ap_prop, ap_isO, ap_bin, ap_ne, ap_meth, ap_make, ins_inj, FE_inj, ap_slI, ap_catI, ap_perm, ap_lenO, ap_strO, ap_listO, ap_reprB, ap_iterT, ap_neT, ap_negO, ap_binI, ap_catL, ap_tM1, ap_repTI, ap_popN, ap_par3, ap_catTT, ap_repTA, ap_countT, ap_notInT, ap_repL1, ap_cm, ap_shl, ap_shr, ap_mask, ap_comb, ap_bits, ap_rng3, List.set_cons_zero, List.set_cons_succ, List.getElem?_cons_zero, List.getElem?_cons_succ, List.cons_append, List.nil_append, List.append_nil, Option.some.injEq, V.int.injEq, V.ref.injEq, V.bl.injEq, V.str.injEq, V.ty.injEq, Bool.not_true, Bool.not_false, HO.lst.injEq, HO.tup.injEq, reduceCtorEq, Int.reduceToNat, Int.reduceLT, Int.reduceLE, Nat.reduceAdd, Int.cast_ofNat_Int, gi_c0, gi_c1, gi_c2, gi_c3, Int.natCast_inj, map_int_inj, map_nil_iff, List.cons.injEq, exists_eq_left, exists_eq_left', exists_eq, exists_eq', exists_and_left, exists_and_right, exists_const, and_assoc, and_true, true_and, and_false, false_and, or_false, false_or, or_true, true_or, ite_true, ite_false, if_true, if_false, Bool.false_eq_true, own_cons, own_nil, le1, le2, le3, le4, me_cons, me_nil, List.length_map, List.length_cons, List.length_nil, ne_eq, not_false_eq_true, not_true_eq_false, decide_eq_true_eq]
        exact ⟨s', c, d, rfl, hG3, bc, bd, fun H1 s1 => hq H1 s1⟩
    · refine ⟨_, rfl, [true, true], sqL_of eD, ?_⟩
      exact q G sm
end
end My
namespace My
open PySem PySem.Spec PyProof.Rows L2 Pr
/-! ### changed forms -/
/-- a step of the change: the total and the power of the second row -/
def chT (F S : List Int) : List Int → List Int × List Int → List Int × List Int
  | [], st => st
  | c :: cs, st => chT F S cs (List.zipWith (· + ·) (mulP st.1 F) ((mulP st.2 S).map (· * c)), mulP st.2 S)
def chP (F S : List Int) (es : List Int) : List Int := (chT F S (es.drop 1) ([es.getD 0 0], [1])).1
/-- what holds of a state behind k steps -/
structure ChS (F S es : List Int) (k : Nat) (st : List Int × List Int) : Prop where
  len : st.1.length = k + 1
  pow : st.2 = powP S k
  val : ∀ x y, val st.1 x y = val (es.take (k + 1)) (My.val F x y) (My.val S x y)
theorem chS_zero {F S es : List Int} (h : 0 < es.length) : ChS F S es 0 ([es.getD 0 0], [1]) := by
  refine ⟨rfl, rfl, fun x y => ?_⟩
  have e : es.take 1 = [es.getD 0 0] := by
    cases es with
    | nil => cases h
    | cons c cs => rfl
  rw [e]
  show es.getD 0 0 * x ^ 0 + y * 0 = es.getD 0 0 * _ ^ 0 + _ * 0
  rw [Int.pow_zero, Int.pow_zero, Int.mul_zero, Int.mul_zero]
theorem chS_next {F S es : List Int} {k : Nat} {st : List Int × List Int} (hF : F.length = 2) (hS : S.length = 2) (h : ChS F S es k st) (hk : k + 1 < es.length) :
    ChS F S es (k + 1) (List.zipWith (· + ·) (mulP st.1 F) ((mulP st.2 S).map (· * es.getD (k + 1) 0)), mulP st.2 S) := by
  have lp : st.2.length = k + 1 := by rw [h.pow, powP_lenE (by omega) k, hS]; omega
  have l1 : (mulP st.1 F).length = k + 2 := by rw [mulP_len, h.len]; omega
  have l2 : (mulP st.2 S).length = k + 2 := by rw [mulP_len, lp]; omega
  refine ⟨by simp [l1, l2], by show mulP st.2 S = mulP (powP S k) S; rw [h.pow], fun x y => ?_⟩
  have e : (mulP st.2 S).map (· * es.getD (k + 1) 0) = (mulP st.2 S).map (es.getD (k + 1) 0 * ·) := List.map_congr_left fun z _ => Int.mul_comm _ _
  have et : es.take (k + 1 + 1) = es.take (k + 1) ++ [es.getD (k + 1) 0] := by
    rw [List.take_succ (i := k + 1), List.getD_eq_getElem?_getD, List.getElem?_eq_getElem hk]
    rfl
  have lt : (es.take (k + 1)).length = k + 1 := by rw [List.length_take]; omega
  show val (List.zipWith _ _ _) x y = _
  rw [e, val_zip _ _ _ _ (by rw [List.length_map]; omega), val_map, val_mulP (by have := h.len; omega) (by omega), val_mulP (by omega) (by omega), h.val, h.pow, val_powP (by omega), et, val_snoc, lt, Int.pow_succ]
  grind
theorem chT_run {F S es : List Int} (hF : F.length = 2) (hS : S.length = 2) : ∀ (n k : Nat) (st : List Int × List Int), k + 1 + n = es.length → ChS F S es k st → ChS F S es (es.length - 1) (chT F S (es.drop (k + 1)) st)
  | 0, k, st, hn, h => by
    rw [List.drop_of_length_le (by omega)]
    have e : es.length - 1 = k := by omega
    rw [e]
    exact h
  | n + 1, k, st, hn, h => by
    have hk : k + 1 < es.length := by omega
    have e : es.drop (k + 1) = es.getD (k + 1) 0 :: es.drop (k + 1 + 1) := by
      rw [List.drop_eq_getElem_cons hk, List.getD_eq_getElem?_getD, List.getElem?_eq_getElem hk]
      rfl
    rw [e]
    exact chT_run hF hS n (k + 1) _ (by omega) (chS_next hF hS h hk)
theorem chP_all {F S es : List Int} (hF : F.length = 2) (hS : S.length = 2) (h : 0 < es.length) : ChS F S es (es.length - 1) (chT F S (es.drop 1) ([es.getD 0 0], [1])) := chT_run hF hS (es.length - 1) 0 _ (by omega) (chS_zero h)
theorem chP_len {F S es : List Int} (hF : F.length = 2) (hS : S.length = 2) (h : 0 < es.length) : (chP F S es).length = es.length := by
  have := (chP_all (es := es) hF hS h).len
  unfold chP
  omega
theorem chP_val {F S es : List Int} (hF : F.length = 2) (hS : S.length = 2) (h : 0 < es.length) (x y : Int) : val (chP F S es) x y = val es (val F x y) (val S x y) := by
  have := (chP_all (es := es) hF hS h).val x y
  unfold chP
  rw [this]
  have e : es.length - 1 + 1 = es.length := by omega
  rw [e, List.take_length]
/-- sizes -/
theorem l1_zip : ∀ (a b : List Int), l1 (List.zipWith (· + ·) a b) ≤ l1 a + l1 b
  | [], _ => Nat.zero_le _
  | _ :: _, [] => Nat.zero_le _
  | c :: cs, d :: ds => by
    have := l1_zip cs ds
    show (c + d).natAbs + l1 (List.zipWith (· + ·) cs ds) ≤ (c.natAbs + l1 cs) + (d.natAbs + l1 ds)
    omega
theorem l1_map (m : Int) : ∀ a : List Int, l1 (a.map (· * m)) = l1 a * m.natAbs
  | [] => by simp [l1]
  | c :: cs => by
    have := l1_map m cs
    show (c * m).natAbs + l1 (cs.map (· * m)) = (c.natAbs + l1 cs) * m.natAbs
    rw [this, Int.natAbs_mul, Nat.add_mul]
theorem l1_step {F S : List Int} {t pw : List Int} {c : Int} {A L k : Nat} (hF : l1 F ≤ L) (hS : l1 S ≤ L) (ht : l1 t ≤ (k + 1) * A * L ^ k) (hp : l1 pw ≤ L ^ k) (hc : c.natAbs ≤ A) :
    l1 (mulP pw S) ≤ L ^ (k + 1) ∧ l1 (List.zipWith (· + ·) (mulP t F) ((mulP pw S).map (· * c))) ≤ (k + 2) * A * L ^ (k + 1) := by
  have p1 : l1 (mulP pw S) ≤ L ^ (k + 1) := Nat.le_trans (l1_mulP pw S) (by rw [Nat.pow_succ]; exact Nat.mul_le_mul hp hS)
  refine ⟨p1, Nat.le_trans (l1_zip _ _) ?_⟩
  have q1 : l1 (mulP t F) ≤ (k + 1) * A * L ^ (k + 1) := Nat.le_trans (l1_mulP t F) (by rw [Nat.pow_succ, ← Nat.mul_assoc]; exact Nat.mul_le_mul ht hF)
  have q2 : l1 ((mulP pw S).map (· * c)) ≤ L ^ (k + 1) * A := by
    rw [l1_map]
    exact Nat.mul_le_mul p1 hc
  have e : (k + 2) * A * L ^ (k + 1) = (k + 1) * A * L ^ (k + 1) + L ^ (k + 1) * A := by
    rw [show k + 2 = (k + 1) + 1 from rfl, Nat.succ_mul (k + 1) A, Nat.add_mul, Nat.mul_comm A (L ^ (k + 1))]
  omega
end My
namespace My
open PySem PySem.Spec PyProof.Rows L2 Pr
section
variable {P : Program} {w : World} {K : PySem.W.Frag} {mg : Str → Option Value} {base : Heap}
/-- rows that are changed: n entries up to A, l1 of both rows up to L -/
structure Chg (es F S : List Int) (A L : Nat) : Prop where
  pos : 0 < es.length
  hi : es.length ≤ 30
  bd : ∀ n ∈ es, n.natAbs ≤ A
  sm : A < 10 ^ 200
  fl : F.length = 2
  sl : S.length = 2
  f1 : l1 F ≤ L
  s1 : l1 S ≤ L
  lp : 1 ≤ L
  pw : L ^ es.length < 10 ^ 250
theorem Chg.tot {es F S : List Int} {A L : Nat} (h : Chg es F S A L) {k : Nat} (hk : k < es.length) : (k + 1) * A * L ^ k < 2 ^ 4000 := by
  have h1 : L ^ k ≤ L ^ es.length := Nat.pow_le_pow_right h.lp (by omega)
  have h2 : (k + 1) * A * L ^ k ≤ 30 * 10 ^ 200 * 10 ^ 250 := Nat.mul_le_mul (Nat.mul_le_mul (by have := h.hi; omega) (Nat.le_of_lt h.sm)) (Nat.le_trans h1 (Nat.le_of_lt h.pw))
  exact Nat.lt_of_le_of_lt h2 (by decide +kernel)
theorem wd_of {n : Int} (h : n.natAbs < 2 ^ 4000) : Wd n := by
  have e := bigE
  unfold Wd
  generalize (2 ^ 4000 : Nat) = B at e h
  rw [e]
  omega
def sp_changed_row : Sp := fun vs H Q _ => ∃ (p q : Addr) (es : List Int) (a b c d : Int) (A L : Nat), vs = [.ref p, .ref q] ∧ H p = some (TI es) ∧ TabAt H q a b c d ∧ Chg es [a, b] [c, d] A L ∧
  ∀ H' r, Same H H' → H' r = some (TI (chP [a, b] [c, d] es)) → (∀ n ∈ chP [a, b] [c, d] es, n.natAbs ≤ es.length * A * L ^ (es.length - 1)) → Q (.ref r) H'
theorem ok_changed_row (T : Tx K mg) : FnOk P w K mg base CX0 4 T.f_changed_row T.d_changed_row p_changed_row sp_changed_row := by
  refine T.F_changed_row.ok sc_changed_row (fun vs H Q E h => ?_) (fun cdv A outer s H vs Q E hr h => ?_)
  · obtain ⟨p, q, es, a, b, c, d, A', L, rfl, _⟩ := h
    rfl
  · obtain ⟨p, q, es, a, b, c, d, B, L, rfl, hp, ⟨r1, r2, h1, h2, h3⟩, hc, k⟩ := h
    refine ⟨_, (pss_cons (ps_asg (pv 1) (pg_tupH (n := 2) (by rfl) (pgs_cons (pg_name (i := 2) sc_changed_row.nd rfl (by first | exact .inl rfl | exact .inr rfl)) (pgs_cons (pg_name (i := 3) sc_changed_row.nd rfl (by first | exact .inl rfl | exact .inr rfl)) pgs_nil))))
      (pss_cons (ps_par (i := 4) (j := 5) (by rfl) sc_changed_row.nd rfl rfl (by decide) rfl rfl (pa_cons (pe_tup (pa_cons (pe_ix ix_TI (pv 0) pe_int (fun _ _ => rfl)) pa_nil)) (pa_cons (pe_tup (pa_cons pe_int pa_nil)) pa_nil)) (by rfl))
      (pss_cons (ps_for PassesOwn.never rfl (pi_tup (pe_slice sl_tupI (pv 0) (po_some pe_int) po_none)) (pg_name (i := 6) sc_changed_row.nd rfl (by first | exact .inl rfl | exact .inr rfl))
      (pss_cons (ps_set (i := 5) sc_changed_row.nd rfl (Or.inl rfl) (pe_call (ok_product_row T) (hr.mono (by decide)) (by rfl) T.m_product_row T.F_product_row.kp T.b_product_row .nil pass0 (pa_cons (pv 5) (pa_cons (pv 3) pa_nil))))
      (pss_one (ps_set (i := 4) sc_changed_row.nd rfl (Or.inl rfl) (pe_call (ok_sum_row T) (hr.mono (by decide)) (by rfl) T.m_sum_row T.F_sum_row.kp T.b_sum_row .nil pass0 (pa_cons (pe_call (ok_product_row T) (hr.mono (by decide)) (by rfl) T.m_product_row T.F_product_row.kp T.b_product_row .nil pass0 (pa_cons (pv 4) (pa_cons (pv 2) pa_nil))) (pa_cons (pe_call (ok_multiple_row T) (hr.mono (by decide)) (by rfl) T.m_multiple_row T.F_multiple_row.kp T.b_multiple_row .nil pass0 (pa_cons (pv 5) (pa_cons (pv 6) pa_nil))) pa_nil)))))))
      (pss_one (ps_ret (pv 4)))))), ?_⟩
    rw [st_changed_row]
    simp only [ap_seq, ap_next, ap_asg, ap_gName, ap_ret, ap_retN, ap_drop, ap_ifS, ap_break, ap_cont, ap_par, ap_aug, ap_ip, ap_gSub, ap_gTup, ap_gNil, ap_gCons, ap_var, ap_c, ap_op, ap_un, ap_if, ap_test, ap_B, ap_and, ap_or, ap_not, ap_andV, ap_orV, ap_notV, ap_nil, ap_cons, ap_tup, ap_lst, ap_cb, ap_bm, ap_call, ap_chain, ap_rI, ap_rI0, ap_rU, ap_rEq, ap_rNe, ap_revT, ap_sl, ap_part, ap_noPart, ap_ixLI, ap_ixTI, ap_ixLV, ap_ixTV, ap_len, ap_setLI, ap_setLV, ap_appI, ap_appV, ap_tupL, ap_listS, ap_sumLI, ap_sumTI, ap_repLI, ap_intI, ap_intB, ap_eqTI, ap_neTI, ap_eqLI, ap_neLI, ap_isi, ap_for, ap_rng1, ap_rng2, ap_iList, ap_iTup, ap_lc, ap_yes, ap_cut, ap_gTupH, ap_fmt, ap_jsn, ap_jsc, ap_gcd, ap_isqrt, ap_ixL, tyV_l, wipe_nil, wipe_cons, upd_same, ap_iEnT, ap_iEnL, ap_iZipA, ap_all, ap_tupT, ap_attF, ap_makeL, ap_att, ap_prop, ap_isO, ap_bin, ap_ne, ap_meth, ap_make, ins_inj, FE_inj, ap_slI, ap_catI, ap_perm, ap_lenO, ap_strO, ap_listO, ap_reprB, ap_iterT, ap_neT, ap_negO, ap_binI, ap_catL, ap_tM1, ap_repTI, ap_popN, ap_par3, ap_catTT, ap_repTA, ap_countT, ap_notInT, ap_repL1, ap_cm, ap_shl, ap_shr, ap_mask, ap_comb, ap_bits, ap_rng3, List.set_cons_zero, List.set_cons_succ, List.getElem?_cons_zero, List.getElem?_cons_succ, List.cons_append, List.nil_append, List.append_nil, Option.some.injEq, V.int.injEq, V.ref.injEq, V.bl.injEq, V.str.injEq, V.ty.injEq, Bool.not_true, Bool.not_false, HO.lst.injEq, HO.tup.injEq, reduceCtorEq, Int.reduceToNat, Int.reduceLT, Int.reduceLE, Nat.reduceAdd, Int.cast_ofNat_Int, gi_c0, gi_c1, gi_c2, gi_c3, Int.natCast_inj, map_int_inj, map_nil_iff, List.cons.injEq, exists_eq_left, exists_eq_left', exists_eq, exists_eq', exists_and_left, exists_and_right, exists_const, and_assoc, and_true, true_and, and_false, false_and, or_false, false_or, or_true, true_or, ite_true, ite_false, if_true, if_false, Bool.false_eq_true, own_cons, own_nil, le1, le2, le3, le4, me_cons, me_nil, List.length_map, List.length_cons, List.length_nil, ne_eq, not_false_eq_true, not_true_eq_false, decide_eq_true_eq, h1, hp]
    have pos := hc.pos
    have hi := hc.hi
    refine ⟨by omega, by decide, fun t0 nt0 => ⟨by decide, fun p0 np0 => ?_⟩⟩
    have s1 := same_upd (o := TI [gi es 0]) nt0
    have s2 := same_upd (o := TI [1]) np0
    refine ⟨es, s2 _ _ (s1 _ _ hp), fun r H1 s3 er => ?_⟩
    have e1 : cutI es (some 1) none = es.drop 1 := cut_drop es 1
    rw [e1] at er
    have S3 := (s1.trans s2).trans s3
    have g0 : gi es 0 = es.getD 0 0 := gi_nat es 0
    have lF : ([a, b] : List Int).length = 2 := rfl
    have lS : ([c, d] : List Int).length = 2 := rfl
    have wF : ∀ n ∈ ([a, b] : List Int), Wd n := fun n hn => wd_of (Nat.lt_of_le_of_lt (Nat.le_trans (l1_mem hn) hc.f1) (Nat.lt_of_le_of_lt (Nat.le_self_pow (by omega) L) (Nat.lt_trans hc.pw (by decide +kernel))))
    have wS : ∀ n ∈ ([c, d] : List Int), Wd n := fun n hn => wd_of (Nat.lt_of_le_of_lt (Nat.le_trans (l1_mem hn) hc.s1) (Nat.lt_of_le_of_lt (Nat.le_self_pow (by omega) L) (Nat.lt_trans hc.pw (by decide +kernel))))
    have ldr : (es.drop 1).length = es.length - 1 := List.length_drop ..
    refine ⟨⟨_, sqT_of er⟩, loop_gen (gives_tup (xs := (es.drop 1).map V.int)) (fun i σ' H' => ∃ (tp pp : Addr) (st : List Int × List Int) (y : Option V), σ' = [some (.ref p), some (.ref q), some (.ref r1), some (.ref r2), some (.ref tp), some (.ref pp), y] ∧ Same H1 H' ∧ H' tp = some (TI st.1) ∧ H' pp = some (TI st.2) ∧ ChS [a, b] [c, d] es i st ∧ l1 st.1 ≤ (i + 1) * B * L ^ i ∧ l1 st.2 ≤ L ^ i ∧ (chT [a, b] [c, d] ((es.drop 1).drop i) st).1 = chP [a, b] [c, d] es)
      ⟨t0, p0, ([es.getD 0 0], [1]), none, rfl, Same.refl H1, ?_, ?_, chS_zero pos, ?_, (by rw [Nat.pow_zero]; exact Nat.le_refl 1), rfl⟩ (fun i σ' H' _ hP => ?_) (fun i v σ' H' H'' hi hP hy => ?_) (fun σ' H' hP => ?_)⟩
    · rw [← g0]
      exact s3 _ _ (s2 _ _ upd_same)
    · exact s3 _ _ upd_same
    · rw [Nat.pow_zero, Nat.mul_one, Nat.zero_add, Nat.one_mul]
      show (es.getD 0 0).natAbs + 0 ≤ B
      rw [Nat.add_zero]
      refine hc.bd _ ?_
      rw [List.getD_eq_getElem?_getD, List.getElem?_eq_getElem pos]
      exact List.getElem_mem pos
    · obtain ⟨tp, pp, st, y, _, sm, _⟩ := hP
      exact sm _ _ er
    · obtain ⟨tp, pp, st, y, e, sm, et, ep, cs, b1, b2, fin⟩ := hP
      obtain ⟨rfl, hv⟩ := hy
      obtain ⟨n, rfl, en⟩ := at_int hv
      subst e
      rw [List.length_map, ldr] at hi
      have hk : i + 1 < es.length := by omega
      have en2 : n = es.getD (i + 1) 0 := by
        rw [List.getElem?_drop, Nat.add_comm] at en
        rw [List.getD_eq_getElem?_getD, en]
        rfl
      have bn : n.natAbs ≤ B := by
        rw [en2, List.getD_eq_getElem?_getD, List.getElem?_eq_getElem hk]
        exact hc.bd _ (List.getElem_mem hk)
      have nx := l1_step hc.f1 hc.s1 b1 b2 bn
      have lst := cs.len
      have lpw : st.2.length = i + 1 := by rw [cs.pow, powP_lenE (by show 0 < 2; omega) i]; simp
      have S1 := S3.trans sm
      simp only [ap_seq, ap_next, ap_asg, ap_gName, ap_ret, ap_retN, ap_drop, ap_ifS, ap_break, ap_cont, ap_par, ap_aug, ap_ip, ap_gSub, ap_gTup, ap_gNil, ap_gCons, ap_var, ap_c, ap_op, ap_un, ap_if, ap_test, ap_B, ap_and, ap_or, ap_not, ap_andV, ap_orV, ap_notV, ap_nil, ap_cons, ap_tup, ap_lst, ap_cb, ap_bm, ap_call, ap_chain, ap_rI, ap_rI0, ap_rU, ap_rEq, ap_rNe, ap_revT, ap_sl, ap_part, ap_noPart, ap_ixLI, ap_ixTI, ap_ixLV, ap_ixTV, ap_len, ap_setLI, ap_setLV, ap_appI, ap_appV, ap_tupL, ap_listS, ap_sumLI, ap_sumTI, ap_repLI, ap_intI, ap_intB, ap_eqTI, ap_neTI, ap_eqLI, ap_neLI, ap_isi, ap_for, ap_rng1, ap_rng2, ap_iList, ap_iTup, ap_lc, ap_yes, ap_cut, ap_gTupH, ap_fmt, ap_jsn, ap_jsc, ap_gcd, ap_isqrt, ap_ixL, tyV_l, wipe_nil, wipe_cons, upd_same, ap_iEnT, ap_iEnL, ap_iZipA, ap_all, ap_tupT, ap_attF, ap_makeL, ap_att, ap_prop, ap_isO, ap_bin, ap_ne, ap_meth, ap_make, ins_inj, FE_inj, ap_slI, ap_catI, ap_perm, ap_lenO, ap_strO, ap_listO, ap_reprB, ap_iterT, ap_neT, ap_negO, ap_binI, ap_catL, ap_tM1, ap_repTI, ap_popN, ap_par3, ap_catTT, ap_repTA, ap_countT, ap_notInT, ap_repL1, ap_cm, ap_shl, ap_shr, ap_mask, ap_comb, ap_bits, ap_rng3, List.set_cons_zero, List.set_cons_succ, List.getElem?_cons_zero, List.getElem?_cons_succ, List.cons_append, List.nil_append, List.append_nil, Option.some.injEq, V.int.injEq, V.ref.injEq, V.bl.injEq, V.str.injEq, V.ty.injEq, Bool.not_true, Bool.not_false, HO.lst.injEq, HO.tup.injEq, reduceCtorEq, Int.reduceToNat, Int.reduceLT, Int.reduceLE, Nat.reduceAdd, Int.cast_ofNat_Int, gi_c0, gi_c1, gi_c2, gi_c3, Int.natCast_inj, map_int_inj, map_nil_iff, List.cons.injEq, exists_eq_left, exists_eq_left', exists_eq, exists_eq', exists_and_left, exists_and_right, exists_const, and_assoc, and_true, true_and, and_false, false_and, or_false, false_or, or_true, true_or, ite_true, ite_false, if_true, if_false, Bool.false_eq_true, own_cons, own_nil, le1, le2, le3, le4, me_cons, me_nil, List.length_map, List.length_cons, List.length_nil, ne_eq, not_false_eq_true, not_true_eq_false, decide_eq_true_eq, sp_product_row]
      have bL : ∀ j, j ≤ es.length → L ^ j < 10 ^ 250 := fun j hj => Nat.lt_of_le_of_lt (Nat.pow_le_pow_right hc.lp hj) hc.pw
      refine ⟨st.2, ep, [c, d], S1 _ _ h3, by omega, by show 0 < 2; omega, by omega, by show 2 < 1000; omega, fun m hm => wd_of (Nat.lt_of_le_of_lt (Nat.le_trans (l1_mem hm) b2) (Nat.lt_trans (bL i (by omega)) (by decide +kernel))), wS, fun H2 pp2 s5 np2 ep2 => ?_⟩
      refine ⟨st.1, s5 _ _ et, [a, b], s5 _ _ (S1 _ _ h2), by omega, by show 0 < 2; omega, by omega, by show 2 < 1000; omega, fun m hm => wd_of (Nat.lt_of_le_of_lt (Nat.le_trans (l1_mem hm) b1) (hc.tot (by omega))), wF, fun H3 tp3 s6 np3 et3 => ?_⟩
      have l2 : (mulP st.2 [c, d]).length = i + 2 := by rw [mulP_len, lpw]; show i + 1 + 2 - 1 = _; omega
      have l1' : (mulP st.1 [a, b]).length = i + 2 := by rw [mulP_len, lst]; show i + 1 + 2 - 1 = _; omega
      refine ⟨pp2, mulP st.2 [c, d], n, rfl, s6 _ _ ep2, by omega, fun m hm => wd_of (Nat.lt_of_le_of_lt (Nat.le_trans (l1_mem hm) nx.1) (Nat.lt_trans (bL (i + 1) (by omega)) (by decide +kernel))), wd_of (Nat.lt_trans (Nat.lt_of_le_of_lt bn hc.sm) (by decide +kernel)), fun H4 mp s7 nmp emp => ?_⟩
      refine ⟨tp3, mp, mulP st.1 [a, b], _, rfl, s7 _ _ et3, emp, by rw [List.length_map]; omega, by omega, fun H5 tt s8 ntt ett => ?_⟩
      have cs2 := chS_next lF lS cs hk
      rw [← en2] at cs2
      refine ⟨tt, rfl, (((sm.trans s5).trans s6).trans s7).trans s8, (_, mulP st.2 [c, d]), ett, s8 _ _ (s7 _ _ (s6 _ _ ep2)), cs2, nx.2, nx.1, ?_⟩
      rw [← fin]
      have ed : (es.drop 1).drop i = n :: (es.drop 1).drop (i + 1) := by
        have hi2 : i < (es.drop 1).length := by omega
        rw [List.drop_eq_getElem_cons hi2]
        congr 1
        rw [List.getElem?_eq_getElem hi2] at en
        exact Option.some.inj en
      rw [ed]
      rfl
    · obtain ⟨tp, pp, st, y, e, sm, et, ep, cs, b1, b2, fin⟩ := hP
      subst e
      rw [List.length_map, ldr] at b1 fin
      rw [List.drop_of_length_le (by omega)] at fin
      simp only [ap_seq, ap_next, ap_asg, ap_gName, ap_ret, ap_retN, ap_drop, ap_ifS, ap_break, ap_cont, ap_par, ap_aug, ap_ip, ap_gSub, ap_gTup, ap_gNil, ap_gCons, ap_var, ap_c, ap_op, ap_un, ap_if, ap_test, ap_B, ap_and, ap_or, ap_not, ap_andV, ap_orV, ap_notV, ap_nil, ap_cons, ap_tup, ap_lst, ap_cb, ap_bm, ap_call, ap_chain, ap_rI, ap_rI0, ap_rU, ap_rEq, ap_rNe, ap_revT, ap_sl, ap_part, ap_noPart, ap_ixLI, ap_ixTI, ap_ixLV, ap_ixTV, ap_len, ap_setLI, ap_setLV, ap_appI, ap_appV, ap_tupL, ap_listS, ap_sumLI, ap_sumTI, ap_repLI, ap_intI, ap_intB, ap_eqTI, ap_neTI, ap_eqLI, ap_neLI, ap_isi, ap_for, ap_rng1, ap_rng2, ap_iList, ap_iTup, ap_lc, ap_yes, ap_cut, ap_gTupH, ap_fmt, ap_jsn, ap_jsc, ap_gcd, ap_isqrt, ap_ixL, tyV_l, wipe_nil, wipe_cons, upd_same, ap_iEnT, ap_iEnL, ap_iZipA, ap_all, ap_tupT, ap_attF, ap_makeL, ap_att, ap_prop, ap_isO, ap_bin, ap_ne, ap_meth, ap_make, ins_inj, FE_inj, ap_slI, ap_catI, ap_perm, ap_lenO, ap_strO, ap_listO, ap_reprB, ap_iterT, ap_neT, ap_negO, ap_binI, ap_catL, ap_tM1, ap_repTI, ap_popN, ap_par3, ap_catTT, ap_repTA, ap_countT, ap_notInT, ap_repL1, ap_cm, ap_shl, ap_shr, ap_mask, ap_comb, ap_bits, ap_rng3, List.set_cons_zero, List.set_cons_succ, List.getElem?_cons_zero, List.getElem?_cons_succ, List.cons_append, List.nil_append, List.append_nil, Option.some.injEq, V.int.injEq, V.ref.injEq, V.bl.injEq, V.str.injEq, V.ty.injEq, Bool.not_true, Bool.not_false, HO.lst.injEq, HO.tup.injEq, reduceCtorEq, Int.reduceToNat, Int.reduceLT, Int.reduceLE, Nat.reduceAdd, Int.cast_ofNat_Int, gi_c0, gi_c1, gi_c2, gi_c3, Int.natCast_inj, map_int_inj, map_nil_iff, List.cons.injEq, exists_eq_left, exists_eq_left', exists_eq, exists_eq', exists_and_left, exists_and_right, exists_const, and_assoc, and_true, true_and, and_false, false_and, or_false, false_or, or_true, true_or, ite_true, ite_false, if_true, if_false, Bool.false_eq_true, own_cons, own_nil, le1, le2, le3, le4, me_cons, me_nil, List.length_map, List.length_cons, List.length_nil, ne_eq, not_false_eq_true, not_true_eq_false, decide_eq_true_eq]
      have fin2 : st.1 = chP [a, b] [c, d] es := fin
      refine k H' tp (S3.trans sm) (by rw [← fin2]; exact et) fun n hn => ?_
      rw [← fin2] at hn
      have e2 : es.length - 1 + 1 = es.length := by omega
      rw [e2] at b1
      exact Nat.le_trans (l1_mem hn) b1
end
end My
namespace My
open PySem PySem.Spec PyProof.Rows L2 Pr
theorem big_of' {i : Int} (h : i.natAbs < 2 ^ 4000) : -((2 ^ 250) ^ 16) < i ∧ i < (2 ^ 250) ^ 16 := by
  have e := bigE
  generalize (2 ^ 4000 : Nat) = B at e h
  rw [e]
  omega
theorem abs_pow (x : Int) {M : Nat} (h : x.natAbs ≤ M) : ∀ k : Nat, (x ^ k).natAbs ≤ M ^ k
  | 0 => by rw [Int.pow_zero, Nat.pow_zero]; exact Nat.le_refl 1
  | k + 1 => by
    rw [Int.pow_succ, Nat.pow_succ, Int.natAbs_mul]
    exact Nat.mul_le_mul (abs_pow x h k) h
end My
namespace My
open PySem PySem.Spec PyProof.Rows L2 Pr
section
variable {P : Program} {w : World} {K : PySem.W.Frag} {mg : Str → Option Value} {base : Heap}
def sp_is_within : Sp := fun vs H Q _ => ∃ (i lo hi : Int), vs = [.int i, .int lo, .int hi] ∧ lo ≤ i ∧ i ≤ hi ∧ Sm i ∧ Q (.bl true) H
theorem ok_is_within (T : Tx K mg) : FnOk P w K mg base CX0 2 T.f_is_within T.d_is_within p_is_within sp_is_within := by
  refine T.F_is_within.ok sc_is_within (fun vs H Q E h => ?_) (fun cdv A outer s H vs Q E hr h => ?_)
  · obtain ⟨i, lo, hi, rfl, _⟩ := h
    rfl
  · obtain ⟨i, lo, hi, rfl, h1, h2, h3, q⟩ := h
    refine ⟨_, (pss_one (ps_ret (pe_and (pe_call (ok_is_integer T) (hr.mono (by decide)) (by rfl) T.m_is_integer T.F_is_integer.kp T.b_is_integer .nil pass0 (pa_cons (pv 0) pa_nil)) (pe_one (pe_chain op_le op_le (pv 1) (pv 0) (pv 2)))))), ?_⟩
    rw [st_is_within]
    have ix : isI (.int i) = true := decide_eq_true h3
    simp only [ap_seq, ap_next, ap_asg, ap_gName, ap_ret, ap_retN, ap_drop, ap_ifS, ap_break, ap_cont, ap_par, ap_aug, ap_ip, ap_gSub, ap_gTup, ap_gNil, ap_gCons, ap_var, ap_c, ap_op, ap_un, ap_if, ap_test, ap_B, ap_and, ap_or, ap_not, ap_andV, ap_orV, ap_notV, ap_nil, ap_cons, ap_tup, ap_lst, ap_cb, ap_bm, ap_call, ap_chain, ap_rI, ap_rI0, ap_rU, ap_rEq, ap_rNe, ap_revT, ap_sl, ap_part, ap_noPart, ap_ixLI, ap_ixTI, ap_ixLV, ap_ixTV, ap_len, ap_setLI, ap_setLV, ap_appI, ap_appV, ap_tupL, ap_listS, ap_sumLI, ap_sumTI, ap_repLI, ap_intI, ap_intB, ap_eqTI, ap_neTI, ap_eqLI, ap_neLI, ap_isi, ap_for, ap_rng1, ap_rng2, ap_iList, ap_iTup, ap_lc, ap_yes, ap_cut, ap_gTupH, ap_fmt, ap_jsn, ap_jsc, ap_gcd, ap_isqrt, ap_ixL, tyV_l, wipe_nil, wipe_cons, upd_same, ap_iEnT, ap_iEnL, ap_iZipA, ap_all, ap_tupT, ap_attF, ap_makeL, ap_att, ap_prop, ap_isO, ap_bin, ap_ne, ap_meth, ap_make, ins_inj, FE_inj, ap_slI, ap_catI, ap_perm, ap_lenO, ap_strO, ap_listO, ap_reprB, ap_iterT, ap_neT, ap_negO, ap_binI, ap_catL, ap_tM1, ap_repTI, ap_popN, ap_par3, ap_catTT, ap_repTA, ap_countT, ap_notInT, ap_repL1, ap_cm, ap_shl, ap_shr, ap_mask, ap_comb, ap_bits, ap_rng3, List.set_cons_zero, List.set_cons_succ, List.getElem?_cons_zero, List.getElem?_cons_succ, List.cons_append, List.nil_append, List.append_nil, Option.some.injEq, V.int.injEq, V.ref.injEq, V.bl.injEq, V.str.injEq, V.ty.injEq, Bool.not_true, Bool.not_false, HO.lst.injEq, HO.tup.injEq, reduceCtorEq, Int.reduceToNat, Int.reduceLT, Int.reduceLE, Nat.reduceAdd, Int.cast_ofNat_Int, gi_c0, gi_c1, gi_c2, gi_c3, Int.natCast_inj, map_int_inj, map_nil_iff, List.cons.injEq, exists_eq_left, exists_eq_left', exists_eq, exists_eq', exists_and_left, exists_and_right, exists_const, and_assoc, and_true, true_and, and_false, false_and, or_false, false_or, or_true, true_or, ite_true, ite_false, if_true, if_false, Bool.false_eq_true, own_cons, own_nil, le1, le2, le3, le4, me_cons, me_nil, List.length_map, List.length_cons, List.length_nil, ne_eq, not_false_eq_true, not_true_eq_false, decide_eq_true_eq, sp_is_integer, ty_int, ix]
    rw [if_pos h1, decide_eq_true h2]
    exact q
def sp_need_number : Sp := fun vs H Q _ => ∃ (i lo hi : Int), vs = [.int i, .int lo, .int hi] ∧ lo ≤ i ∧ i ≤ hi ∧ Sm i ∧ Q .non H
theorem ok_need_number (T : Tx K mg) : FnOk P w K mg base CX0 3 T.f_need_number T.d_need_number p_need_number sp_need_number := by
  refine T.F_need_number.ok sc_need_number (fun vs H Q E h => ?_) (fun cdv A outer s H vs Q E hr h => ?_)
  · obtain ⟨i, lo, hi, rfl, _⟩ := h
    rfl
  · obtain ⟨i, lo, hi, rfl, h1, h2, h3, q⟩ := h
    refine ⟨_, (pss_one (ps_if (pt_not (pt_val (pe_call (ok_is_within T) (hr.mono (by decide)) (by rfl) T.m_is_within T.F_is_within.kp T.b_is_within .nil pass0 (pa_cons (pv 0) (pa_cons (pv 1) (pa_cons (pv 2) pa_nil)))))) (pss_one ps_never) pss_nil)), ?_⟩
    rw [st_need_number]
    simp only [ap_seq, ap_next, ap_asg, ap_gName, ap_ret, ap_retN, ap_drop, ap_ifS, ap_break, ap_cont, ap_par, ap_aug, ap_ip, ap_gSub, ap_gTup, ap_gNil, ap_gCons, ap_var, ap_c, ap_op, ap_un, ap_if, ap_test, ap_B, ap_and, ap_or, ap_not, ap_andV, ap_orV, ap_notV, ap_nil, ap_cons, ap_tup, ap_lst, ap_cb, ap_bm, ap_call, ap_chain, ap_rI, ap_rI0, ap_rU, ap_rEq, ap_rNe, ap_revT, ap_sl, ap_part, ap_noPart, ap_ixLI, ap_ixTI, ap_ixLV, ap_ixTV, ap_len, ap_setLI, ap_setLV, ap_appI, ap_appV, ap_tupL, ap_listS, ap_sumLI, ap_sumTI, ap_repLI, ap_intI, ap_intB, ap_eqTI, ap_neTI, ap_eqLI, ap_neLI, ap_isi, ap_for, ap_rng1, ap_rng2, ap_iList, ap_iTup, ap_lc, ap_yes, ap_cut, ap_gTupH, ap_fmt, ap_jsn, ap_jsc, ap_gcd, ap_isqrt, ap_ixL, tyV_l, wipe_nil, wipe_cons, upd_same, ap_iEnT, ap_iEnL, ap_iZipA, ap_all, ap_tupT, ap_attF, ap_makeL, ap_att, ap_prop, ap_isO, ap_bin, ap_ne, ap_meth, ap_make, ins_inj, FE_inj, ap_slI, ap_catI, ap_perm, ap_lenO, ap_strO, ap_listO, ap_reprB, ap_iterT, ap_neT, ap_negO, ap_binI, ap_catL, ap_tM1, ap_repTI, ap_popN, ap_par3, ap_catTT, ap_repTA, ap_countT, ap_notInT, ap_repL1, ap_cm, ap_shl, ap_shr, ap_mask, ap_comb, ap_bits, ap_rng3, List.set_cons_zero, List.set_cons_succ, List.getElem?_cons_zero, List.getElem?_cons_succ, List.cons_append, List.nil_append, List.append_nil, Option.some.injEq, V.int.injEq, V.ref.injEq, V.bl.injEq, V.str.injEq, V.ty.injEq, Bool.not_true, Bool.not_false, HO.lst.injEq, HO.tup.injEq, reduceCtorEq, Int.reduceToNat, Int.reduceLT, Int.reduceLE, Nat.reduceAdd, Int.cast_ofNat_Int, gi_c0, gi_c1, gi_c2, gi_c3, Int.natCast_inj, map_int_inj, map_nil_iff, List.cons.injEq, exists_eq_left, exists_eq_left', exists_eq, exists_eq', exists_and_left, exists_and_right, exists_const, and_assoc, and_true, true_and, and_false, false_and, or_false, false_or, or_true, true_or, ite_true, ite_false, if_true, if_false, Bool.false_eq_true, own_cons, own_nil, le1, le2, le3, le4, me_cons, me_nil, List.length_map, List.length_cons, List.length_nil, ne_eq, not_false_eq_true, not_true_eq_false, decide_eq_true_eq, sp_is_within]
    exact ⟨h1, h2, h3, q⟩
/-- derived rows -/
def derP (es : List Int) (i j : Nat) : List Int := (List.range (es.length - i - j)).map fun u => es.getD (j + u) 0 * (fall (es.length - 1 - (j + u)) i : Nat) * (fall (j + u) j : Nat)
/-! ### the law's defs -/
def sp_law_det : Sp := fun vs H Q _ => ∃ (p : Addr) (a b c d : Int), vs = [.ref p] ∧ TabAt H p a b c d ∧ Sm a ∧ Sm b ∧ Sm c ∧ Sm d ∧ Q (.int (a * d - b * c)) H
theorem ok_law_det (T : Tx K mg) : FnOk P w K mg base CX0 1 T.f_law_det T.d_law_det p_law_det sp_law_det := by
  refine T.F_law_det.ok sc_law_det (fun vs H Q E h => ?_) (fun cdv A outer s H vs Q E hr h => ?_)
  · obtain ⟨p, a, b, c, d, rfl, _⟩ := h
    rfl
  · obtain ⟨p, a, b, c, d, rfl, ⟨r, t, h1, h2, h3⟩, ba, bb, bc, bd, q⟩ := h
    refine ⟨_, (pss_one (ps_ret (pe_op op_sub (pe_op op_mulB (pe_ix ix_TI (pe_ix ix_TV (pv 0) pe_int (fun _ _ => rfl)) pe_int (fun _ _ => rfl)) (pe_ix ix_TI (pe_ix ix_TV (pv 0) pe_int (fun _ _ => rfl)) pe_int (fun _ _ => rfl))) (pe_op op_mulB (pe_ix ix_TI (pe_ix ix_TV (pv 0) pe_int (fun _ _ => rfl)) pe_int (fun _ _ => rfl)) (pe_ix ix_TI (pe_ix ix_TV (pv 0) pe_int (fun _ _ => rfl)) pe_int (fun _ _ => rfl)))))), ?_⟩
    rw [st_law_det]
    simp only [ap_seq, ap_next, ap_asg, ap_gName, ap_ret, ap_retN, ap_drop, ap_ifS, ap_break, ap_cont, ap_par, ap_aug, ap_ip, ap_gSub, ap_gTup, ap_gNil, ap_gCons, ap_var, ap_c, ap_op, ap_un, ap_if, ap_test, ap_B, ap_and, ap_or, ap_not, ap_andV, ap_orV, ap_notV, ap_nil, ap_cons, ap_tup, ap_lst, ap_cb, ap_bm, ap_call, ap_chain, ap_rI, ap_rI0, ap_rU, ap_rEq, ap_rNe, ap_revT, ap_sl, ap_part, ap_noPart, ap_ixLI, ap_ixTI, ap_ixLV, ap_ixTV, ap_len, ap_setLI, ap_setLV, ap_appI, ap_appV, ap_tupL, ap_listS, ap_sumLI, ap_sumTI, ap_repLI, ap_intI, ap_intB, ap_eqTI, ap_neTI, ap_eqLI, ap_neLI, ap_isi, ap_for, ap_rng1, ap_rng2, ap_iList, ap_iTup, ap_lc, ap_yes, ap_cut, ap_gTupH, ap_fmt, ap_jsn, ap_jsc, ap_gcd, ap_isqrt, ap_ixL, tyV_l, wipe_nil, wipe_cons, upd_same, ap_iEnT, ap_iEnL, ap_iZipA, ap_all, ap_tupT, ap_attF, ap_makeL, ap_att, ap_prop, ap_isO, ap_bin, ap_ne, ap_meth, ap_make, ins_inj, FE_inj, ap_slI, ap_catI, ap_perm, ap_lenO, ap_strO, ap_listO, ap_reprB, ap_iterT, ap_neT, ap_negO, ap_binI, ap_catL, ap_tM1, ap_repTI, ap_popN, ap_par3, ap_catTT, ap_repTA, ap_countT, ap_notInT, ap_repL1, ap_cm, ap_shl, ap_shr, ap_mask, ap_comb, ap_bits, ap_rng3, List.set_cons_zero, List.set_cons_succ, List.getElem?_cons_zero, List.getElem?_cons_succ, List.cons_append, List.nil_append, List.append_nil, Option.some.injEq, V.int.injEq, V.ref.injEq, V.bl.injEq, V.str.injEq, V.ty.injEq, Bool.not_true, Bool.not_false, HO.lst.injEq, HO.tup.injEq, reduceCtorEq, Int.reduceToNat, Int.reduceLT, Int.reduceLE, Nat.reduceAdd, Int.cast_ofNat_Int, gi_c0, gi_c1, gi_c2, gi_c3, Int.natCast_inj, map_int_inj, map_nil_iff, List.cons.injEq, exists_eq_left, exists_eq_left', exists_eq, exists_eq', exists_and_left, exists_and_right, exists_const, and_assoc, and_true, true_and, and_false, false_and, or_false, false_or, or_true, true_or, ite_true, ite_false, if_true, if_false, Bool.false_eq_true, own_cons, own_nil, le1, le2, le3, le4, me_cons, me_nil, List.length_map, List.length_cons, List.length_nil, ne_eq, not_false_eq_true, not_true_eq_false, decide_eq_true_eq, h1, h2, h3, CMu]
    have ca := ba.wd
    have cb := bb.wd
    have cc := bc.wd
    have cd := bd.wd
    refine ⟨_, rfl, r, rfl, _, h2, by show (0 : Int) < 2; omega, _, rfl, t, rfl, _, h3, by show (1 : Int) < 2; omega, ca.1, ca.2, cd.1, cd.2, _, rfl, r, rfl, _, h2, by show (1 : Int) < 2; omega, _, rfl, t, rfl, _, h3, by show (0 : Int) < 2; omega, cb.1, cb.2, cc.1, cc.2, q⟩
theorem derP_len (es : List Int) (i j : Nat) : (derP es i j).length = es.length - i - j := by simp [derP]
theorem derP_get {es : List Int} {i j u : Nat} (h : u < es.length - i - j) : (derP es i j).getD u 0 = es.getD (j + u) 0 * (fall (es.length - 1 - (j + u)) i : Nat) * (fall (j + u) j : Nat) := by
  unfold derP
  rw [List.getD_eq_getElem?_getD, List.getElem?_map, List.getElem?_range h]
  rfl
theorem derP_zero (es : List Int) : derP es 0 0 = es := by
  refine List.ext_getElem (by rw [derP_len]; omega) fun i h1 h2 => ?_
  have h := derP_get (es := es) (i := 0) (j := 0) (u := i) (by omega)
  rw [List.getD_eq_getElem?_getD, List.getElem?_eq_getElem h1] at h
  have h' : (derP es 0 0)[i] = es.getD (0 + i) 0 * ((1 : Nat) : Int) * ((1 : Nat) : Int) := h
  rw [h', Nat.zero_add, List.getD_eq_getElem?_getD, List.getElem?_eq_getElem h2]
  show es[i] * 1 * 1 = es[i]
  omega
theorem derP_x (es : List Int) (i : Nat) (h : i + 1 ≤ es.length) : derP (derP es i 0) 1 0 = derP es (i + 1) 0 := by
  refine List.ext_getElem (by rw [derP_len, derP_len, derP_len]; omega) fun u h1 h2 => ?_
  have l1 : u < es.length - (i + 1) - 0 := by rw [derP_len] at h2; exact h2
  have e1 := derP_get (es := derP es i 0) (i := 1) (j := 0) (u := u) (by rw [derP_len]; omega)
  have e2 := derP_get (es := es) (i := i + 1) (j := 0) (u := u) l1
  have e3 := derP_get (es := es) (i := i) (j := 0) (u := 0 + u) (by omega)
  rw [List.getD_eq_getElem?_getD, List.getElem?_eq_getElem h1] at e1
  rw [List.getD_eq_getElem?_getD, List.getElem?_eq_getElem h2] at e2
  have e1' : (derP (derP es i 0) 1 0)[u] = _ := e1
  have e2' : (derP es (i + 1) 0)[u] = _ := e2
  rw [e1', e2', e3, derP_len, Nat.zero_add, Nat.zero_add, Nat.sub_zero]
  have f1 : fall (es.length - i - 1 - u) 1 = es.length - 1 - u - i := by show 1 * (es.length - i - 1 - u - 0) = _; omega
  have f2 : fall (es.length - 1 - u) (i + 1) = fall (es.length - 1 - u) i * (es.length - 1 - u - i) := rfl
  have f3 : fall u 0 = 1 := rfl
  rw [f1, f2, f3, Int.natCast_mul]
  show es.getD u 0 * (fall (es.length - 1 - u) i : Int) * 1 * ((es.length - 1 - u - i : Nat) : Int) * 1 = es.getD u 0 * ((fall (es.length - 1 - u) i : Int) * ((es.length - 1 - u - i : Nat) : Int)) * 1
  rw [Int.mul_one, Int.mul_one, Int.mul_one, Int.mul_assoc]
theorem derP_y (es : List Int) (i j : Nat) (h : i + j + 1 ≤ es.length) : derP (derP es i j) 0 1 = derP es i (j + 1) := by
  refine List.ext_getElem (by rw [derP_len, derP_len, derP_len]; omega) fun u h1 h2 => ?_
  have l1 : u < es.length - i - (j + 1) := by rw [derP_len] at h2; exact h2
  have e1 := derP_get (es := derP es i j) (i := 0) (j := 1) (u := u) (by rw [derP_len]; omega)
  have e2 := derP_get (es := es) (i := i) (j := j + 1) (u := u) l1
  have e3 := derP_get (es := es) (i := i) (j := j) (u := 1 + u) (by omega)
  rw [List.getD_eq_getElem?_getD, List.getElem?_eq_getElem h1] at e1
  rw [List.getD_eq_getElem?_getD, List.getElem?_eq_getElem h2] at e2
  have e1' : (derP (derP es i j) 0 1)[u] = _ := e1
  have e2' : (derP es i (j + 1))[u] = _ := e2
  have ej : j + (1 + u) = j + 1 + u := by omega
  rw [e1', e2', e3, ej]
  have f1 : fall (1 + u) 1 = 1 + u := by show 1 * (1 + u - 0) = _; omega
  have f2 : fall (j + 1 + u) (j + 1) = fall (j + 1 + u) j * (1 + u) := by
    show fall (j + 1 + u) j * (j + 1 + u - j) = _
    congr 1
    omega
  have f3 : ∀ m, fall m 0 = 1 := fun _ => rfl
  rw [f1, f2, f3, Int.natCast_mul]
  show _ * (fall (es.length - 1 - (j + 1 + u)) i : Int) * (fall (j + 1 + u) j : Int) * 1 * ((1 + u : Nat) : Int) = _ * (fall (es.length - 1 - (j + 1 + u)) i : Int) * ((fall (j + 1 + u) j : Int) * ((1 + u : Nat) : Int))
  rw [Int.mul_one, Int.mul_assoc (es.getD (j + 1 + u) 0 * _)]
end
end My
namespace My
open PySem PySem.Spec PyProof.Rows L2 Pr
section
variable {P : Program} {w : World} {K : PySem.W.Frag} {mg : Str → Option Value} {base : Heap}
/-- one of the ints of a list -/
def sp_law_pick : Sp := fun vs H Q _ => ∃ (d a : Addr) (ns : List Int), vs = [.ref d, .ref a] ∧ Dc H d ∧ H a = some (LI ns) ∧ a ≠ d ∧ 0 < ns.length ∧ ns.length < 1000 ∧
  ∀ H' (i : Nat), Exc d H H' → Dc H' d → i < ns.length → Q (.int (ns.getD i 0)) H'
theorem ok_law_pick (T : Tx K mg) : FnOk P w K mg base CX0 2 T.f_law_pick T.d_law_pick p_law_pick sp_law_pick := by
  refine T.F_law_pick.ok sc_law_pick (fun vs H Q E h => ?_) (fun cdv A outer s H vs Q E hr h => ?_)
  · obtain ⟨d, a, ns, rfl, _⟩ := h
    rfl
  · obtain ⟨d, a, ns, rfl, hD, ha, nad, h0, h1, q⟩ := h
    refine ⟨_, (pss_one (ps_ret (pe_ix ix_LI (pv 1) (pe_call (ok_law_roll T) (hr.mono (by decide)) (by rfl) T.m_law_roll T.F_law_roll.kp T.b_law_roll .nil pass0 (pa_cons (pv 0) (pa_cons (pe_callB cr_len (by rfl) T.z_len PySem.boot_len (pa_cons (pv 1) pa_nil)) pa_nil))) (fun _ _ => rfl)))), ?_⟩
    rw [st_law_pick]
    simp only [ap_seq, ap_next, ap_asg, ap_gName, ap_ret, ap_retN, ap_drop, ap_ifS, ap_break, ap_cont, ap_par, ap_aug, ap_ip, ap_gSub, ap_gTup, ap_gNil, ap_gCons, ap_var, ap_c, ap_op, ap_un, ap_if, ap_test, ap_B, ap_and, ap_or, ap_not, ap_andV, ap_orV, ap_notV, ap_nil, ap_cons, ap_tup, ap_lst, ap_cb, ap_bm, ap_call, ap_chain, ap_rI, ap_rI0, ap_rU, ap_rEq, ap_rNe, ap_revT, ap_sl, ap_part, ap_noPart, ap_ixLI, ap_ixTI, ap_ixLV, ap_ixTV, ap_len, ap_setLI, ap_setLV, ap_appI, ap_appV, ap_tupL, ap_listS, ap_sumLI, ap_sumTI, ap_repLI, ap_intI, ap_intB, ap_eqTI, ap_neTI, ap_eqLI, ap_neLI, ap_isi, ap_for, ap_rng1, ap_rng2, ap_iList, ap_iTup, ap_lc, ap_yes, ap_cut, ap_gTupH, ap_fmt, ap_jsn, ap_jsc, ap_gcd, ap_isqrt, ap_ixL, tyV_l, wipe_nil, wipe_cons, upd_same, ap_iEnT, ap_iEnL, ap_iZipA, ap_all, ap_tupT, ap_attF, ap_makeL, ap_att, ap_prop, ap_isO, ap_bin, ap_ne, ap_meth, ap_make, ins_inj, FE_inj, ap_slI, ap_catI, ap_perm, ap_lenO, ap_strO, ap_listO, ap_reprB, ap_iterT, ap_neT, ap_negO, ap_binI, ap_catL, ap_tM1, ap_repTI, ap_popN, ap_par3, ap_catTT, ap_repTA, ap_countT, ap_notInT, ap_repL1, ap_cm, ap_shl, ap_shr, ap_mask, ap_comb, ap_bits, ap_rng3, List.set_cons_zero, List.set_cons_succ, List.getElem?_cons_zero, List.getElem?_cons_succ, List.cons_append, List.nil_append, List.append_nil, Option.some.injEq, V.int.injEq, V.ref.injEq, V.bl.injEq, V.str.injEq, V.ty.injEq, Bool.not_true, Bool.not_false, HO.lst.injEq, HO.tup.injEq, reduceCtorEq, Int.reduceToNat, Int.reduceLT, Int.reduceLE, Nat.reduceAdd, Int.cast_ofNat_Int, gi_c0, gi_c1, gi_c2, gi_c3, Int.natCast_inj, map_int_inj, map_nil_iff, List.cons.injEq, exists_eq_left, exists_eq_left', exists_eq, exists_eq', exists_and_left, exists_and_right, exists_const, and_assoc, and_true, true_and, and_false, false_and, or_false, false_or, or_true, true_or, ite_true, ite_false, if_true, if_false, Bool.false_eq_true, own_cons, own_nil, le1, le2, le3, le4, me_cons, me_nil, List.length_map, List.length_cons, List.length_nil, ne_eq, not_false_eq_true, not_true_eq_false, decide_eq_true_eq, sp_law_roll, ha]
    refine ⟨hD, by omega, by omega, fun H2 r ex dc r0 r1 => ?_⟩
    have ha2 := ex _ _ nad ha
    simp only [ap_seq, ap_next, ap_asg, ap_gName, ap_ret, ap_retN, ap_drop, ap_ifS, ap_break, ap_cont, ap_par, ap_aug, ap_ip, ap_gSub, ap_gTup, ap_gNil, ap_gCons, ap_var, ap_c, ap_op, ap_un, ap_if, ap_test, ap_B, ap_and, ap_or, ap_not, ap_andV, ap_orV, ap_notV, ap_nil, ap_cons, ap_tup, ap_lst, ap_cb, ap_bm, ap_call, ap_chain, ap_rI, ap_rI0, ap_rU, ap_rEq, ap_rNe, ap_revT, ap_sl, ap_part, ap_noPart, ap_ixLI, ap_ixTI, ap_ixLV, ap_ixTV, ap_len, ap_setLI, ap_setLV, ap_appI, ap_appV, ap_tupL, ap_listS, ap_sumLI, ap_sumTI, ap_repLI, ap_intI, ap_intB, ap_eqTI, ap_neTI, ap_eqLI, ap_neLI, ap_isi, ap_for, ap_rng1, ap_rng2, ap_iList, ap_iTup, ap_lc, ap_yes, ap_cut, ap_gTupH, ap_fmt, ap_jsn, ap_jsc, ap_gcd, ap_isqrt, ap_ixL, tyV_l, wipe_nil, wipe_cons, upd_same, ap_iEnT, ap_iEnL, ap_iZipA, ap_all, ap_tupT, ap_attF, ap_makeL, ap_att, ap_prop, ap_isO, ap_bin, ap_ne, ap_meth, ap_make, ins_inj, FE_inj, ap_slI, ap_catI, ap_perm, ap_lenO, ap_strO, ap_listO, ap_reprB, ap_iterT, ap_neT, ap_negO, ap_binI, ap_catL, ap_tM1, ap_repTI, ap_popN, ap_par3, ap_catTT, ap_repTA, ap_countT, ap_notInT, ap_repL1, ap_cm, ap_shl, ap_shr, ap_mask, ap_comb, ap_bits, ap_rng3, List.set_cons_zero, List.set_cons_succ, List.getElem?_cons_zero, List.getElem?_cons_succ, List.cons_append, List.nil_append, List.append_nil, Option.some.injEq, V.int.injEq, V.ref.injEq, V.bl.injEq, V.str.injEq, V.ty.injEq, Bool.not_true, Bool.not_false, HO.lst.injEq, HO.tup.injEq, reduceCtorEq, Int.reduceToNat, Int.reduceLT, Int.reduceLE, Nat.reduceAdd, Int.cast_ofNat_Int, gi_c0, gi_c1, gi_c2, gi_c3, Int.natCast_inj, map_int_inj, map_nil_iff, List.cons.injEq, exists_eq_left, exists_eq_left', exists_eq, exists_eq', exists_and_left, exists_and_right, exists_const, and_assoc, and_true, true_and, and_false, false_and, or_false, false_or, or_true, true_or, ite_true, ite_false, if_true, if_false, Bool.false_eq_true, own_cons, own_nil, le1, le2, le3, le4, me_cons, me_nil, List.length_map, List.length_cons, List.length_nil, ne_eq, not_false_eq_true, not_true_eq_false, decide_eq_true_eq, ha2]
    refine ⟨r0, r1, ?_⟩
    have e : gi ns r = ns.getD r.toNat 0 := rfl
    rw [e]
    exact q H2 r.toNat ex dc (by omega)
def sp_determinant_of : Sp := fun vs H Q _ => ∃ (p : Addr) (a b c d : Int), vs = [.ref p] ∧ TabAt H p a b c d ∧ Sm a ∧ Sm b ∧ Sm c ∧ Sm d ∧ Q (.int (a * d - b * c)) H
theorem ok_determinant_of (T : Tx K mg) : FnOk P w K mg base CX0 1 T.f_determinant_of T.d_determinant_of p_determinant_of sp_determinant_of := by
  refine T.F_determinant_of.ok sc_determinant_of (fun vs H Q E h => ?_) (fun cdv A outer s H vs Q E hr h => ?_)
  · obtain ⟨p, a, b, c, d, rfl, _⟩ := h
    rfl
  · obtain ⟨p, a, b, c, d, rfl, ⟨r, s', h1, h2, h3⟩, ba, bb, bc, bd, q⟩ := h
    refine ⟨_, (pss_one (ps_ret (pe_op op_sub (pe_op op_mulB (pe_ix ix_TI (pe_ix ix_TV (pv 0) pe_int (fun _ _ => rfl)) pe_int (fun _ _ => rfl)) (pe_ix ix_TI (pe_ix ix_TV (pv 0) pe_int (fun _ _ => rfl)) pe_int (fun _ _ => rfl))) (pe_op op_mulB (pe_ix ix_TI (pe_ix ix_TV (pv 0) pe_int (fun _ _ => rfl)) pe_int (fun _ _ => rfl)) (pe_ix ix_TI (pe_ix ix_TV (pv 0) pe_int (fun _ _ => rfl)) pe_int (fun _ _ => rfl)))))), ?_⟩
    rw [st_determinant_of]
    simp only [ap_seq, ap_next, ap_asg, ap_gName, ap_ret, ap_retN, ap_drop, ap_ifS, ap_break, ap_cont, ap_par, ap_aug, ap_ip, ap_gSub, ap_gTup, ap_gNil, ap_gCons, ap_var, ap_c, ap_op, ap_un, ap_if, ap_test, ap_B, ap_and, ap_or, ap_not, ap_andV, ap_orV, ap_notV, ap_nil, ap_cons, ap_tup, ap_lst, ap_cb, ap_bm, ap_call, ap_chain, ap_rI, ap_rI0, ap_rU, ap_rEq, ap_rNe, ap_revT, ap_sl, ap_part, ap_noPart, ap_ixLI, ap_ixTI, ap_ixLV, ap_ixTV, ap_len, ap_setLI, ap_setLV, ap_appI, ap_appV, ap_tupL, ap_listS, ap_sumLI, ap_sumTI, ap_repLI, ap_intI, ap_intB, ap_eqTI, ap_neTI, ap_eqLI, ap_neLI, ap_isi, ap_for, ap_rng1, ap_rng2, ap_iList, ap_iTup, ap_lc, ap_yes, ap_cut, ap_gTupH, ap_fmt, ap_jsn, ap_jsc, ap_gcd, ap_isqrt, ap_ixL, tyV_l, wipe_nil, wipe_cons, upd_same, ap_iEnT, ap_iEnL, ap_iZipA, ap_all, ap_tupT, ap_attF, ap_makeL, ap_att, ap_prop, ap_isO, ap_bin, ap_ne, ap_meth, ap_make, ins_inj, FE_inj, ap_slI, ap_catI, ap_perm, ap_lenO, ap_strO, ap_listO, ap_reprB, ap_iterT, ap_neT, ap_negO, ap_binI, ap_catL, ap_tM1, ap_repTI, ap_popN, ap_par3, ap_catTT, ap_repTA, ap_countT, ap_notInT, ap_repL1, ap_cm, ap_shl, ap_shr, ap_mask, ap_comb, ap_bits, ap_rng3, List.set_cons_zero, List.set_cons_succ, List.getElem?_cons_zero, List.getElem?_cons_succ, List.cons_append, List.nil_append, List.append_nil, Option.some.injEq, V.int.injEq, V.ref.injEq, V.bl.injEq, V.str.injEq, V.ty.injEq, Bool.not_true, Bool.not_false, HO.lst.injEq, HO.tup.injEq, reduceCtorEq, Int.reduceToNat, Int.reduceLT, Int.reduceLE, Nat.reduceAdd, Int.cast_ofNat_Int, gi_c0, gi_c1, gi_c2, gi_c3, Int.natCast_inj, map_int_inj, map_nil_iff, List.cons.injEq, exists_eq_left, exists_eq_left', exists_eq, exists_eq', exists_and_left, exists_and_right, exists_const, and_assoc, and_true, true_and, and_false, false_and, or_false, false_or, or_true, true_or, ite_true, ite_false, if_true, if_false, Bool.false_eq_true, own_cons, own_nil, le1, le2, le3, le4, me_cons, me_nil, List.length_map, List.length_cons, List.length_nil, ne_eq, not_false_eq_true, not_true_eq_false, decide_eq_true_eq, h1]
    exact ⟨_, rfl, r, rfl, _, h2, by show (0 : Int) < 2; omega, _, rfl, s', rfl, _, h3, by show (1 : Int) < 2; omega, ⟨ba.wd, bd.wd⟩, _, rfl, r, rfl, _, h2, by show (1 : Int) < 2; omega, _, rfl, s', rfl, _, h3, by show (0 : Int) < 2; omega, ⟨bb.wd, bc.wd⟩, q⟩
theorem range_getD (g : Int → Int) (ns : List Int) : (List.range ns.length).map (fun i => g (ns.getD i 0)) = ns.map g := by
  refine List.ext_getElem (by simp) fun i h1 h2 => ?_
  rw [List.length_map, List.length_range] at h1
  rw [List.getElem_map, List.getElem_map, List.getElem_range, List.getD_eq_getElem?_getD, List.getElem?_eq_getElem h1]
  rfl
section
variable {σ : L2.St} {H : Hp} {vs : List Nat} {te : TE} {Q : VK} {j : Nat}
theorem lc_mapT {a : Addr} {ns : List Int} (g : Int → Int) (hx : H a = some (TI ns)) (hn : ns.length < 1000000) (hw : ∀ x, wipe ((wipe σ vs).set j (some x)) vs = wipe σ vs)
    (he : ∀ n, n ∈ ns → ∀ H', Same H H' → ∀ Q' : VK, (∀ H'', Same H' H'' → Q' (.int (g n)) H'') → te ((wipe σ vs).set j (some (.int n))) H' Q')
    (hq : ∀ p H', H p = none → Same H H' → H' p = some (LI (ns.map g)) → Q (.ref p) H') : tLcIn (gName j) tYes te vs σ Q (Itt K a) H := by
  refine lc_tupI (fun i => g (ns.getD i 0)) hx (by rw [List.length_map]; exact hn) hw (fun i x H' hx sm Q' k' => ?_) (fun A H' hA sm e => ?_)
  · obtain ⟨n, rfl, en⟩ := at_int hx
    refine he n (List.mem_of_getElem? en) H' sm Q' ?_
    rw [List.getD_eq_getElem?_getD, en] at k'
    exact k'
  · rw [List.length_map, range_getD] at e
    exact hq A H' hA sm e
theorem lc_mapL {a : Addr} {ns : List Int} (g : Int → Int) (hx : H a = some (LI ns)) (hn : ns.length < 1000000) (hw : ∀ x, wipe ((wipe σ vs).set j (some x)) vs = wipe σ vs)
    (he : ∀ n, n ∈ ns → ∀ H', Same H H' → ∀ Q' : VK, (∀ H'', Same H' H'' → Q' (.int (g n)) H'') → te ((wipe σ vs).set j (some (.int n))) H' Q')
    (hq : ∀ p H', H p = none → Same H H' → H' p = some (LI (ns.map g)) → Q (.ref p) H') : tLcIn (gName j) tYes te vs σ Q (Itl K a) H := by
  refine lc_listI (fun i => g (ns.getD i 0)) hx (by rw [List.length_map]; exact hn) hw (fun i x H' hx sm Q' k' => ?_) (fun A H' hA sm e => ?_)
  · obtain ⟨n, rfl, en⟩ := at_int hx
    refine he n (List.mem_of_getElem? en) H' sm Q' ?_
    rw [List.getD_eq_getElem?_getD, en] at k'
    exact k'
  · rw [List.length_map, range_getD] at e
    exact hq A H' hA sm e
end
/-- a row: a list or a tuple of ints -/
def RowAt (H : Hp) (a : Addr) (ns : List Int) : Prop := H a = some (LI ns) ∨ H a = some (TI ns)
theorem RowAt.same {H H' : Hp} {a : Addr} {ns : List Int} (h : RowAt H a ns) (s : Same H H') : RowAt H' a ns := h.imp (s _ _) (s _ _)
def sp_modulo : Sp := fun vs H Q _ => ∃ (a : Addr) (ns : List Int) (p : Int), vs = [.ref a, .int p] ∧ RowAt H a ns ∧ ns.length < 1000 ∧ (∀ n ∈ ns, Wd n) ∧ 0 < p ∧ p < 1000 ∧
  ∀ H' r, Same H H' → H r = none → H' r = some (TI (ns.map (· % p))) → Q (.ref r) H'
theorem ok_modulo (T : Tx K mg) : FnOk P w K mg base CX0 1 T.f_modulo T.d_modulo p_modulo sp_modulo := by
  refine T.F_modulo.ok sc_modulo (fun vs H Q E h => ?_) (fun cdv A outer s H vs Q E hr h => ?_)
  · obtain ⟨a, ns, p, rfl, _⟩ := h
    rfl
  · obtain ⟨a, ns, p, rfl, ha, hl, hn, p0, p1, k⟩ := h
    rcases ha with ha | ha
    · refine ⟨_, (pss_one (ps_ret (pe_callTy cr_tupL (by rfl) T.z_tuple (by decide +kernel) (pa_cons (pe_lc (own := [("number", 2)]) (g := gName 2) (tt := tYes) rfl sc_modulo.nd (pi_list (pv 0)) (blkOk_by (N := n_modulo) (sc := defScope s_modulo) (by decide +kernel)) (fun _ _ _ _ _ => (pg_name (i := 2) sc_modulo.nd rfl (by first | exact .inl rfl | exact .inr rfl))) (fun _ _ _ _ _ => pts_nil) (fun _ _ _ _ _ => (pe_op op_mod (pv 2) (pv 1)))) pa_nil)))), ?_⟩
      rw [st_modulo]
      simp only [ap_seq, ap_next, ap_asg, ap_gName, ap_ret, ap_retN, ap_drop, ap_ifS, ap_break, ap_cont, ap_par, ap_aug, ap_ip, ap_gSub, ap_gTup, ap_gNil, ap_gCons, ap_var, ap_c, ap_op, ap_un, ap_if, ap_test, ap_B, ap_and, ap_or, ap_not, ap_andV, ap_orV, ap_notV, ap_nil, ap_cons, ap_tup, ap_lst, ap_cb, ap_bm, ap_call, ap_chain, ap_rI, ap_rI0, ap_rU, ap_rEq, ap_rNe, ap_revT, ap_sl, ap_part, ap_noPart, ap_ixLI, ap_ixTI, ap_ixLV, ap_ixTV, ap_len, ap_setLI, ap_setLV, ap_appI, ap_appV, ap_tupL, ap_listS, ap_sumLI, ap_sumTI, ap_repLI, ap_intI, ap_intB, ap_eqTI, ap_neTI, ap_eqLI, ap_neLI, ap_isi, ap_for, ap_rng1, ap_rng2, ap_iList, ap_iTup, ap_lc, ap_yes, ap_cut, ap_gTupH, ap_fmt, ap_jsn, ap_jsc, ap_gcd, ap_isqrt, ap_ixL, tyV_l, wipe_nil, wipe_cons, upd_same, ap_iEnT, ap_iEnL, ap_iZipA, ap_all, ap_tupT, ap_attF, ap_makeL, ap_att, ap_prop, ap_isO, ap_bin, ap_ne, ap_meth, ap_make, ins_inj, FE_inj, ap_slI, ap_catI, ap_perm, ap_lenO, ap_strO, ap_listO, ap_reprB, ap_iterT, ap_neT, ap_negO, ap_binI, ap_catL, ap_tM1, ap_repTI, ap_popN, ap_par3, ap_catTT, ap_repTA, ap_countT, ap_notInT, ap_repL1, ap_cm, ap_shl, ap_shr, ap_mask, ap_comb, ap_bits, ap_rng3, List.set_cons_zero, List.set_cons_succ, List.getElem?_cons_zero, List.getElem?_cons_succ, List.cons_append, List.nil_append, List.append_nil, Option.some.injEq, V.int.injEq, V.ref.injEq, V.bl.injEq, V.str.injEq, V.ty.injEq, Bool.not_true, Bool.not_false, HO.lst.injEq, HO.tup.injEq, reduceCtorEq, Int.reduceToNat, Int.reduceLT, Int.reduceLE, Nat.reduceAdd, Int.cast_ofNat_Int, gi_c0, gi_c1, gi_c2, gi_c3, Int.natCast_inj, map_int_inj, map_nil_iff, List.cons.injEq, exists_eq_left, exists_eq_left', exists_eq, exists_eq', exists_and_left, exists_and_right, exists_const, and_assoc, and_true, true_and, and_false, false_and, or_false, false_or, or_true, true_or, ite_true, ite_false, if_true, if_false, Bool.false_eq_true, own_cons, own_nil, le1, le2, le3, le4, me_cons, me_nil, List.length_map, List.length_cons, List.length_nil, ne_eq, not_false_eq_true, not_true_eq_false, decide_eq_true_eq]
      refine ⟨⟨_, sqL_of ha⟩, lc_mapL (· % p) ha (by omega) (fun x => rfl) (fun n hm H' sm Q' k' => ?_) (fun A H' hA sm e => ?_)⟩
      · have b := hn n hm
        simp only [ap_seq, ap_next, ap_asg, ap_gName, ap_ret, ap_retN, ap_drop, ap_ifS, ap_break, ap_cont, ap_par, ap_aug, ap_ip, ap_gSub, ap_gTup, ap_gNil, ap_gCons, ap_var, ap_c, ap_op, ap_un, ap_if, ap_test, ap_B, ap_and, ap_or, ap_not, ap_andV, ap_orV, ap_notV, ap_nil, ap_cons, ap_tup, ap_lst, ap_cb, ap_bm, ap_call, ap_chain, ap_rI, ap_rI0, ap_rU, ap_rEq, ap_rNe, ap_revT, ap_sl, ap_part, ap_noPart, ap_ixLI, ap_ixTI, ap_ixLV, ap_ixTV, ap_len, ap_setLI, ap_setLV, ap_appI, ap_appV, ap_tupL, ap_listS, ap_sumLI, ap_sumTI, ap_repLI, ap_intI, ap_intB, ap_eqTI, ap_neTI, ap_eqLI, ap_neLI, ap_isi, ap_for, ap_rng1, ap_rng2, ap_iList, ap_iTup, ap_lc, ap_yes, ap_cut, ap_gTupH, ap_fmt, ap_jsn, ap_jsc, ap_gcd, ap_isqrt, ap_ixL, tyV_l, wipe_nil, wipe_cons, upd_same, ap_iEnT, ap_iEnL, ap_iZipA, ap_all, ap_tupT, ap_attF, ap_makeL, ap_att, ap_prop, ap_isO, ap_bin, ap_ne, ap_meth, ap_make, ins_inj, FE_inj, ap_slI, ap_catI, ap_perm, ap_lenO, ap_strO, ap_listO, ap_reprB, ap_iterT, ap_neT, ap_negO, ap_binI, ap_catL, ap_tM1, ap_repTI, ap_popN, ap_par3, ap_catTT, ap_repTA, ap_countT, ap_notInT, ap_repL1, ap_cm, ap_shl, ap_shr, ap_mask, ap_comb, ap_bits, ap_rng3, List.set_cons_zero, List.set_cons_succ, List.getElem?_cons_zero, List.getElem?_cons_succ, List.cons_append, List.nil_append, List.append_nil, Option.some.injEq, V.int.injEq, V.ref.injEq, V.bl.injEq, V.str.injEq, V.ty.injEq, Bool.not_true, Bool.not_false, HO.lst.injEq, HO.tup.injEq, reduceCtorEq, Int.reduceToNat, Int.reduceLT, Int.reduceLE, Nat.reduceAdd, Int.cast_ofNat_Int, gi_c0, gi_c1, gi_c2, gi_c3, Int.natCast_inj, map_int_inj, map_nil_iff, List.cons.injEq, exists_eq_left, exists_eq_left', exists_eq, exists_eq', exists_and_left, exists_and_right, exists_const, and_assoc, and_true, true_and, and_false, false_and, or_false, false_or, or_true, true_or, ite_true, ite_false, if_true, if_false, Bool.false_eq_true, own_cons, own_nil, le1, le2, le3, le4, me_cons, me_nil, List.length_map, List.length_cons, List.length_nil, ne_eq, not_false_eq_true, not_true_eq_false, decide_eq_true_eq]
        exact ⟨p0, k' _ (Same.refl _)⟩
      · exact ⟨A, rfl, _, e, fun l nl => k _ l (sm.trans (same_upd nl)) (free_of sm nl) upd_same⟩
    · refine ⟨_, (pss_one (ps_ret (pe_callTy cr_tupL (by rfl) T.z_tuple (by decide +kernel) (pa_cons (pe_lc (own := [("number", 2)]) (g := gName 2) (tt := tYes) rfl sc_modulo.nd (pi_tup (pv 0)) (blkOk_by (N := n_modulo) (sc := defScope s_modulo) (by decide +kernel)) (fun _ _ _ _ _ => (pg_name (i := 2) sc_modulo.nd rfl (by first | exact .inl rfl | exact .inr rfl))) (fun _ _ _ _ _ => pts_nil) (fun _ _ _ _ _ => (pe_op op_mod (pv 2) (pv 1)))) pa_nil)))), ?_⟩
      rw [st_modulo]
      simp only [ap_seq, ap_next, ap_asg, ap_gName, ap_ret, ap_retN, ap_drop, ap_ifS, ap_break, ap_cont, ap_par, ap_aug, ap_ip, ap_gSub, ap_gTup, ap_gNil, ap_gCons, ap_var, ap_c, ap_op, ap_un, ap_if, ap_test, ap_B, ap_and, ap_or, ap_not, ap_andV, ap_orV, ap_notV, ap_nil, ap_cons, ap_tup, ap_lst, ap_cb, ap_bm, ap_call, ap_chain, ap_rI, ap_rI0, ap_rU, ap_rEq, ap_rNe, ap_revT, ap_sl, ap_part, ap_noPart, ap_ixLI, ap_ixTI, ap_ixLV, ap_ixTV, ap_len, ap_setLI, ap_setLV, ap_appI, ap_appV, ap_tupL, ap_listS, ap_sumLI, ap_sumTI, ap_repLI, ap_intI, ap_intB, ap_eqTI, ap_neTI, ap_eqLI, ap_neLI, ap_isi, ap_for, ap_rng1, ap_rng2, ap_iList, ap_iTup, ap_lc, ap_yes, ap_cut, ap_gTupH, ap_fmt, ap_jsn, ap_jsc, ap_gcd, ap_isqrt, ap_ixL, tyV_l, wipe_nil, wipe_cons, upd_same, ap_iEnT, ap_iEnL, ap_iZipA, ap_all, ap_tupT, ap_attF, ap_makeL, ap_att, ap_prop, ap_isO, ap_bin, ap_ne, ap_meth, ap_make, ins_inj, FE_inj, ap_slI, ap_catI, ap_perm, ap_lenO, ap_strO, ap_listO, ap_reprB, ap_iterT, ap_neT, ap_negO, ap_binI, ap_catL, ap_tM1, ap_repTI, ap_popN, ap_par3, ap_catTT, ap_repTA, ap_countT, ap_notInT, ap_repL1, ap_cm, ap_shl, ap_shr, ap_mask, ap_comb, ap_bits, ap_rng3, List.set_cons_zero, List.set_cons_succ, List.getElem?_cons_zero, List.getElem?_cons_succ, List.cons_append, List.nil_append, List.append_nil, Option.some.injEq, V.int.injEq, V.ref.injEq, V.bl.injEq, V.str.injEq, V.ty.injEq, Bool.not_true, Bool.not_false, HO.lst.injEq, HO.tup.injEq, reduceCtorEq, Int.reduceToNat, Int.reduceLT, Int.reduceLE, Nat.reduceAdd, Int.cast_ofNat_Int, gi_c0, gi_c1, gi_c2, gi_c3, Int.natCast_inj, map_int_inj, map_nil_iff, List.cons.injEq, exists_eq_left, exists_eq_left', exists_eq, exists_eq', exists_and_left, exists_and_right, exists_const, and_assoc, and_true, true_and, and_false, false_and, or_false, false_or, or_true, true_or, ite_true, ite_false, if_true, if_false, Bool.false_eq_true, own_cons, own_nil, le1, le2, le3, le4, me_cons, me_nil, List.length_map, List.length_cons, List.length_nil, ne_eq, not_false_eq_true, not_true_eq_false, decide_eq_true_eq]
      refine ⟨⟨_, sqT_of ha⟩, lc_mapT (· % p) ha (by omega) (fun x => rfl) (fun n hm H' sm Q' k' => ?_) (fun A H' hA sm e => ?_)⟩
      · have b := hn n hm
        simp only [ap_seq, ap_next, ap_asg, ap_gName, ap_ret, ap_retN, ap_drop, ap_ifS, ap_break, ap_cont, ap_par, ap_aug, ap_ip, ap_gSub, ap_gTup, ap_gNil, ap_gCons, ap_var, ap_c, ap_op, ap_un, ap_if, ap_test, ap_B, ap_and, ap_or, ap_not, ap_andV, ap_orV, ap_notV, ap_nil, ap_cons, ap_tup, ap_lst, ap_cb, ap_bm, ap_call, ap_chain, ap_rI, ap_rI0, ap_rU, ap_rEq, ap_rNe, ap_revT, ap_sl, ap_part, ap_noPart, ap_ixLI, ap_ixTI, ap_ixLV, ap_ixTV, ap_len, ap_setLI, ap_setLV, ap_appI, ap_appV, ap_tupL, ap_listS, ap_sumLI, ap_sumTI, ap_repLI, ap_intI, ap_intB, ap_eqTI, ap_neTI, ap_eqLI, ap_neLI, ap_isi, ap_for, ap_rng1, ap_rng2, ap_iList, ap_iTup, ap_lc, ap_yes, ap_cut, ap_gTupH, ap_fmt, ap_jsn, ap_jsc, ap_gcd, ap_isqrt, ap_ixL, tyV_l, wipe_nil, wipe_cons, upd_same, ap_iEnT, ap_iEnL, ap_iZipA, ap_all, ap_tupT, ap_attF, ap_makeL, ap_att, ap_prop, ap_isO, ap_bin, ap_ne, ap_meth, ap_make, ins_inj, FE_inj, ap_slI, ap_catI, ap_perm, ap_lenO, ap_strO, ap_listO, ap_reprB, ap_iterT, ap_neT, ap_negO, ap_binI, ap_catL, ap_tM1, ap_repTI, ap_popN, ap_par3, ap_catTT, ap_repTA, ap_countT, ap_notInT, ap_repL1, ap_cm, ap_shl, ap_shr, ap_mask, ap_comb, ap_bits, ap_rng3, List.set_cons_zero, List.set_cons_succ, List.getElem?_cons_zero, List.getElem?_cons_succ, List.cons_append, List.nil_append, List.append_nil, Option.some.injEq, V.int.injEq, V.ref.injEq, V.bl.injEq, V.str.injEq, V.ty.injEq, Bool.not_true, Bool.not_false, HO.lst.injEq, HO.tup.injEq, reduceCtorEq, Int.reduceToNat, Int.reduceLT, Int.reduceLE, Nat.reduceAdd, Int.cast_ofNat_Int, gi_c0, gi_c1, gi_c2, gi_c3, Int.natCast_inj, map_int_inj, map_nil_iff, List.cons.injEq, exists_eq_left, exists_eq_left', exists_eq, exists_eq', exists_and_left, exists_and_right, exists_const, and_assoc, and_true, true_and, and_false, false_and, or_false, false_or, or_true, true_or, ite_true, ite_false, if_true, if_false, Bool.false_eq_true, own_cons, own_nil, le1, le2, le3, le4, me_cons, me_nil, List.length_map, List.length_cons, List.length_nil, ne_eq, not_false_eq_true, not_true_eq_false, decide_eq_true_eq]
        exact ⟨p0, k' _ (Same.refl _)⟩
      · exact ⟨A, rfl, _, e, fun l nl => k _ l (sm.trans (same_upd nl)) (free_of sm nl) upd_same⟩
end
end My
namespace My
open PySem PySem.Spec PyProof.Rows L2 Pr
section
variable {P : Program} {w : World} {K : PySem.W.Frag} {mg : Str → Option Value} {base : Heap}
theorem pow_mod (a p : Int) : ∀ k : Nat, (a % p) ^ k % p = a ^ k % p
  | 0 => by rw [Int.pow_zero, Int.pow_zero]
  | k + 1 => by
    rw [Int.pow_succ, Int.pow_succ, Int.mul_emod, pow_mod a p k, Int.emod_emod, ← Int.mul_emod]
/-- one turn of the powers: the invariant -/
def Pw (n p : Int) (e : Nat) (f s l : Int) : Prop := 0 ≤ f ∧ f < p ∧ 0 ≤ s ∧ s < p ∧ 0 ≤ l ∧ l < 1000 ∧ f * s ^ l.toNat % p = n ^ e % p
theorem Pw.start (n p : Int) {e : Int} (h0 : 0 ≤ e) (h1 : e < 1000) (hp : 1 < p) : Pw n p e.toNat 1 (n % p) e :=
  ⟨by omega, hp, Int.emod_nonneg _ (by omega), Int.emod_lt_of_pos _ (by omega), h0, h1, by rw [Int.one_mul, pow_mod]⟩
theorem Pw.wd {n p : Int} {e : Nat} {f s l : Int} (h : Pw n p e f s l) (hp : p < 1000) : CMu f s ∧ CMu s s := by
  obtain ⟨h1, h2, h3, h4, _⟩ := h
  have a : Wd f := Sm.wd (by unfold Sm; omega)
  have b : Wd s := Sm.wd (by unfold Sm; omega)
  exact ⟨⟨a, b⟩, b, b⟩
end
end My
namespace My
open PySem PySem.Spec PyProof.Rows L2 Pr
section
variable {P : Program} {w : World} {K : PySem.W.Frag} {mg : Str → Option Value} {base : Heap}
/-- entries of tables -/
def Tn (n : Int) : Prop := -(10 ^ 45) ≤ n ∧ n ≤ 10 ^ 45
theorem Tn.sm {n : Int} (h : Tn n) : Sm n := by
  unfold Tn at h
  unfold Sm
  omega
structure T4 (a b c d : Int) : Prop where
  a : Tn a
  b : Tn b
  c : Tn c
  d : Tn d
abbrev primes : List Int := [13, 17, 19, 23, 29, 31, 37, 41, 43, 47, 53, 59, 61, 67, 71, 73, 79, 83, 89, 97, 101]
theorem primes_bd {p : Int} (h : p ∈ primes) : 13 ≤ p ∧ p ≤ 101 := by
  have : ∀ p ∈ primes, 13 ≤ p ∧ p ≤ 101 := by decide
  exact this p h
def sp_need_prime : Sp := fun vs H Q _ => ∃ (p : Int), vs = [.int p] ∧ p ∈ primes ∧ Q .non H
theorem ok_need_prime (T : Tx K mg) : FnOk P w K mg base CX0 3 T.f_need_prime T.d_need_prime p_need_prime sp_need_prime := by
  refine T.F_need_prime.ok sc_need_prime (fun vs H Q E h => ?_) (fun cdv A outer s H vs Q E hr h => ?_)
  · obtain ⟨p, rfl, _⟩ := h
    rfl
  · obtain ⟨p, rfl, hp, k⟩ := h
    refine ⟨_, (pss_one (ps_if (PW.pt (pw_or (pt_not (pt_val (pe_call (ok_is_integer T) (hr.mono (by decide)) (by rfl) T.m_is_integer T.F_is_integer.kp T.b_is_integer .nil pass0 (pa_cons (pv 0) pa_nil)))) (pw_or1 (pt_cmpR op_notIn_seq (pv 0) (pe_glob (v := .ref T.o_PRIMES) (by rfl) T.c_PRIMES rfl) (by rfl))))) (pss_one ps_never) pss_nil)), ?_⟩
    rw [st_need_prime]
    simp only [ap_seq, ap_next, ap_asg, ap_gName, ap_ret, ap_retN, ap_drop, ap_ifS, ap_break, ap_cont, ap_par, ap_aug, ap_ip, ap_gSub, ap_gTup, ap_gNil, ap_gCons, ap_var, ap_c, ap_op, ap_un, ap_if, ap_test, ap_B, ap_and, ap_or, ap_not, ap_andV, ap_orV, ap_notV, ap_nil, ap_cons, ap_tup, ap_lst, ap_cb, ap_bm, ap_call, ap_chain, ap_rI, ap_rI0, ap_rU, ap_rEq, ap_rNe, ap_revT, ap_sl, ap_part, ap_noPart, ap_ixLI, ap_ixTI, ap_ixLV, ap_ixTV, ap_len, ap_setLI, ap_setLV, ap_appI, ap_appV, ap_tupL, ap_listS, ap_sumLI, ap_sumTI, ap_repLI, ap_intI, ap_intB, ap_eqTI, ap_neTI, ap_eqLI, ap_neLI, ap_isi, ap_for, ap_rng1, ap_rng2, ap_iList, ap_iTup, ap_lc, ap_yes, ap_cut, ap_gTupH, ap_fmt, ap_jsn, ap_jsc, ap_gcd, ap_isqrt, ap_ixL, tyV_l, wipe_nil, wipe_cons, upd_same, ap_iEnT, ap_iEnL, ap_iZipA, ap_all, ap_tupT, ap_attF, ap_makeL, ap_att, ap_prop, ap_isO, ap_bin, ap_ne, ap_meth, ap_make, ins_inj, FE_inj, ap_slI, ap_catI, ap_perm, ap_lenO, ap_strO, ap_listO, ap_reprB, ap_iterT, ap_neT, ap_negO, ap_binI, ap_catL, ap_tM1, ap_repTI, ap_popN, ap_par3, ap_catTT, ap_repTA, ap_countT, ap_notInT, ap_repL1, ap_cm, ap_shl, ap_shr, ap_mask, ap_comb, ap_bits, ap_rng3, List.set_cons_zero, List.set_cons_succ, List.getElem?_cons_zero, List.getElem?_cons_succ, List.cons_append, List.nil_append, List.append_nil, Option.some.injEq, V.int.injEq, V.ref.injEq, V.bl.injEq, V.str.injEq, V.ty.injEq, Bool.not_true, Bool.not_false, HO.lst.injEq, HO.tup.injEq, reduceCtorEq, Int.reduceToNat, Int.reduceLT, Int.reduceLE, Nat.reduceAdd, Int.cast_ofNat_Int, gi_c0, gi_c1, gi_c2, gi_c3, Int.natCast_inj, map_int_inj, map_nil_iff, List.cons.injEq, exists_eq_left, exists_eq_left', exists_eq, exists_eq', exists_and_left, exists_and_right, exists_const, and_assoc, and_true, true_and, and_false, false_and, or_false, false_or, or_true, true_or, ite_true, ite_false, if_true, if_false, Bool.false_eq_true, own_cons, own_nil, le1, le2, le3, le4, me_cons, me_nil, List.length_map, List.length_cons, List.length_nil, ne_eq, not_false_eq_true, not_true_eq_false, decide_eq_true_eq, sp_is_integer]
    have pb := primes_bd hp
    have e : isI (.int p) = true := decide_eq_true (by omega)
    refine ⟨⟨_, rfl⟩, ?_⟩
    rw [e, if_neg (by simp)]
    refine ⟨_, _, rfl, .inr (T.v_PRIMES H), rfl, by decide +kernel, false, ?_, k⟩
    have : inV (.int p) (primes.map V.int) = true := by
      rw [show inV (.int p) (primes.map V.int) = (primes.map V.int).any (fun y => eqV y (.int p)) from rfl, List.any_eq_true]
      exact ⟨.int p, List.mem_map_of_mem hp, by show decide (p = p) = true; exact decide_eq_true rfl⟩
    rw [if_pos rfl, this]
    rfl
def sp_need_prime_table : Sp := fun vs H Q _ => ∃ (t : Addr) (a b c d p : Int), vs = [.ref t, .int p] ∧ TabAt H t a b c d ∧ T4 a b c d ∧ (a * d - b * c) % p ≠ 0 ∧ 1 < p ∧ p < 1000 ∧ ∀ H', Same H H' → Q .non H'
theorem ok_need_prime_table (T : Tx K mg) : FnOk P w K mg base CX0 10 T.f_need_prime_table T.d_need_prime_table p_need_prime_table sp_need_prime_table := by
  refine T.F_need_prime_table.ok sc_need_prime_table (fun vs H Q E h => ?_) (fun cdv A outer s H vs Q E hr h => ?_)
  · obtain ⟨t, a, b, c, d, p, rfl, _⟩ := h
    rfl
  · obtain ⟨t, a, b, c, d, p, rfl, ht, h4, hd, p0, p1, k⟩ := h
    refine ⟨_, (pss_one (ps_if (PW.pt (pw_or (pt_not (pt_val (pe_call (ok_is_change T) (hr.mono (by decide)) (by rfl) T.m_is_change T.F_is_change.kp T.b_is_change .nil pass0 (pa_cons (pv 0) pa_nil)))) (pw_or1 (pt_cmpR op_eq (pe_op op_mod (pe_call (ok_determinant_of T) (hr.mono (by decide)) (by rfl) T.m_determinant_of T.F_determinant_of.kp T.b_determinant_of .nil pass0 (pa_cons (pv 0) pa_nil)) (pv 1)) pe_int (nomark _))))) (pss_one ps_never) pss_nil)), ?_⟩
    rw [st_need_prime_table]
    simp only [ap_seq, ap_next, ap_asg, ap_gName, ap_ret, ap_retN, ap_drop, ap_ifS, ap_break, ap_cont, ap_par, ap_aug, ap_ip, ap_gSub, ap_gTup, ap_gNil, ap_gCons, ap_var, ap_c, ap_op, ap_un, ap_if, ap_test, ap_B, ap_and, ap_or, ap_not, ap_andV, ap_orV, ap_notV, ap_nil, ap_cons, ap_tup, ap_lst, ap_cb, ap_bm, ap_call, ap_chain, ap_rI, ap_rI0, ap_rU, ap_rEq, ap_rNe, ap_revT, ap_sl, ap_part, ap_noPart, ap_ixLI, ap_ixTI, ap_ixLV, ap_ixTV, ap_len, ap_setLI, ap_setLV, ap_appI, ap_appV, ap_tupL, ap_listS, ap_sumLI, ap_sumTI, ap_repLI, ap_intI, ap_intB, ap_eqTI, ap_neTI, ap_eqLI, ap_neLI, ap_isi, ap_for, ap_rng1, ap_rng2, ap_iList, ap_iTup, ap_lc, ap_yes, ap_cut, ap_gTupH, ap_fmt, ap_jsn, ap_jsc, ap_gcd, ap_isqrt, ap_ixL, tyV_l, wipe_nil, wipe_cons, upd_same, ap_iEnT, ap_iEnL, ap_iZipA, ap_all, ap_tupT, ap_attF, ap_makeL, ap_att, ap_prop, ap_isO, ap_bin, ap_ne, ap_meth, ap_make, ins_inj, FE_inj, ap_slI, ap_catI, ap_perm, ap_lenO, ap_strO, ap_listO, ap_reprB, ap_iterT, ap_neT, ap_negO, ap_binI, ap_catL, ap_tM1, ap_repTI, ap_popN, ap_par3, ap_catTT, ap_repTA, ap_countT, ap_notInT, ap_repL1, ap_cm, ap_shl, ap_shr, ap_mask, ap_comb, ap_bits, ap_rng3, List.set_cons_zero, List.set_cons_succ, List.getElem?_cons_zero, List.getElem?_cons_succ, List.cons_append, List.nil_append, List.append_nil, Option.some.injEq, V.int.injEq, V.ref.injEq, V.bl.injEq, V.str.injEq, V.ty.injEq, Bool.not_true, Bool.not_false, HO.lst.injEq, HO.tup.injEq, reduceCtorEq, Int.reduceToNat, Int.reduceLT, Int.reduceLE, Nat.reduceAdd, Int.cast_ofNat_Int, gi_c0, gi_c1, gi_c2, gi_c3, Int.natCast_inj, map_int_inj, map_nil_iff, List.cons.injEq, exists_eq_left, exists_eq_left', exists_eq, exists_eq', exists_and_left, exists_and_right, exists_const, and_assoc, and_true, true_and, and_false, false_and, or_false, false_or, or_true, true_or, ite_true, ite_false, if_true, if_false, Bool.false_eq_true, own_cons, own_nil, le1, le2, le3, le4, me_cons, me_nil, List.length_map, List.length_cons, List.length_nil, ne_eq, not_false_eq_true, not_true_eq_false, decide_eq_true_eq, sp_is_change, sp_determinant_of]
    refine ⟨a, b, c, d, ht, h4.a.sm, h4.b.sm, h4.c.sm, h4.d.sm, fun H1 s1 => ⟨a, b, c, d, ht.same s1, h4.a.sm, h4.b.sm, h4.c.sm, h4.d.sm, by omega, rfl, ?_⟩⟩
    rw [if_neg hd]
    exact k H1 s1
end
end My
namespace My
open PySem PySem.Spec PyProof.Rows L2 Pr
section
variable {P : Program} {w : World} {K : PySem.W.Frag} {mg : Str → Option Value} {base : Heap}
def sp_law_some_prime : Sp := fun vs H Q _ => ∃ (d : Addr), vs = [.ref d] ∧ Dc H d ∧
  ∀ H' p, Exc d H H' → Dc H' d → p ∈ primes → Q (.int p) H'
theorem ok_law_some_prime (T : Tx K mg) : FnOk P w K mg base CX0 3 T.f_law_some_prime T.d_law_some_prime p_law_some_prime sp_law_some_prime := by
  refine T.F_law_some_prime.ok sc_law_some_prime (fun vs H Q E h => ?_) (fun cdv A outer s H vs Q E hr h => ?_)
  · obtain ⟨d, rfl, _⟩ := h
    rfl
  · obtain ⟨d, rfl, hD, k⟩ := h
    refine ⟨_, (pss_one (ps_ret (pe_call (ok_law_pick T) (hr.mono (by decide)) (by rfl) T.m_law_pick T.F_law_pick.kp T.b_law_pick .nil pass0 (pa_cons (pv 0) (pa_cons (pe_lst (pa_cons pe_int (pa_cons pe_int (pa_cons pe_int (pa_cons pe_int (pa_cons pe_int (pa_cons pe_int (pa_cons pe_int (pa_cons pe_int (pa_cons pe_int (pa_cons pe_int (pa_cons pe_int (pa_cons pe_int (pa_cons pe_int (pa_cons pe_int (pa_cons pe_int (pa_cons pe_int (pa_cons pe_int (pa_cons pe_int (pa_cons pe_int (pa_cons pe_int (pa_cons pe_int (pa_cons pe_int pa_nil))))))))))))))))))))))) pa_nil))))), ?_⟩
    rw [st_law_some_prime]
    simp only [ap_seq, ap_next, ap_asg, ap_gName, ap_ret, ap_retN, ap_drop, ap_ifS, ap_break, ap_cont, ap_par, ap_aug, ap_ip, ap_gSub, ap_gTup, ap_gNil, ap_gCons, ap_var, ap_c, ap_op, ap_un, ap_if, ap_test, ap_B, ap_and, ap_or, ap_not, ap_andV, ap_orV, ap_notV, ap_nil, ap_cons, ap_tup, ap_lst, ap_cb, ap_bm, ap_call, ap_chain, ap_rI, ap_rI0, ap_rU, ap_rEq, ap_rNe, ap_revT, ap_sl, ap_part, ap_noPart, ap_ixLI, ap_ixTI, ap_ixLV, ap_ixTV, ap_len, ap_setLI, ap_setLV, ap_appI, ap_appV, ap_tupL, ap_listS, ap_sumLI, ap_sumTI, ap_repLI, ap_intI, ap_intB, ap_eqTI, ap_neTI, ap_eqLI, ap_neLI, ap_isi, ap_for, ap_rng1, ap_rng2, ap_iList, ap_iTup, ap_lc, ap_yes, ap_cut, ap_gTupH, ap_fmt, ap_jsn, ap_jsc, ap_gcd, ap_isqrt, ap_ixL, tyV_l, wipe_nil, wipe_cons, upd_same, ap_iEnT, ap_iEnL, ap_iZipA, ap_all, ap_tupT, ap_attF, ap_makeL, ap_att, ap_prop, ap_isO, ap_bin, ap_ne, ap_meth, ap_make, ins_inj, FE_inj, ap_slI, ap_catI, ap_perm, ap_lenO, ap_strO, ap_listO, ap_reprB, ap_iterT, ap_neT, ap_negO, ap_binI, ap_catL, ap_tM1, ap_repTI, ap_popN, ap_par3, ap_catTT, ap_repTA, ap_countT, ap_notInT, ap_repL1, ap_cm, ap_shl, ap_shr, ap_mask, ap_comb, ap_bits, ap_rng3, List.set_cons_zero, List.set_cons_succ, List.getElem?_cons_zero, List.getElem?_cons_succ, List.cons_append, List.nil_append, List.append_nil, Option.some.injEq, V.int.injEq, V.ref.injEq, V.bl.injEq, V.str.injEq, V.ty.injEq, Bool.not_true, Bool.not_false, HO.lst.injEq, HO.tup.injEq, reduceCtorEq, Int.reduceToNat, Int.reduceLT, Int.reduceLE, Nat.reduceAdd, Int.cast_ofNat_Int, gi_c0, gi_c1, gi_c2, gi_c3, Int.natCast_inj, map_int_inj, map_nil_iff, List.cons.injEq, exists_eq_left, exists_eq_left', exists_eq, exists_eq', exists_and_left, exists_and_right, exists_const, and_assoc, and_true, true_and, and_false, false_and, or_false, false_or, or_true, true_or, ite_true, ite_false, if_true, if_false, Bool.false_eq_true, own_cons, own_nil, le1, le2, le3, le4, me_cons, me_nil, List.length_map, List.length_cons, List.length_nil, ne_eq, not_false_eq_true, not_true_eq_false, decide_eq_true_eq, sp_law_pick]
    refine ⟨by decide, fun l nl => ?_⟩
    have s := same_upd (o := LI [13, 13, 17, 19, 23, 29, 31, 37, 41, 43, 47, 53, 59, 61, 67, 71, 73, 79, 83, 89, 97, 101]) nl
    refine ⟨hD.same s, [13, 13, 17, 19, 23, 29, 31, 37, 41, 43, 47, 53, 59, 61, 67, 71, 73, 79, 83, 89, 97, 101], rfl, fun e => ?_, by decide, by decide, fun H1 i ex D1 hi => ?_⟩
    · subst e
      obtain ⟨_, _, _, e⟩ := hD
      rw [e] at nl
      cases nl
    · refine k _ _ (Exc.trans (.same s) ex) D1 ?_
      have : ∀ i, i < 22 → ([13, 13, 17, 19, 23, 29, 31, 37, 41, 43, 47, 53, 59, 61, 67, 71, 73, 79, 83, 89, 97, 101] : List Int).getD i 0 ∈ primes := by decide +kernel
      exact this i hi
def sp_law_prime_table : Sp := fun vs H Q _ => ∃ (d : Addr) (p : Int), vs = [.ref d, .int p] ∧ Dc H d ∧ p ∈ primes ∧ ∀ H' r a b c e, Exc d H H' → Dc H' d → TabAt H' r a b c e → (∀ n ∈ [a, b, c, e], -(10 ^ 20) ≤ n ∧ n ≤ 10 ^ 20) → (a * e - b * c) % p ≠ 0 → Q (.ref r) H'
theorem ok_law_prime_table (T : Tx K mg) : FnOk P w K mg base CX0 3 T.f_law_prime_table T.d_law_prime_table p_law_prime_table sp_law_prime_table := by
  refine T.F_law_prime_table.ok sc_law_prime_table (fun vs H Q E h => ?_) (fun cdv A outer s H vs Q E hr h => ?_)
  · obtain ⟨d, p, rfl, _⟩ := h
    rfl
  · obtain ⟨d, p, rfl, hD, hp, k⟩ := h
    refine ⟨_, (pss_cons (ps_set (i := 2) sc_law_prime_table.nd rfl (Or.inr rfl) (pe_call (ok_law_pick T) (hr.mono (by decide)) (by rfl) T.m_law_pick T.F_law_pick.kp T.b_law_pick .nil pass0 (pa_cons (pv 0) (pa_cons (pe_lst (pa_cons pe_int (pa_cons (pv 1) (pa_cons (pe_op op_mulB pe_int (pv 1)) (pa_cons (pe_op op_pow pe_int pe_int) pa_nil))))) pa_nil))))
      (pss_cons (ps_set (i := 3) sc_law_prime_table.nd rfl (Or.inl rfl) (pe_callTy cr_tupL (by rfl) T.z_tuple (by decide +kernel) (pa_cons (pe_lc (own := [("_law_row", 4)]) (g := gName 4) (tt := tYes) rfl sc_law_prime_table.nd (pi_range1 (by rfl) T.z_range (pa_cons pe_int pa_nil)) (blkOk_by (N := n_law_prime_table) (sc := defScope s_law_prime_table) (by decide +kernel)) (fun _ _ _ _ _ => (pg_name (i := 4) sc_law_prime_table.nd rfl (by first | exact .inl rfl | exact .inr rfl))) (fun _ _ _ _ _ => pts_nil) (fun _ _ _ _ _ => (pe_tup (pa_cons (pe_call (ok_law_near T) (hr.mono (by decide)) (by rfl) T.m_law_near T.F_law_near.kp T.b_law_near .nil pass0 (pa_cons (pv 0) (pa_cons (pv 2) pa_nil))) (pa_cons (pe_call (ok_law_near T) (hr.mono (by decide)) (by rfl) T.m_law_near T.F_law_near.kp T.b_law_near .nil pass0 (pa_cons (pv 0) (pa_cons (pv 2) pa_nil))) pa_nil))))) pa_nil)))
      (pss_one (ps_ret (pe_ifExp (pt_cmpR op_ne (pe_op op_mod (pe_callTy cr_intI (by rfl) T.z_int (by decide +kernel) (pa_cons (pe_call (ok_law_det T) (hr.mono (by decide)) (by rfl) T.m_law_det T.F_law_det.kp T.b_law_det .nil pass0 (pa_cons (pv 3) pa_nil)) pa_nil)) (pv 1)) pe_int (nomark _)) (pv 3) (pe_tup (pa_cons (pe_tup (pa_cons pe_int (pa_cons pe_int pa_nil))) (pa_cons (pe_tup (pa_cons pe_int (pa_cons pe_int pa_nil))) pa_nil)))))))), ?_⟩
    rw [st_law_prime_table]
    simp only [ap_seq, ap_next, ap_asg, ap_gName, ap_ret, ap_retN, ap_drop, ap_ifS, ap_break, ap_cont, ap_par, ap_aug, ap_ip, ap_gSub, ap_gTup, ap_gNil, ap_gCons, ap_var, ap_c, ap_op, ap_un, ap_if, ap_test, ap_B, ap_and, ap_or, ap_not, ap_andV, ap_orV, ap_notV, ap_nil, ap_cons, ap_tup, ap_lst, ap_cb, ap_bm, ap_call, ap_chain, ap_rI, ap_rI0, ap_rU, ap_rEq, ap_rNe, ap_revT, ap_sl, ap_part, ap_noPart, ap_ixLI, ap_ixTI, ap_ixLV, ap_ixTV, ap_len, ap_setLI, ap_setLV, ap_appI, ap_appV, ap_tupL, ap_listS, ap_sumLI, ap_sumTI, ap_repLI, ap_intI, ap_intB, ap_eqTI, ap_neTI, ap_eqLI, ap_neLI, ap_isi, ap_for, ap_rng1, ap_rng2, ap_iList, ap_iTup, ap_lc, ap_yes, ap_cut, ap_gTupH, ap_fmt, ap_jsn, ap_jsc, ap_gcd, ap_isqrt, ap_ixL, tyV_l, wipe_nil, wipe_cons, upd_same, ap_iEnT, ap_iEnL, ap_iZipA, ap_all, ap_tupT, ap_attF, ap_makeL, ap_att, ap_prop, ap_isO, ap_bin, ap_ne, ap_meth, ap_make, ins_inj, FE_inj, ap_slI, ap_catI, ap_perm, ap_lenO, ap_strO, ap_listO, ap_reprB, ap_iterT, ap_neT, ap_negO, ap_binI, ap_catL, ap_tM1, ap_repTI, ap_popN, ap_par3, ap_catTT, ap_repTA, ap_countT, ap_notInT, ap_repL1, ap_cm, ap_shl, ap_shr, ap_mask, ap_comb, ap_bits, ap_rng3, List.set_cons_zero, List.set_cons_succ, List.getElem?_cons_zero, List.getElem?_cons_succ, List.cons_append, List.nil_append, List.append_nil, Option.some.injEq, V.int.injEq, V.ref.injEq, V.bl.injEq, V.str.injEq, V.ty.injEq, Bool.not_true, Bool.not_false, HO.lst.injEq, HO.tup.injEq, reduceCtorEq, Int.reduceToNat, Int.reduceLT, Int.reduceLE, Nat.reduceAdd, Int.cast_ofNat_Int, gi_c0, gi_c1, gi_c2, gi_c3, Int.natCast_inj, map_int_inj, map_nil_iff, List.cons.injEq, exists_eq_left, exists_eq_left', exists_eq, exists_eq', exists_and_left, exists_and_right, exists_const, and_assoc, and_true, true_and, and_false, false_and, or_false, false_or, or_true, true_or, ite_true, ite_false, if_true, if_false, Bool.false_eq_true, own_cons, own_nil, le1, le2, le3, le4, me_cons, me_nil, List.length_map, List.length_cons, List.length_nil, ne_eq, not_false_eq_true, not_true_eq_false, decide_eq_true_eq]
    have pb := primes_bd hp
    have nd : ∀ {q : Addr} {H : Hp}, Dc H d → H q = none → q ≠ d := fun {q H} hD nq e => by
      subst e
      obtain ⟨_, _, _, e⟩ := hD
      rw [e] at nq
      cases nq
    refine ⟨⟨Sm.wd (by unfold Sm; omega), Sm.wd (by unfold Sm; omega)⟩, ⟨by decide, by decide, by decide⟩, by decide, fun l nl => ?_⟩
    have s1 := same_upd (o := LI [2, p, 3 * p, 10 ^ 20]) nl
    refine ⟨d, l, [2, p, 3 * p, 10 ^ 20], rfl, hD.same s1, upd_same, nd hD nl, by show 0 < 4; omega, by show 4 < 1000; omega, fun H1 i ex1 D1 hi => ⟨by decide, by decide, ?_⟩⟩
    have hm : 0 ≤ ([2, p, 3 * p, 10 ^ 20] : List Int).getD i 0 ∧ ([2, p, 3 * p, 10 ^ 20] : List Int).getD i 0 ≤ 10 ^ 20 := by
      match i, hi with
      | 0, _ => exact ⟨show (0 : Int) ≤ 2 by decide, show (2 : Int) ≤ 10 ^ 20 by decide⟩
      | 1, _ => exact ⟨show 0 ≤ p by omega, show p ≤ 10 ^ 20 by omega⟩
      | 2, _ => exact ⟨show 0 ≤ 3 * p by omega, show 3 * p ≤ 10 ^ 20 by omega⟩
      | 3, _ => exact ⟨show (0 : Int) ≤ 10 ^ 20 by decide, Int.le_refl _⟩
    generalize ([2, p, 3 * p, 10 ^ 20] : List Int).getD i 0 = m at hm ⊢
    refine lc_rangeT (fun ns => ∃ a b, ns = [a, b] ∧ (-(10 ^ 20) ≤ a ∧ a ≤ 10 ^ 20) ∧ (-(10 ^ 20) ≤ b ∧ b ≤ 10 ^ 20)) (by decide) D1 (fun x => rfl) (fun i H2 hi ex2 D2 Q' k' => ?_) (fun A1 H2 rs nss nA ex2 D2 ln hR eA rw1 => ?_)
    · simp only [ap_seq, ap_next, ap_asg, ap_gName, ap_ret, ap_retN, ap_drop, ap_ifS, ap_break, ap_cont, ap_par, ap_aug, ap_ip, ap_gSub, ap_gTup, ap_gNil, ap_gCons, ap_var, ap_c, ap_op, ap_un, ap_if, ap_test, ap_B, ap_and, ap_or, ap_not, ap_andV, ap_orV, ap_notV, ap_nil, ap_cons, ap_tup, ap_lst, ap_cb, ap_bm, ap_call, ap_chain, ap_rI, ap_rI0, ap_rU, ap_rEq, ap_rNe, ap_revT, ap_sl, ap_part, ap_noPart, ap_ixLI, ap_ixTI, ap_ixLV, ap_ixTV, ap_len, ap_setLI, ap_setLV, ap_appI, ap_appV, ap_tupL, ap_listS, ap_sumLI, ap_sumTI, ap_repLI, ap_intI, ap_intB, ap_eqTI, ap_neTI, ap_eqLI, ap_neLI, ap_isi, ap_for, ap_rng1, ap_rng2, ap_iList, ap_iTup, ap_lc, ap_yes, ap_cut, ap_gTupH, ap_fmt, ap_jsn, ap_jsc, ap_gcd, ap_isqrt, ap_ixL, tyV_l, wipe_nil, wipe_cons, upd_same, ap_iEnT, ap_iEnL, ap_iZipA, ap_all, ap_tupT, ap_attF, ap_makeL, ap_att, ap_prop, ap_isO, ap_bin, ap_ne, ap_meth, ap_make, ins_inj, FE_inj, ap_slI, ap_catI, ap_perm, ap_lenO, ap_strO, ap_listO, ap_reprB, ap_iterT, ap_neT, ap_negO, ap_binI, ap_catL, ap_tM1, ap_repTI, ap_popN, ap_par3, ap_catTT, ap_repTA, ap_countT, ap_notInT, ap_repL1, ap_cm, ap_shl, ap_shr, ap_mask, ap_comb, ap_bits, ap_rng3, List.set_cons_zero, List.set_cons_succ, List.getElem?_cons_zero, List.getElem?_cons_succ, List.cons_append, List.nil_append, List.append_nil, Option.some.injEq, V.int.injEq, V.ref.injEq, V.bl.injEq, V.str.injEq, V.ty.injEq, Bool.not_true, Bool.not_false, HO.lst.injEq, HO.tup.injEq, reduceCtorEq, Int.reduceToNat, Int.reduceLT, Int.reduceLE, Nat.reduceAdd, Int.cast_ofNat_Int, gi_c0, gi_c1, gi_c2, gi_c3, Int.natCast_inj, map_int_inj, map_nil_iff, List.cons.injEq, exists_eq_left, exists_eq_left', exists_eq, exists_eq', exists_and_left, exists_and_right, exists_const, and_assoc, and_true, true_and, and_false, false_and, or_false, false_or, or_true, true_or, ite_true, ite_false, if_true, if_false, Bool.false_eq_true, own_cons, own_nil, le1, le2, le3, le4, me_cons, me_nil, List.length_map, List.length_cons, List.length_nil, ne_eq, not_false_eq_true, not_true_eq_false, decide_eq_true_eq]
      refine ⟨d, m, rfl, D2, by omega, by omega, fun H3 u ex3 D3 u0 u1 => ?_⟩
      refine ⟨d, m, rfl, D3, by omega, by omega, fun H4 v ex4 D4 v0 v1 => ?_⟩
      refine ⟨by decide, fun z nz => ?_⟩
      exact k' _ z [u, v] ((ex3.trans ex4).trans (.same (same_upd nz))) (D4.same (same_upd nz)) upd_same (nd D4 nz) ⟨u, v, rfl, ⟨by omega, by omega⟩, ⟨by omega, by omega⟩⟩
    · obtain ⟨rl, rr⟩ := rw1
      match nss, ln, hR, rl, rr with
      | [n1, n2], _, hR, rl, rr =>
        match rs, rl, rr, eA with
        | [r1, r2], _, rr, eA =>
          obtain ⟨a, b, rfl, ba, bb⟩ := hR n1 (by simp)
          obtain ⟨c, e, rfl, bc, be⟩ := hR n2 (by simp)
          have g1 := rr 0 r1 [a, b] rfl rfl
          have g2 := rr 1 r2 [c, e] rfl rfl
          refine ⟨A1, rfl, _, eA, fun z nz => ?_⟩
          have sl := same_upd (o := HO.tup ([r1, r2].map V.ref)) nz
          have h0 : upd H2 z (HO.tup ([r1, r2].map V.ref)) z = some (.tup [.ref r1, .ref r2]) := upd_same
          have h1 := sl _ _ g1.1
          have h2 := sl _ _ g2.1
          have D3 := D2.same sl
          have ex3 := ((Exc.same s1).trans ex1).trans (ex2.trans (.same sl))
          generalize upd H2 z (HO.tup ([r1, r2].map V.ref)) = G at h0 h1 h2 D3 ex3 ⊢
          have sm : ∀ {n : Int}, -(10 ^ 20) ≤ n ∧ n ≤ 10 ^ 20 → Sm n := fun {n} h => by unfold Sm; omega
          refine ⟨z, a, b, c, e, rfl, ⟨r1, r2, h0, h1, h2⟩, sm ba, sm bb, sm bc, sm be, _, rfl, by omega, rfl, iteC (fun cd => ?_) (fun cd => ?_)⟩
          · refine k G z a b c e ex3 D3 ⟨r1, r2, h0, h1, h2⟩ (fun n hn => ?_) (by simpa using cd)
            simp only [List.mem_cons, List.not_mem_nil, or_false] at hn
            rcases hn with rfl | rfl | rfl | rfl <;> assumption
          · refine ⟨by decide, fun p1 np1 => ⟨by decide, fun p2 np2 => ⟨by decide, fun p3 np3 => ?_⟩⟩⟩
            have q1 := same_upd (o := TI [1, 1]) np1
            have q2 := same_upd (o := TI [0, 1]) np2
            have q3 := same_upd (o := HO.tup [V.ref p1, V.ref p2]) np3
            refine k _ p3 1 1 0 1 (ex3.trans (.same ((q1.trans q2).trans q3))) (D3.same ((q1.trans q2).trans q3)) ⟨p1, p2, upd_same, q3 _ _ (q2 _ _ upd_same), q3 _ _ upd_same⟩ (fun n hn => ?_) ?_
            · simp only [List.mem_cons, List.not_mem_nil, or_false] at hn
              rcases hn with rfl | rfl | rfl | rfl <;> decide
            · show (1 : Int) % p ≠ 0
              rw [Int.emod_eq_of_lt (by decide) (by omega)]
              decide
end
end My
namespace My
open PySem PySem.Spec PyProof.Rows L2 Pr
/-! ### rows modulo p -/
abbrev md (p : Int) (es : List Int) : List Int := es.map (· % p)
theorem ad_mod {p a a' b b' : Int} (h1 : a % p = a' % p) (h2 : b % p = b' % p) : (a + b) % p = (a' + b') % p := by rw [Int.add_emod, h1, h2, ← Int.add_emod]
theorem mu_mod {p a a' b b' : Int} (h1 : a % p = a' % p) (h2 : b % p = b' % p) : (a * b) % p = (a' * b') % p := by rw [Int.mul_emod, h1, h2, ← Int.mul_emod]
theorem mm (a p : Int) : a % p % p = a % p := Int.emod_emod a p
theorem md_len (p : Int) (es : List Int) : (md p es).length = es.length := List.length_map ..
theorem md_md (p : Int) (es : List Int) : md p (md p es) = md p es := by
  unfold md
  rw [List.map_map]
  exact List.map_congr_left fun n _ => mm n p
theorem md_lenE {p : Int} {a b : List Int} (h : md p a = md p b) : a.length = b.length := by
  have := congrArg List.length h
  rwa [md_len, md_len] at this
theorem md_get {p : Int} {a b : List Int} (h : md p a = md p b) (i : Nat) : a.getD i 0 % p = b.getD i 0 % p := by
  have hl := md_lenE h
  by_cases hi : i < a.length
  · have e := congrArg (fun l : List Int => l[i]?) h
    simp only [md, List.getElem?_map, List.getElem?_eq_getElem hi, List.getElem?_eq_getElem (show i < b.length by omega), Option.map_some, Option.some.injEq] at e
    rw [List.getD_eq_getElem?_getD, List.getD_eq_getElem?_getD, List.getElem?_eq_getElem hi, List.getElem?_eq_getElem (show i < b.length by omega)]
    exact e
  · rw [List.getD_eq_getElem?_getD, List.getD_eq_getElem?_getD, List.getElem?_eq_none (by omega), List.getElem?_eq_none (by omega)]
theorem md_of {p : Int} {a b : List Int} (hl : a.length = b.length) (h : ∀ i, i < a.length → a.getD i 0 % p = b.getD i 0 % p) : md p a = md p b := by
  refine List.ext_getElem (by rw [md_len, md_len, hl]) fun i h1 h2 => ?_
  rw [md_len] at h1 h2
  have := h i h1
  rw [List.getD_eq_getElem?_getD, List.getD_eq_getElem?_getD, List.getElem?_eq_getElem h1, List.getElem?_eq_getElem h2] at this
  rw [List.getElem_map, List.getElem_map]
  exact this
theorem md_cv {p : Int} {a a' b b' : List Int} (ha : md p a = md p a') (hb : md p b = md p b') (k : Nat) : ∀ i, cv a b i k % p = cv a' b' i k % p
  | 0 => rfl
  | i + 1 => by
    show (cv a b i k + _) % p = (cv a' b' i k + _) % p
    refine ad_mod (md_cv ha hb k i) ?_
    by_cases h : i ≤ k
    · rw [if_pos h, if_pos h]
      exact mu_mod (md_get ha i) (md_get hb (k - i))
    · rw [if_neg h, if_neg h]
theorem md_mulP {p : Int} {a a' b b' : List Int} (ha : md p a = md p a') (hb : md p b = md p b') : md p (mulP a b) = md p (mulP a' b') := by
  have la := md_lenE ha
  have lb := md_lenE hb
  unfold mulP md
  rw [List.map_map, List.map_map, ← la, ← lb]
  exact List.map_congr_left fun k _ => md_cv ha hb k a.length
theorem md_zip {p : Int} : ∀ {a a' b b' : List Int}, md p a = md p a' → md p b = md p b' → md p (List.zipWith (· + ·) a b) = md p (List.zipWith (· + ·) a' b')
  | [], [], _, _, _, _ => by simp
  | [], _ :: _, _, _, h, _ => by cases md_lenE h
  | _ :: _, [], _, _, h, _ => by cases md_lenE h
  | _ :: _, _ :: _, [], [], _, _ => by simp
  | _ :: _, _ :: _, [], _ :: _, _, h => by cases md_lenE h
  | _ :: _, _ :: _, _ :: _, [], _, h => by cases md_lenE h
  | x :: a, x' :: a', y :: b, y' :: b', h1, h2 => by
    simp only [md, List.map_cons, List.cons.injEq] at h1 h2
    simp only [md, List.zipWith_cons_cons, List.map_cons, List.cons.injEq]
    exact ⟨ad_mod h1.1 h2.1, md_zip h1.2 h2.2⟩
theorem md_sc {p c c' : Int} {a a' : List Int} (h : md p a = md p a') (hc : c % p = c' % p) : md p (a.map (· * c)) = md p (a'.map (· * c')) := by
  refine md_of (by rw [List.length_map, List.length_map, md_lenE h]) fun i hi => ?_
  have g : ∀ (l : List Int) (z : Int), (l.map (· * z)).getD i 0 = l.getD i 0 * z := fun l z => by
    rw [List.getD_eq_getElem?_getD, List.getD_eq_getElem?_getD, List.getElem?_map]
    cases l[i]? with
    | none => show (0 : Int) = 0 * z; rw [Int.zero_mul]
    | some v => rfl
  rw [g, g]
  exact mu_mod (md_get h i) hc
theorem md_chT {p : Int} {F F' S S' : List Int} (hF : md p F = md p F') (hS : md p S = md p S') : ∀ (es es' : List Int) (st st' : List Int × List Int), md p es = md p es' → md p st.1 = md p st'.1 → md p st.2 = md p st'.2 → md p (chT F S es st).1 = md p (chT F' S' es' st').1
  | [], [], st, st', _, h1, _ => h1
  | [], _ :: _, _, _, h, _, _ => by cases md_lenE h
  | _ :: _, [], _, _, h, _, _ => by cases md_lenE h
  | c :: cs, c' :: cs', st, st', h, h1, h2 => by
    simp only [md, List.map_cons, List.cons.injEq] at h
    have m2 := md_mulP h2 hS
    exact md_chT hF hS cs cs' _ _ h.2 (md_zip (md_mulP h1 hF) (md_sc m2 h.1)) m2
theorem md_chP {p : Int} {F F' S S' es es' : List Int} (hF : md p F = md p F') (hS : md p S = md p S') (h : md p es = md p es') : md p (chP F S es) = md p (chP F' S' es') := by
  unfold chP
  refine md_chT hF hS _ _ _ _ ?_ ?_ rfl
  · unfold md at h ⊢
    rw [List.map_drop, List.map_drop, h]
  · have := md_get h 0
    simp only [md, List.map_cons, List.map_nil]
    rw [this]
theorem md_rg {p : Int} (hp : 0 < p) (es : List Int) : ∀ n ∈ md p es, 0 ≤ n ∧ n < p := fun n hn => by
  obtain ⟨m, _, rfl⟩ := List.mem_map.mp hn
  exact ⟨Int.emod_nonneg _ (by omega), Int.emod_lt_of_pos _ hp⟩
end My
namespace My
open PySem PySem.Spec PyProof.Rows L2 Pr
/-! ### prime forms -/
theorem isC_PrimeForm {K : PySem.W.Frag} {mg : Str → Option Value} (T : Tx K mg) : IsC K T.C_PrimeForm := ⟨T.cl_PrimeForm, T.px_cls, T.px_get, T.px_tak, T.px_obj, T.px_ty, T.px_int, T.px_tup⟩
/-- what a prime form keeps -/
def PFe (p : Int) (t : Addr) : List (Str × V) := [(Str.ofString "_prime", .int p), (Str.ofString "_entries", .ref t)]
theorem PF_p {p : Int} {t : Addr} : (PFe p t).lookup (Str.ofString "_prime") = some (V.int p) := by
  unfold PFe
  simp [List.lookup]
theorem PF_e {p : Int} {t : Addr} : (PFe p t).lookup (Str.ofString "_entries") = some (V.ref t) := by
  unfold PFe
  have h : (Str.ofString "_entries" == Str.ofString "_prime") = false := by decide +kernel
  simp [List.lookup, h]
theorem PF_put1 {p : Int} : putF (Str.ofString "_prime") (V.int p) [] = [(Str.ofString "_prime", V.int p)] := rfl
theorem PF_put2 {p : Int} {t : Addr} : putF (Str.ofString "_entries") (V.ref t) [(Str.ofString "_prime", V.int p)] = PFe p t := by
  show (if Str.ofString "_prime" = Str.ofString "_entries" then _ else _) = _
  rw [if_neg (by decide +kernel)]
  rfl
theorem PF_no {p : Int} {t : Addr} {m : Str} (h1 : (m == Str.ofString "_prime") = false) (h2 : (m == Str.ofString "_entries") = false) : (PFe p t).lookup m = none := by
  unfold PFe
  simp [List.lookup, h1, h2]
/-- a prime form at a -/
def PFAt (C : Addr) (H : Hp) (a : Addr) (p : Int) (es : List Int) : Prop := ∃ dx t, H a = some (.ins C dx (PFe p t)) ∧ H t = some (TI es)
theorem PFAt.same {C a : Addr} {H H' : Hp} {p : Int} {es : List Int} (h : PFAt C H a p es) (s : Same H H') : PFAt C H' a p es := by
  obtain ⟨dx, t, h1, h2⟩ := h
  exact ⟨dx, t, s _ _ h1, s _ _ h2⟩
structure Goop (es : List Int) : Prop where
  lo : 1 ≤ es.length
  hi : es.length ≤ 13
  sm : ∀ n ∈ es, Sm n
section
variable {P : Program} {w : World} {K : PySem.W.Frag} {mg : Str → Option Value} {base : Heap}
def sp_PrimeForm___init__ (C : Addr) : Sp := fun vs H Q _ => ∃ (x dx q : Addr) (p : Int) (es : List Int), vs = [.ref x, .int p, .ref q] ∧ H x = some (.ins C dx []) ∧ H q = some (TI es) ∧ p ∈ primes ∧ Goop es ∧
  ∀ H' t, (∀ b o, b ≠ x → H b = some o → H' b = some o) → H' x = some (.ins C dx (PFe p t)) → H' t = some (TI (md p es)) → Q .non H'
theorem ok_PrimeForm___init__ (T : Tx K mg) : FnOk P w K mg base CX0 8 T.f_PrimeForm___init__ T.d_PrimeForm___init__ p_PrimeForm___init__ (sp_PrimeForm___init__ T.C_PrimeForm) := by
  refine T.F_PrimeForm___init__.ok sc_PrimeForm___init__ (fun vs H Q E h => ?_) (fun cdv A outer s H vs Q E hr h => ?_)
  · obtain ⟨x, dx, q, p, es, rfl, _⟩ := h
    rfl
  · obtain ⟨x, dx, q, p, es, rfl, hx, hq, pp, g, k⟩ := h
    refine ⟨_, (pss_cons (ps_expr (pe_call (ok_need_prime T) (hr.mono (by decide)) (by rfl) T.m_need_prime T.F_need_prime.kp T.b_need_prime .nil pass0 (pa_cons (pv 1) pa_nil)))
      (pss_cons (ps_if (PW.pt (pw_or (pt_not (pt_val (pe_call (ok_is_row T) (hr.mono (by decide)) (by rfl) T.m_is_row T.F_is_row.kp T.b_is_row .nil pass0 (pa_cons (pv 2) pa_nil)))) (pw_or1 (pt_not (pt_chain op_le op_le pe_int (pe_callB cr_len (by rfl) T.z_len PySem.boot_len (pa_cons (pv 2) pa_nil)) (pe_op op_add (pe_glob (v := .int 12) (by rfl) T.c_MOST_DEGREE ⟨_, rfl⟩) pe_int)))))) (pss_one ps_never) pss_nil)
      (pss_cons (ps_fld (pv 0) (pv 1) rfl)
      (pss_one (ps_fld (pv 0) (pe_call (ok_modulo T) (hr.mono (by decide)) (by rfl) T.m_modulo T.F_modulo.kp T.b_modulo .nil pass0 (pa_cons (pv 2) (pa_cons (pv 1) pa_nil))) rfl))))), ?_⟩
    rw [st_PrimeForm___init__]
    have h1 := g.lo
    have h2 := g.hi
    simp only [ap_seq, ap_next, ap_asg, ap_gName, ap_ret, ap_retN, ap_drop, ap_ifS, ap_break, ap_cont, ap_par, ap_aug, ap_ip, ap_gSub, ap_gTup, ap_gNil, ap_gCons, ap_var, ap_c, ap_op, ap_un, ap_if, ap_test, ap_B, ap_and, ap_or, ap_not, ap_andV, ap_orV, ap_notV, ap_nil, ap_cons, ap_tup, ap_lst, ap_cb, ap_bm, ap_call, ap_chain, ap_rI, ap_rI0, ap_rU, ap_rEq, ap_rNe, ap_revT, ap_sl, ap_part, ap_noPart, ap_ixLI, ap_ixTI, ap_ixLV, ap_ixTV, ap_len, ap_setLI, ap_setLV, ap_appI, ap_appV, ap_tupL, ap_listS, ap_sumLI, ap_sumTI, ap_repLI, ap_intI, ap_intB, ap_eqTI, ap_neTI, ap_eqLI, ap_neLI, ap_isi, ap_for, ap_rng1, ap_rng2, ap_iList, ap_iTup, ap_lc, ap_yes, ap_cut, ap_gTupH, ap_fmt, ap_jsn, ap_jsc, ap_gcd, ap_isqrt, ap_ixL, tyV_l, wipe_nil, wipe_cons, upd_same, ap_iEnT, ap_iEnL, ap_iZipA, ap_all, ap_tupT, ap_attF, ap_makeL, ap_att, ap_prop, ap_isO, ap_bin, ap_ne, ap_meth, ap_make, ins_inj, FE_inj, ap_slI, ap_catI, ap_perm, ap_lenO, ap_strO, ap_listO, ap_reprB, ap_iterT, ap_neT, ap_negO, ap_binI, ap_catL, ap_tM1, ap_repTI, ap_popN, ap_par3, ap_catTT, ap_repTA, ap_countT, ap_notInT, ap_repL1, ap_cm, ap_shl, ap_shr, ap_mask, ap_comb, ap_bits, ap_rng3, List.set_cons_zero, List.set_cons_succ, List.getElem?_cons_zero, List.getElem?_cons_succ, List.cons_append, List.nil_append, List.append_nil, Option.some.injEq, V.int.injEq, V.ref.injEq, V.bl.injEq, V.str.injEq, V.ty.injEq, Bool.not_true, Bool.not_false, HO.lst.injEq, HO.tup.injEq, reduceCtorEq, Int.reduceToNat, Int.reduceLT, Int.reduceLE, Nat.reduceAdd, Int.cast_ofNat_Int, gi_c0, gi_c1, gi_c2, gi_c3, Int.natCast_inj, map_int_inj, map_nil_iff, List.cons.injEq, exists_eq_left, exists_eq_left', exists_eq, exists_eq', exists_and_left, exists_and_right, exists_const, and_assoc, and_true, true_and, and_false, false_and, or_false, false_or, or_true, true_or, ite_true, ite_false, if_true, if_false, Bool.false_eq_true, own_cons, own_nil, le1, le2, le3, le4, me_cons, me_nil, List.length_map, List.length_cons, List.length_nil, ne_eq, not_false_eq_true, not_true_eq_false, decide_eq_true_eq, sp_is_row, sp_need_prime]
    refine ⟨pp, es, hq, by omega, g.sm, fun H1 s1 => ?_⟩
    have hq1 := s1 _ _ hq
    have hx1 := s1 _ _ hx
    have pb := primes_bd pp
    refine ⟨_, .inr hq1, ?_⟩
    rw [List.length_map, if_pos (by omega), decide_eq_true (by omega), if_neg (by simp)]
    refine ⟨_, rfl, _, rfl, x, T.C_PrimeForm, dx, _, rfl, hx1, T.cl_PrimeForm, T.no_PrimeForm_prime, by decide, ?_⟩
    have nqx : q ≠ x := fun e => by
      subst e
      rw [hq] at hx
      cases hx
    refine ⟨_, rfl, _, rfl, q, es, p, rfl, .inr (by rw [upd_ne nqx]; exact hq1), by omega, fun n hn => (g.sm n hn).wd, by omega, by omega, fun H2 r s2 nr er => ?_⟩
    refine ⟨_, rfl, x, T.C_PrimeForm, dx, _, rfl, s2 _ _ upd_same, T.cl_PrimeForm, T.no_PrimeForm_entries, by rw [PF_put1]; show 1 < 1000; omega, ?_⟩
    have nrx : r ≠ x := fun e => by
      subst e
      rw [upd_same] at nr
      cases nr
    refine k _ r (fun b o hb e => ?_) (upd_same.trans (congrArg (fun f => some (HO.ins T.C_PrimeForm dx f)) ?_)) (by rw [upd_ne nrx]; exact er)
    · rw [upd_ne hb]
      refine s2 _ _ ?_
      rw [upd_ne hb]
      exact s1 _ _ e
    · exact PF_put2
/-- a new prime form -/
theorem newP_ok {H1 : Hp} {q C : Addr} {p : Int} {es : List Int} {Q : VK} (h : H1 q = some (TI es)) (pp : p ∈ primes) (g : Goop es) (k : ∀ a H', Same H1 H' → H1 a = none → PFAt C H' a p (md p es) → Q (.ref a) H') :
    NewV C (sp_PrimeForm___init__ C) [] E0 [.int p, .ref q] H1 Q := fun x dx nx ndx ne => by
  have ntx : q ≠ x := ne_of_none h nx
  have ntd : q ≠ dx := ne_of_none h ndx
  refine ⟨x, dx, q, p, es, rfl, upd_same, by rw [upd_ne ntx, upd_ne ntd]; exact h, pp, g, fun H' t s hx ht => ⟨rfl, k x H' (fun b o e => ?_) nx ⟨dx, t, hx, ht⟩⟩⟩
  have nbx : b ≠ x := ne_of_none e nx
  have nbd : b ≠ dx := ne_of_none e ndx
  exact s _ _ nbx (by rw [upd_ne nbx, upd_ne nbd]; exact e)
def sp_PrimeForm_prime (C : Addr) : Sp := fun vs H Q _ => ∃ (a dx t : Addr) (p : Int), vs = [.ref a] ∧ H a = some (.ins C dx (PFe p t)) ∧ Q (.int p) H
theorem ok_PrimeForm_prime (T : Tx K mg) : FnOk P w K mg base CX0 1 T.f_PrimeForm_prime T.d_PrimeForm_prime p_PrimeForm_prime (sp_PrimeForm_prime T.C_PrimeForm) := by
  refine T.F_PrimeForm_prime.ok sc_PrimeForm_prime (fun vs H Q E h => ?_) (fun cdv A outer s H vs Q E hr h => ?_)
  · obtain ⟨a, dx, t, p, rfl, _⟩ := h
    rfl
  · obtain ⟨a, dx, t, p, rfl, ha, q⟩ := h
    refine ⟨_, (pss_one (ps_ret (pe_attF (pe_fld (pv 0) rfl) mono_var T.cl_PrimeForm T.no_PrimeForm_prime))), ?_⟩
    rw [st_PrimeForm_prime]
    simp only [ap_seq, ap_next, ap_asg, ap_gName, ap_ret, ap_retN, ap_drop, ap_ifS, ap_break, ap_cont, ap_par, ap_aug, ap_ip, ap_gSub, ap_gTup, ap_gNil, ap_gCons, ap_var, ap_c, ap_op, ap_un, ap_if, ap_test, ap_B, ap_and, ap_or, ap_not, ap_andV, ap_orV, ap_notV, ap_nil, ap_cons, ap_tup, ap_lst, ap_cb, ap_bm, ap_call, ap_chain, ap_rI, ap_rI0, ap_rU, ap_rEq, ap_rNe, ap_revT, ap_sl, ap_part, ap_noPart, ap_ixLI, ap_ixTI, ap_ixLV, ap_ixTV, ap_len, ap_setLI, ap_setLV, ap_appI, ap_appV, ap_tupL, ap_listS, ap_sumLI, ap_sumTI, ap_repLI, ap_intI, ap_intB, ap_eqTI, ap_neTI, ap_eqLI, ap_neLI, ap_isi, ap_for, ap_rng1, ap_rng2, ap_iList, ap_iTup, ap_lc, ap_yes, ap_cut, ap_gTupH, ap_fmt, ap_jsn, ap_jsc, ap_gcd, ap_isqrt, ap_ixL, tyV_l, wipe_nil, wipe_cons, upd_same, ap_iEnT, ap_iEnL, ap_iZipA, ap_all, ap_tupT, ap_attF, ap_makeL, ap_att, ap_prop, ap_isO, ap_bin, ap_ne, ap_meth, ap_make, ins_inj, FE_inj, ap_slI, ap_catI, ap_perm, ap_lenO, ap_strO, ap_listO, ap_reprB, ap_iterT, ap_neT, ap_negO, ap_binI, ap_catL, ap_tM1, ap_repTI, ap_popN, ap_par3, ap_catTT, ap_repTA, ap_countT, ap_notInT, ap_repL1, ap_cm, ap_shl, ap_shr, ap_mask, ap_comb, ap_bits, ap_rng3, List.set_cons_zero, List.set_cons_succ, List.getElem?_cons_zero, List.getElem?_cons_succ, List.cons_append, List.nil_append, List.append_nil, Option.some.injEq, V.int.injEq, V.ref.injEq, V.bl.injEq, V.str.injEq, V.ty.injEq, Bool.not_true, Bool.not_false, HO.lst.injEq, HO.tup.injEq, reduceCtorEq, Int.reduceToNat, Int.reduceLT, Int.reduceLE, Nat.reduceAdd, Int.cast_ofNat_Int, gi_c0, gi_c1, gi_c2, gi_c3, Int.natCast_inj, map_int_inj, map_nil_iff, List.cons.injEq, exists_eq_left, exists_eq_left', exists_eq, exists_eq', exists_and_left, exists_and_right, exists_const, and_assoc, and_true, true_and, and_false, false_and, or_false, false_or, or_true, true_or, ite_true, ite_false, if_true, if_false, Bool.false_eq_true, own_cons, own_nil, le1, le2, le3, le4, me_cons, me_nil, List.length_map, List.length_cons, List.length_nil, ne_eq, not_false_eq_true, not_true_eq_false, decide_eq_true_eq, ha, PF_p, PF_e]
    exact q
def sp_PrimeForm_entries (C : Addr) : Sp := fun vs H Q _ => ∃ (a dx t : Addr) (p : Int), vs = [.ref a] ∧ H a = some (.ins C dx (PFe p t)) ∧ Q (.ref t) H
theorem ok_PrimeForm_entries (T : Tx K mg) : FnOk P w K mg base CX0 1 T.f_PrimeForm_entries T.d_PrimeForm_entries p_PrimeForm_entries (sp_PrimeForm_entries T.C_PrimeForm) := by
  refine T.F_PrimeForm_entries.ok sc_PrimeForm_entries (fun vs H Q E h => ?_) (fun cdv A outer s H vs Q E hr h => ?_)
  · obtain ⟨a, dx, t, p, rfl, _⟩ := h
    rfl
  · obtain ⟨a, dx, t, p, rfl, ha, q⟩ := h
    refine ⟨_, (pss_one (ps_ret (pe_attF (pe_fld (pv 0) rfl) mono_var T.cl_PrimeForm T.no_PrimeForm_entries))), ?_⟩
    rw [st_PrimeForm_entries]
    simp only [ap_seq, ap_next, ap_asg, ap_gName, ap_ret, ap_retN, ap_drop, ap_ifS, ap_break, ap_cont, ap_par, ap_aug, ap_ip, ap_gSub, ap_gTup, ap_gNil, ap_gCons, ap_var, ap_c, ap_op, ap_un, ap_if, ap_test, ap_B, ap_and, ap_or, ap_not, ap_andV, ap_orV, ap_notV, ap_nil, ap_cons, ap_tup, ap_lst, ap_cb, ap_bm, ap_call, ap_chain, ap_rI, ap_rI0, ap_rU, ap_rEq, ap_rNe, ap_revT, ap_sl, ap_part, ap_noPart, ap_ixLI, ap_ixTI, ap_ixLV, ap_ixTV, ap_len, ap_setLI, ap_setLV, ap_appI, ap_appV, ap_tupL, ap_listS, ap_sumLI, ap_sumTI, ap_repLI, ap_intI, ap_intB, ap_eqTI, ap_neTI, ap_eqLI, ap_neLI, ap_isi, ap_for, ap_rng1, ap_rng2, ap_iList, ap_iTup, ap_lc, ap_yes, ap_cut, ap_gTupH, ap_fmt, ap_jsn, ap_jsc, ap_gcd, ap_isqrt, ap_ixL, tyV_l, wipe_nil, wipe_cons, upd_same, ap_iEnT, ap_iEnL, ap_iZipA, ap_all, ap_tupT, ap_attF, ap_makeL, ap_att, ap_prop, ap_isO, ap_bin, ap_ne, ap_meth, ap_make, ins_inj, FE_inj, ap_slI, ap_catI, ap_perm, ap_lenO, ap_strO, ap_listO, ap_reprB, ap_iterT, ap_neT, ap_negO, ap_binI, ap_catL, ap_tM1, ap_repTI, ap_popN, ap_par3, ap_catTT, ap_repTA, ap_countT, ap_notInT, ap_repL1, ap_cm, ap_shl, ap_shr, ap_mask, ap_comb, ap_bits, ap_rng3, List.set_cons_zero, List.set_cons_succ, List.getElem?_cons_zero, List.getElem?_cons_succ, List.cons_append, List.nil_append, List.append_nil, Option.some.injEq, V.int.injEq, V.ref.injEq, V.bl.injEq, V.str.injEq, V.ty.injEq, Bool.not_true, Bool.not_false, HO.lst.injEq, HO.tup.injEq, reduceCtorEq, Int.reduceToNat, Int.reduceLT, Int.reduceLE, Nat.reduceAdd, Int.cast_ofNat_Int, gi_c0, gi_c1, gi_c2, gi_c3, Int.natCast_inj, map_int_inj, map_nil_iff, List.cons.injEq, exists_eq_left, exists_eq_left', exists_eq, exists_eq', exists_and_left, exists_and_right, exists_const, and_assoc, and_true, true_and, and_false, false_and, or_false, false_or, or_true, true_or, ite_true, ite_false, if_true, if_false, Bool.false_eq_true, own_cons, own_nil, le1, le2, le3, le4, me_cons, me_nil, List.length_map, List.length_cons, List.length_nil, ne_eq, not_false_eq_true, not_true_eq_false, decide_eq_true_eq, ha, PF_p, PF_e]
    exact q
def sp_PrimeForm_degree (C : Addr) : Sp := fun vs H Q _ => ∃ (a dx t : Addr) (p : Int) (es : List Int), vs = [.ref a] ∧ H a = some (.ins C dx (PFe p t)) ∧ H t = some (TI es) ∧ Q (.int (es.length - 1)) H
theorem ok_PrimeForm_degree (T : Tx K mg) : FnOk P w K mg base CX0 1 T.f_PrimeForm_degree T.d_PrimeForm_degree p_PrimeForm_degree (sp_PrimeForm_degree T.C_PrimeForm) := by
  refine T.F_PrimeForm_degree.ok sc_PrimeForm_degree (fun vs H Q E h => ?_) (fun cdv A outer s H vs Q E hr h => ?_)
  · obtain ⟨a, dx, t, p, es, rfl, _⟩ := h
    rfl
  · obtain ⟨a, dx, t, p, es, rfl, ha, ht, q⟩ := h
    refine ⟨_, (pss_one (ps_ret (pe_op op_sub (pe_callB cr_len (by rfl) T.z_len PySem.boot_len (pa_cons (pe_attF (pe_fld (pv 0) rfl) mono_var T.cl_PrimeForm T.no_PrimeForm_entries) pa_nil)) pe_int))), ?_⟩
    rw [st_PrimeForm_degree]
    simp only [ap_seq, ap_next, ap_asg, ap_gName, ap_ret, ap_retN, ap_drop, ap_ifS, ap_break, ap_cont, ap_par, ap_aug, ap_ip, ap_gSub, ap_gTup, ap_gNil, ap_gCons, ap_var, ap_c, ap_op, ap_un, ap_if, ap_test, ap_B, ap_and, ap_or, ap_not, ap_andV, ap_orV, ap_notV, ap_nil, ap_cons, ap_tup, ap_lst, ap_cb, ap_bm, ap_call, ap_chain, ap_rI, ap_rI0, ap_rU, ap_rEq, ap_rNe, ap_revT, ap_sl, ap_part, ap_noPart, ap_ixLI, ap_ixTI, ap_ixLV, ap_ixTV, ap_len, ap_setLI, ap_setLV, ap_appI, ap_appV, ap_tupL, ap_listS, ap_sumLI, ap_sumTI, ap_repLI, ap_intI, ap_intB, ap_eqTI, ap_neTI, ap_eqLI, ap_neLI, ap_isi, ap_for, ap_rng1, ap_rng2, ap_iList, ap_iTup, ap_lc, ap_yes, ap_cut, ap_gTupH, ap_fmt, ap_jsn, ap_jsc, ap_gcd, ap_isqrt, ap_ixL, tyV_l, wipe_nil, wipe_cons, upd_same, ap_iEnT, ap_iEnL, ap_iZipA, ap_all, ap_tupT, ap_attF, ap_makeL, ap_att, ap_prop, ap_isO, ap_bin, ap_ne, ap_meth, ap_make, ins_inj, FE_inj, ap_slI, ap_catI, ap_perm, ap_lenO, ap_strO, ap_listO, ap_reprB, ap_iterT, ap_neT, ap_negO, ap_binI, ap_catL, ap_tM1, ap_repTI, ap_popN, ap_par3, ap_catTT, ap_repTA, ap_countT, ap_notInT, ap_repL1, ap_cm, ap_shl, ap_shr, ap_mask, ap_comb, ap_bits, ap_rng3, List.set_cons_zero, List.set_cons_succ, List.getElem?_cons_zero, List.getElem?_cons_succ, List.cons_append, List.nil_append, List.append_nil, Option.some.injEq, V.int.injEq, V.ref.injEq, V.bl.injEq, V.str.injEq, V.ty.injEq, Bool.not_true, Bool.not_false, HO.lst.injEq, HO.tup.injEq, reduceCtorEq, Int.reduceToNat, Int.reduceLT, Int.reduceLE, Nat.reduceAdd, Int.cast_ofNat_Int, gi_c0, gi_c1, gi_c2, gi_c3, Int.natCast_inj, map_int_inj, map_nil_iff, List.cons.injEq, exists_eq_left, exists_eq_left', exists_eq, exists_eq', exists_and_left, exists_and_right, exists_const, and_assoc, and_true, true_and, and_false, false_and, or_false, false_or, or_true, true_or, ite_true, ite_false, if_true, if_false, Bool.false_eq_true, own_cons, own_nil, le1, le2, le3, le4, me_cons, me_nil, List.length_map, List.length_cons, List.length_nil, ne_eq, not_false_eq_true, not_true_eq_false, decide_eq_true_eq, ha, PF_p, PF_e]
    refine ⟨_, .inr ht, ?_⟩
    rw [List.length_map]
    exact q
end
end My
namespace My
open PySem PySem.Spec PyProof.Rows L2 Pr
section
variable {P : Program} {w : World} {K : PySem.W.Frag} {mg : Str → Option Value} {base : Heap}
def sp_PrimeForm_is_zero (C : Addr) : Sp := fun vs H Q _ => ∃ (a : Addr) (p : Int) (es : List Int), vs = [.ref a] ∧ PFAt C H a p es ∧ ∀ H', Same H H' → Q (.bl (decide (leadV es = .non))) H'
theorem ok_PrimeForm_is_zero (T : Tx K mg) : FnOk P w K mg base CX0 4 T.f_PrimeForm_is_zero T.d_PrimeForm_is_zero p_PrimeForm_is_zero (sp_PrimeForm_is_zero T.C_PrimeForm) := by
  refine T.F_PrimeForm_is_zero.ok sc_PrimeForm_is_zero (fun vs H Q E h => ?_) (fun cdv A outer s H vs Q E hr h => ?_)
  · obtain ⟨a, p, es, rfl, _⟩ := h
    rfl
  · obtain ⟨a, p, es, rfl, ⟨dx, t, ha, ht⟩, q⟩ := h
    refine ⟨_, (pss_one (ps_ret (pe_cmpR op_isN (pe_call (ok_lead_of T) (hr.mono (by decide)) (by rfl) T.m_lead_of T.F_lead_of.kp T.b_lead_of .nil pass0 (pa_cons (pe_attF (pe_fld (pv 0) rfl) mono_var T.cl_PrimeForm T.no_PrimeForm_entries) pa_nil)) pe_non (nomark _)))), ?_⟩
    rw [st_PrimeForm_is_zero]
    simp only [ap_seq, ap_next, ap_asg, ap_gName, ap_ret, ap_retN, ap_drop, ap_ifS, ap_break, ap_cont, ap_par, ap_aug, ap_ip, ap_gSub, ap_gTup, ap_gNil, ap_gCons, ap_var, ap_c, ap_op, ap_un, ap_if, ap_test, ap_B, ap_and, ap_or, ap_not, ap_andV, ap_orV, ap_notV, ap_nil, ap_cons, ap_tup, ap_lst, ap_cb, ap_bm, ap_call, ap_chain, ap_rI, ap_rI0, ap_rU, ap_rEq, ap_rNe, ap_revT, ap_sl, ap_part, ap_noPart, ap_ixLI, ap_ixTI, ap_ixLV, ap_ixTV, ap_len, ap_setLI, ap_setLV, ap_appI, ap_appV, ap_tupL, ap_listS, ap_sumLI, ap_sumTI, ap_repLI, ap_intI, ap_intB, ap_eqTI, ap_neTI, ap_eqLI, ap_neLI, ap_isi, ap_for, ap_rng1, ap_rng2, ap_iList, ap_iTup, ap_lc, ap_yes, ap_cut, ap_gTupH, ap_fmt, ap_jsn, ap_jsc, ap_gcd, ap_isqrt, ap_ixL, tyV_l, wipe_nil, wipe_cons, upd_same, ap_iEnT, ap_iEnL, ap_iZipA, ap_all, ap_tupT, ap_attF, ap_makeL, ap_att, ap_prop, ap_isO, ap_bin, ap_ne, ap_meth, ap_make, ins_inj, FE_inj, ap_slI, ap_catI, ap_perm, ap_lenO, ap_strO, ap_listO, ap_reprB, ap_iterT, ap_neT, ap_negO, ap_binI, ap_catL, ap_tM1, ap_repTI, ap_popN, ap_par3, ap_catTT, ap_repTA, ap_countT, ap_notInT, ap_repL1, ap_cm, ap_shl, ap_shr, ap_mask, ap_comb, ap_bits, ap_rng3, List.set_cons_zero, List.set_cons_succ, List.getElem?_cons_zero, List.getElem?_cons_succ, List.cons_append, List.nil_append, List.append_nil, Option.some.injEq, V.int.injEq, V.ref.injEq, V.bl.injEq, V.str.injEq, V.ty.injEq, Bool.not_true, Bool.not_false, HO.lst.injEq, HO.tup.injEq, reduceCtorEq, Int.reduceToNat, Int.reduceLT, Int.reduceLE, Nat.reduceAdd, Int.cast_ofNat_Int, gi_c0, gi_c1, gi_c2, gi_c3, Int.natCast_inj, map_int_inj, map_nil_iff, List.cons.injEq, exists_eq_left, exists_eq_left', exists_eq, exists_eq', exists_and_left, exists_and_right, exists_const, and_assoc, and_true, true_and, and_false, false_and, or_false, false_or, or_true, true_or, ite_true, ite_false, if_true, if_false, Bool.false_eq_true, own_cons, own_nil, le1, le2, le3, le4, me_cons, me_nil, List.length_map, List.length_cons, List.length_nil, ne_eq, not_false_eq_true, not_true_eq_false, decide_eq_true_eq, ha, PF_p, PF_e, sp_lead_of]
    exact ⟨es, ht, fun H1 s1 => q H1 s1⟩
def sp_changed_modulo : Sp := fun vs H Q _ => ∃ (t u : Addr) (es : List Int) (a b c d p : Int), vs = [.ref t, .ref u, .int p] ∧ H t = some (TI es) ∧ TabAt H u a b c d ∧ 1 ≤ es.length ∧ es.length ≤ 13 ∧ (∀ n ∈ es, 0 ≤ n ∧ n < p) ∧ Sm a ∧ Sm b ∧ Sm c ∧ Sm d ∧ 1 < p ∧ p < 1000 ∧
  ∀ H' r, Same H H' → H' r = some (TI (md p (chP [a, b] [c, d] es))) → Q (.ref r) H'
theorem ok_changed_modulo (T : Tx K mg) : FnOk P w K mg base CX0 8 T.f_changed_modulo T.d_changed_modulo p_changed_modulo sp_changed_modulo := by
  refine T.F_changed_modulo.ok sc_changed_modulo (fun vs H Q E h => ?_) (fun cdv A outer s H vs Q E hr h => ?_)
  · obtain ⟨t, u, es, a, b, c, d, p, rfl, _⟩ := h
    rfl
  · obtain ⟨t, u, es, a, b, c, d, p, rfl, ht, ⟨r1, r2, h1, h2, h3⟩, ln1, ln2, rg, ba, bb, bc, bd, p1, p2, k⟩ := h
    refine ⟨_, (pss_cons (ps_set (i := 3) sc_changed_modulo.nd rfl (Or.inl rfl) (pe_tup (pa_cons (pe_call (ok_modulo T) (hr.mono (by decide)) (by rfl) T.m_modulo T.F_modulo.kp T.b_modulo .nil pass0 (pa_cons (pe_ix ix_TV (pv 1) pe_int (fun _ _ => rfl)) (pa_cons (pv 2) pa_nil))) (pa_cons (pe_call (ok_modulo T) (hr.mono (by decide)) (by rfl) T.m_modulo T.F_modulo.kp T.b_modulo .nil pass0 (pa_cons (pe_ix ix_TV (pv 1) pe_int (fun _ _ => rfl)) (pa_cons (pv 2) pa_nil))) pa_nil))))
      (pss_one (ps_ret (pe_call (ok_modulo T) (hr.mono (by decide)) (by rfl) T.m_modulo T.F_modulo.kp T.b_modulo .nil pass0 (pa_cons (pe_call (ok_changed_row T) (hr.mono (by decide)) (by rfl) T.m_changed_row T.F_changed_row.kp T.b_changed_row .nil pass0 (pa_cons (pv 0) (pa_cons (pv 3) pa_nil))) (pa_cons (pv 2) pa_nil)))))), ?_⟩
    rw [st_changed_modulo]
    simp only [ap_seq, ap_next, ap_asg, ap_gName, ap_ret, ap_retN, ap_drop, ap_ifS, ap_break, ap_cont, ap_par, ap_aug, ap_ip, ap_gSub, ap_gTup, ap_gNil, ap_gCons, ap_var, ap_c, ap_op, ap_un, ap_if, ap_test, ap_B, ap_and, ap_or, ap_not, ap_andV, ap_orV, ap_notV, ap_nil, ap_cons, ap_tup, ap_lst, ap_cb, ap_bm, ap_call, ap_chain, ap_rI, ap_rI0, ap_rU, ap_rEq, ap_rNe, ap_revT, ap_sl, ap_part, ap_noPart, ap_ixLI, ap_ixTI, ap_ixLV, ap_ixTV, ap_len, ap_setLI, ap_setLV, ap_appI, ap_appV, ap_tupL, ap_listS, ap_sumLI, ap_sumTI, ap_repLI, ap_intI, ap_intB, ap_eqTI, ap_neTI, ap_eqLI, ap_neLI, ap_isi, ap_for, ap_rng1, ap_rng2, ap_iList, ap_iTup, ap_lc, ap_yes, ap_cut, ap_gTupH, ap_fmt, ap_jsn, ap_jsc, ap_gcd, ap_isqrt, ap_ixL, tyV_l, wipe_nil, wipe_cons, upd_same, ap_iEnT, ap_iEnL, ap_iZipA, ap_all, ap_tupT, ap_attF, ap_makeL, ap_att, ap_prop, ap_isO, ap_bin, ap_ne, ap_meth, ap_make, ins_inj, FE_inj, ap_slI, ap_catI, ap_perm, ap_lenO, ap_strO, ap_listO, ap_reprB, ap_iterT, ap_neT, ap_negO, ap_binI, ap_catL, ap_tM1, ap_repTI, ap_popN, ap_par3, ap_catTT, ap_repTA, ap_countT, ap_notInT, ap_repL1, ap_cm, ap_shl, ap_shr, ap_mask, ap_comb, ap_bits, ap_rng3, List.set_cons_zero, List.set_cons_succ, List.getElem?_cons_zero, List.getElem?_cons_succ, List.cons_append, List.nil_append, List.append_nil, Option.some.injEq, V.int.injEq, V.ref.injEq, V.bl.injEq, V.str.injEq, V.ty.injEq, Bool.not_true, Bool.not_false, HO.lst.injEq, HO.tup.injEq, reduceCtorEq, Int.reduceToNat, Int.reduceLT, Int.reduceLE, Nat.reduceAdd, Int.cast_ofNat_Int, gi_c0, gi_c1, gi_c2, gi_c3, Int.natCast_inj, map_int_inj, map_nil_iff, List.cons.injEq, exists_eq_left, exists_eq_left', exists_eq, exists_eq', exists_and_left, exists_and_right, exists_const, and_assoc, and_true, true_and, and_false, false_and, or_false, false_or, or_true, true_or, ite_true, ite_false, if_true, if_false, Bool.false_eq_true, own_cons, own_nil, le1, le2, le3, le4, me_cons, me_nil, List.length_map, List.length_cons, List.length_nil, ne_eq, not_false_eq_true, not_true_eq_false, decide_eq_true_eq, h1]
    have w2 : ∀ {m n : Int}, Sm m → Sm n → ∀ z ∈ [m, n], Wd z := fun hm hn z hz => by
      simp only [List.mem_cons, List.not_mem_nil, or_false] at hz
      rcases hz with rfl | rfl
      · exact hm.wd
      · exact hn.wd
    refine ⟨_, atI_nat (j := 0) rfl, r1, [a, b], p, rfl, .inr h2, by show 2 < 1000; omega, w2 ba bb, by omega, p2, fun H1 q1 s1 n1 e1 => ⟨_, s1 _ _ h1, _, atI_nat (j := 1) rfl, r2, [c, d], p, rfl, .inr (s1 _ _ h3), by show 2 < 1000; omega, w2 bc bd, by omega, p2, fun H2 q2 s2 n2 e2 => ⟨by decide, fun z nz => ?_⟩⟩⟩
    have sz' := same_upd (o := HO.tup [V.ref q1, V.ref q2]) nz
    have S2 := (s1.trans s2).trans sz'
    have mb : ∀ n : Int, (n % p).natAbs ≤ 1000 := fun n => by
      have := Int.emod_nonneg n (show p ≠ 0 by omega)
      have := Int.emod_lt_of_pos n (show 0 < p by omega)
      omega
    have l2m : ∀ m n : Int, l1 [m % p, n % p] ≤ 2000 := fun m n => by
      have := mb m
      have := mb n
      show (m % p).natAbs + ((n % p).natAbs + 0) ≤ 2000
      omega
    have cg : Chg es [a % p, b % p] [c % p, d % p] 1000 2000 := ⟨by omega, by omega, fun n hn => by have := rg n hn; omega, by decide, rfl, rfl, l2m a b, l2m c d, by omega, Nat.lt_of_le_of_lt (Nat.pow_le_pow_right (by omega) ln2) (by decide)⟩
    refine ⟨t, z, es, a % p, b % p, c % p, d % p, 1000, 2000, rfl, S2 _ _ ht, ⟨q1, q2, upd_same, sz' _ _ (s2 _ _ e1), sz' _ _ e2⟩, cg, fun H3 r s3 er br => ?_⟩
    have lc : (chP [a % p, b % p] [c % p, d % p] es).length = es.length := chP_len rfl rfl (by omega)
    refine ⟨r, _, p, rfl, .inr er, by omega, fun n hn => wd_of (Nat.lt_of_le_of_lt (Nat.le_trans (br n hn) (Nat.mul_le_mul (Nat.mul_le_mul_right _ ln2) (Nat.pow_le_pow_right (by omega) (show es.length - 1 ≤ 12 by omega)))) (by decide +kernel)), by omega, p2, fun H4 r2 s4 n4 e4 => ?_⟩
    refine k H4 r2 ((S2.trans s3).trans s4) ?_
    have em : md p (chP [a % p, b % p] [c % p, d % p] es) = md p (chP [a, b] [c, d] es) := md_chP (md_md p [a, b]) (md_md p [c, d]) rfl
    rw [← em]
    exact e4
end
end My
namespace My
open PySem PySem.Spec PyProof.Rows L2 Pr
section
variable {P : Program} {w : World} {K : PySem.W.Frag} {mg : Str → Option Value} {base : Heap}
def sp_need_form (C : Addr) : Sp := fun vs H Q _ => ∃ (p dx t : Addr), vs = [.ref p] ∧ H p = some (.ins C dx (FEe t)) ∧ Q .non H
theorem ok_need_form (T : Tx K mg) : FnOk P w K mg base CX0 2 T.f_need_form T.d_need_form p_need_form (sp_need_form T.C_Form) := by
  refine T.F_need_form.ok sc_need_form (fun vs H Q E h => ?_) (fun cdv A outer s H vs Q E hr h => ?_)
  · obtain ⟨p, dx, t, rfl, _⟩ := h
    rfl
  · obtain ⟨p, dx, t, rfl, hp, q⟩ := h
    refine ⟨_, (pss_one (ps_if (pt_not (pt_val (pe_callB (cr_isO (isC T)) (by rfl) T.z_isinstance (by decide +kernel) (pa_cons (pv 0) (pa_cons (pe_glob (v := .ref T.C_Form) (by rfl) T.mg_Form rfl) pa_nil))))) (pss_one ps_never) pss_nil)), ?_⟩
    rw [st_need_form]
    simp only [ap_seq, ap_next, ap_asg, ap_gName, ap_ret, ap_retN, ap_drop, ap_ifS, ap_break, ap_cont, ap_par, ap_aug, ap_ip, ap_gSub, ap_gTup, ap_gNil, ap_gCons, ap_var, ap_c, ap_op, ap_un, ap_if, ap_test, ap_B, ap_and, ap_or, ap_not, ap_andV, ap_orV, ap_notV, ap_nil, ap_cons, ap_tup, ap_lst, ap_cb, ap_bm, ap_call, ap_chain, ap_rI, ap_rI0, ap_rU, ap_rEq, ap_rNe, ap_revT, ap_sl, ap_part, ap_noPart, ap_ixLI, ap_ixTI, ap_ixLV, ap_ixTV, ap_len, ap_setLI, ap_setLV, ap_appI, ap_appV, ap_tupL, ap_listS, ap_sumLI, ap_sumTI, ap_repLI, ap_intI, ap_intB, ap_eqTI, ap_neTI, ap_eqLI, ap_neLI, ap_isi, ap_for, ap_rng1, ap_rng2, ap_iList, ap_iTup, ap_lc, ap_yes, ap_cut, ap_gTupH, ap_fmt, ap_jsn, ap_jsc, ap_gcd, ap_isqrt, ap_ixL, tyV_l, wipe_nil, wipe_cons, upd_same, ap_iEnT, ap_iEnL, ap_iZipA, ap_all, ap_tupT, ap_attF, ap_makeL, ap_att, ap_prop, ap_isO, ap_bin, ap_ne, ap_meth, ap_make, ins_inj, FE_inj, ap_slI, ap_catI, ap_perm, ap_lenO, ap_strO, ap_listO, ap_reprB, ap_iterT, ap_neT, ap_negO, ap_binI, ap_catL, ap_tM1, ap_repTI, ap_popN, ap_par3, ap_catTT, ap_repTA, ap_countT, ap_notInT, ap_repL1, ap_cm, ap_shl, ap_shr, ap_mask, ap_comb, ap_bits, ap_rng3, List.set_cons_zero, List.set_cons_succ, List.getElem?_cons_zero, List.getElem?_cons_succ, List.cons_append, List.nil_append, List.append_nil, Option.some.injEq, V.int.injEq, V.ref.injEq, V.bl.injEq, V.str.injEq, V.ty.injEq, Bool.not_true, Bool.not_false, HO.lst.injEq, HO.tup.injEq, reduceCtorEq, Int.reduceToNat, Int.reduceLT, Int.reduceLE, Nat.reduceAdd, Int.cast_ofNat_Int, gi_c0, gi_c1, gi_c2, gi_c3, Int.natCast_inj, map_int_inj, map_nil_iff, List.cons.injEq, exists_eq_left, exists_eq_left', exists_eq, exists_eq', exists_and_left, exists_and_right, exists_const, and_assoc, and_true, true_and, and_false, false_and, or_false, false_or, or_true, true_or, ite_true, ite_false, if_true, if_false, Bool.false_eq_true, own_cons, own_nil, le1, le2, le3, le4, me_cons, me_nil, List.length_map, List.length_cons, List.length_nil, ne_eq, not_false_eq_true, not_true_eq_false, decide_eq_true_eq]
    refine ⟨true, .obj hp, ?_⟩
    simp only [ap_seq, ap_next, ap_asg, ap_gName, ap_ret, ap_retN, ap_drop, ap_ifS, ap_break, ap_cont, ap_par, ap_aug, ap_ip, ap_gSub, ap_gTup, ap_gNil, ap_gCons, ap_var, ap_c, ap_op, ap_un, ap_if, ap_test, ap_B, ap_and, ap_or, ap_not, ap_andV, ap_orV, ap_notV, ap_nil, ap_cons, ap_tup, ap_lst, ap_cb, ap_bm, ap_call, ap_chain, ap_rI, ap_rI0, ap_rU, ap_rEq, ap_rNe, ap_revT, ap_sl, ap_part, ap_noPart, ap_ixLI, ap_ixTI, ap_ixLV, ap_ixTV, ap_len, ap_setLI, ap_setLV, ap_appI, ap_appV, ap_tupL, ap_listS, ap_sumLI, ap_sumTI, ap_repLI, ap_intI, ap_intB, ap_eqTI, ap_neTI, ap_eqLI, ap_neLI, ap_isi, ap_for, ap_rng1, ap_rng2, ap_iList, ap_iTup, ap_lc, ap_yes, ap_cut, ap_gTupH, ap_fmt, ap_jsn, ap_jsc, ap_gcd, ap_isqrt, ap_ixL, tyV_l, wipe_nil, wipe_cons, upd_same, ap_iEnT, ap_iEnL, ap_iZipA, ap_all, ap_tupT, ap_attF, ap_makeL, ap_att, ap_prop, ap_isO, ap_bin, ap_ne, ap_meth, ap_make, ins_inj, FE_inj, ap_slI, ap_catI, ap_perm, ap_lenO, ap_strO, ap_listO, ap_reprB, ap_iterT, ap_neT, ap_negO, ap_binI, ap_catL, ap_tM1, ap_repTI, ap_popN, ap_par3, ap_catTT, ap_repTA, ap_countT, ap_notInT, ap_repL1, ap_cm, ap_shl, ap_shr, ap_mask, ap_comb, ap_bits, ap_rng3, List.set_cons_zero, List.set_cons_succ, List.getElem?_cons_zero, List.getElem?_cons_succ, List.cons_append, List.nil_append, List.append_nil, Option.some.injEq, V.int.injEq, V.ref.injEq, V.bl.injEq, V.str.injEq, V.ty.injEq, Bool.not_true, Bool.not_false, HO.lst.injEq, HO.tup.injEq, reduceCtorEq, Int.reduceToNat, Int.reduceLT, Int.reduceLE, Nat.reduceAdd, Int.cast_ofNat_Int, gi_c0, gi_c1, gi_c2, gi_c3, Int.natCast_inj, map_int_inj, map_nil_iff, List.cons.injEq, exists_eq_left, exists_eq_left', exists_eq, exists_eq', exists_and_left, exists_and_right, exists_const, and_assoc, and_true, true_and, and_false, false_and, or_false, false_or, or_true, true_or, ite_true, ite_false, if_true, if_false, Bool.false_eq_true, own_cons, own_nil, le1, le2, le3, le4, me_cons, me_nil, List.length_map, List.length_cons, List.length_nil, ne_eq, not_false_eq_true, not_true_eq_false, decide_eq_true_eq]
    exact q
def sp_PrimeForm_changed (C : Addr) : Sp := fun vs H Q _ => ∃ (f u : Addr) (es : List Int) (a b c d p : Int), vs = [.ref f, .ref u] ∧ PFAt C H f p es ∧ TabAt H u a b c d ∧ T4 a b c d ∧ (a * d - b * c) % p ≠ 0 ∧ p ∈ primes ∧ 1 ≤ es.length ∧ es.length ≤ 13 ∧ md p es = es ∧
  ∀ H' r, Same H H' → H r = none → PFAt C H' r p (md p (chP [a, b] [c, d] es)) → Q (.ref r) H'
theorem ok_PrimeForm_changed (T : Tx K mg) : FnOk P w K mg base CX0 14 T.f_PrimeForm_changed T.d_PrimeForm_changed p_PrimeForm_changed (sp_PrimeForm_changed T.C_PrimeForm) := by
  refine T.F_PrimeForm_changed.ok sc_PrimeForm_changed (fun vs H Q E h => ?_) (fun cdv A outer s H vs Q E hr h => ?_)
  · obtain ⟨f, u, es, a, b, c, d, p, rfl, _⟩ := h
    rfl
  · obtain ⟨f, u, es, a, b, c, d, p, rfl, ⟨dx, t, hf, ht⟩, hu, h4, hd, pp, l1, l2, hm, k⟩ := h
    refine ⟨_, (pss_cons (ps_expr (pe_call (ok_need_prime_table T) (hr.mono (by decide)) (by rfl) T.m_need_prime_table T.F_need_prime_table.kp T.b_need_prime_table .nil pass0 (pa_cons (pv 1) (pa_cons (pe_attF (pe_fld (pv 0) rfl) mono_var T.cl_PrimeForm T.no_PrimeForm_prime) pa_nil))))
      (pss_one (ps_ret (pe_make T.mk_PrimeForm (ok_PrimeForm___init__ T) (hr.mono (by decide)) (by rfl) T.mg_PrimeForm T.b_PrimeForm___init__ .nil pass0 (pa_cons (pe_attF (pe_fld (pv 0) rfl) mono_var T.cl_PrimeForm T.no_PrimeForm_prime) (pa_cons (pe_call (ok_changed_modulo T) (hr.mono (by decide)) (by rfl) T.m_changed_modulo T.F_changed_modulo.kp T.b_changed_modulo .nil pass0 (pa_cons (pe_attF (pe_fld (pv 0) rfl) mono_var T.cl_PrimeForm T.no_PrimeForm_entries) (pa_cons (pv 1) (pa_cons (pe_attF (pe_fld (pv 0) rfl) mono_var T.cl_PrimeForm T.no_PrimeForm_prime) pa_nil)))) pa_nil)))))), ?_⟩
    rw [st_PrimeForm_changed]
    have pb := primes_bd pp
    simp only [ap_seq, ap_next, ap_asg, ap_gName, ap_ret, ap_retN, ap_drop, ap_ifS, ap_break, ap_cont, ap_par, ap_aug, ap_ip, ap_gSub, ap_gTup, ap_gNil, ap_gCons, ap_var, ap_c, ap_op, ap_un, ap_if, ap_test, ap_B, ap_and, ap_or, ap_not, ap_andV, ap_orV, ap_notV, ap_nil, ap_cons, ap_tup, ap_lst, ap_cb, ap_bm, ap_call, ap_chain, ap_rI, ap_rI0, ap_rU, ap_rEq, ap_rNe, ap_revT, ap_sl, ap_part, ap_noPart, ap_ixLI, ap_ixTI, ap_ixLV, ap_ixTV, ap_len, ap_setLI, ap_setLV, ap_appI, ap_appV, ap_tupL, ap_listS, ap_sumLI, ap_sumTI, ap_repLI, ap_intI, ap_intB, ap_eqTI, ap_neTI, ap_eqLI, ap_neLI, ap_isi, ap_for, ap_rng1, ap_rng2, ap_iList, ap_iTup, ap_lc, ap_yes, ap_cut, ap_gTupH, ap_fmt, ap_jsn, ap_jsc, ap_gcd, ap_isqrt, ap_ixL, tyV_l, wipe_nil, wipe_cons, upd_same, ap_iEnT, ap_iEnL, ap_iZipA, ap_all, ap_tupT, ap_attF, ap_makeL, ap_att, ap_prop, ap_isO, ap_bin, ap_ne, ap_meth, ap_make, ins_inj, FE_inj, ap_slI, ap_catI, ap_perm, ap_lenO, ap_strO, ap_listO, ap_reprB, ap_iterT, ap_neT, ap_negO, ap_binI, ap_catL, ap_tM1, ap_repTI, ap_popN, ap_par3, ap_catTT, ap_repTA, ap_countT, ap_notInT, ap_repL1, ap_cm, ap_shl, ap_shr, ap_mask, ap_comb, ap_bits, ap_rng3, List.set_cons_zero, List.set_cons_succ, List.getElem?_cons_zero, List.getElem?_cons_succ, List.cons_append, List.nil_append, List.append_nil, Option.some.injEq, V.int.injEq, V.ref.injEq, V.bl.injEq, V.str.injEq, V.ty.injEq, Bool.not_true, Bool.not_false, HO.lst.injEq, HO.tup.injEq, reduceCtorEq, Int.reduceToNat, Int.reduceLT, Int.reduceLE, Nat.reduceAdd, Int.cast_ofNat_Int, gi_c0, gi_c1, gi_c2, gi_c3, Int.natCast_inj, map_int_inj, map_nil_iff, List.cons.injEq, exists_eq_left, exists_eq_left', exists_eq, exists_eq', exists_and_left, exists_and_right, exists_const, and_assoc, and_true, true_and, and_false, false_and, or_false, false_or, or_true, true_or, ite_true, ite_false, if_true, if_false, Bool.false_eq_true, own_cons, own_nil, le1, le2, le3, le4, me_cons, me_nil, List.length_map, List.length_cons, List.length_nil, ne_eq, not_false_eq_true, not_true_eq_false, decide_eq_true_eq, hf, PF_p, PF_e]
    refine ⟨u, a, b, c, d, p, rfl, hu, h4, hd, by omega, by omega, fun H1 s1 => ?_⟩
    have hf1 := s1 _ _ hf
    simp only [ap_seq, ap_next, ap_asg, ap_gName, ap_ret, ap_retN, ap_drop, ap_ifS, ap_break, ap_cont, ap_par, ap_aug, ap_ip, ap_gSub, ap_gTup, ap_gNil, ap_gCons, ap_var, ap_c, ap_op, ap_un, ap_if, ap_test, ap_B, ap_and, ap_or, ap_not, ap_andV, ap_orV, ap_notV, ap_nil, ap_cons, ap_tup, ap_lst, ap_cb, ap_bm, ap_call, ap_chain, ap_rI, ap_rI0, ap_rU, ap_rEq, ap_rNe, ap_revT, ap_sl, ap_part, ap_noPart, ap_ixLI, ap_ixTI, ap_ixLV, ap_ixTV, ap_len, ap_setLI, ap_setLV, ap_appI, ap_appV, ap_tupL, ap_listS, ap_sumLI, ap_sumTI, ap_repLI, ap_intI, ap_intB, ap_eqTI, ap_neTI, ap_eqLI, ap_neLI, ap_isi, ap_for, ap_rng1, ap_rng2, ap_iList, ap_iTup, ap_lc, ap_yes, ap_cut, ap_gTupH, ap_fmt, ap_jsn, ap_jsc, ap_gcd, ap_isqrt, ap_ixL, tyV_l, wipe_nil, wipe_cons, upd_same, ap_iEnT, ap_iEnL, ap_iZipA, ap_all, ap_tupT, ap_attF, ap_makeL, ap_att, ap_prop, ap_isO, ap_bin, ap_ne, ap_meth, ap_make, ins_inj, FE_inj, ap_slI, ap_catI, ap_perm, ap_lenO, ap_strO, ap_listO, ap_reprB, ap_iterT, ap_neT, ap_negO, ap_binI, ap_catL, ap_tM1, ap_repTI, ap_popN, ap_par3, ap_catTT, ap_repTA, ap_countT, ap_notInT, ap_repL1, ap_cm, ap_shl, ap_shr, ap_mask, ap_comb, ap_bits, ap_rng3, List.set_cons_zero, List.set_cons_succ, List.getElem?_cons_zero, List.getElem?_cons_succ, List.cons_append, List.nil_append, List.append_nil, Option.some.injEq, V.int.injEq, V.ref.injEq, V.bl.injEq, V.str.injEq, V.ty.injEq, Bool.not_true, Bool.not_false, HO.lst.injEq, HO.tup.injEq, reduceCtorEq, Int.reduceToNat, Int.reduceLT, Int.reduceLE, Nat.reduceAdd, Int.cast_ofNat_Int, gi_c0, gi_c1, gi_c2, gi_c3, Int.natCast_inj, map_int_inj, map_nil_iff, List.cons.injEq, exists_eq_left, exists_eq_left', exists_eq, exists_eq', exists_and_left, exists_and_right, exists_const, and_assoc, and_true, true_and, and_false, false_and, or_false, false_or, or_true, true_or, ite_true, ite_false, if_true, if_false, Bool.false_eq_true, own_cons, own_nil, le1, le2, le3, le4, me_cons, me_nil, List.length_map, List.length_cons, List.length_nil, ne_eq, not_false_eq_true, not_true_eq_false, decide_eq_true_eq, hf1, PF_p, PF_e]
    have rg : ∀ n ∈ es, 0 ≤ n ∧ n < p := by
      rw [← hm]
      exact md_rg (by omega) es
    refine ⟨t, u, es, a, b, c, d, p, rfl, s1 _ _ ht, hu.same s1, l1, l2, rg, h4.a.sm, h4.b.sm, h4.c.sm, h4.d.sm, by omega, by omega, fun H2 r s2 er => ?_⟩
    have lc : (chP [a, b] [c, d] es).length = es.length := chP_len rfl rfl (by omega)
    have lm := md_len p (chP [a, b] [c, d] es)
    refine newP_ok er pp ⟨by omega, by omega, fun n hn => by have := md_rg (p := p) (by omega) _ n hn; unfold Sm; omega⟩ fun g H3 s3 ng hg => ?_
    rw [md_md] at hg
    exact k H3 g ((s1.trans s2).trans s3) (free_of (s1.trans s2) ng) hg
def sp_need_like (C : Addr) : Sp := fun vs H Q _ => ∃ (f g : Addr) (p : Int) (es fs : List Int), vs = [.ref f, .ref g] ∧ PFAt C H f p es ∧ PFAt C H g p fs ∧ Q .non H
theorem ok_need_like (T : Tx K mg) : FnOk P w K mg base CX0 4 T.f_need_like T.d_need_like p_need_like (sp_need_like T.C_PrimeForm) := by
  refine T.F_need_like.ok sc_need_like (fun vs H Q E h => ?_) (fun cdv A outer s H vs Q E hr h => ?_)
  · obtain ⟨f, g, p, es, fs, rfl, _⟩ := h
    rfl
  · obtain ⟨f, g, p, es, fs, rfl, ⟨dx, t, hf, ht⟩, ⟨dy, u, hg, hu⟩, k⟩ := h
    refine ⟨_, (pss_one (ps_if (PW.pt (pw_or (pt_not (pt_val (pe_callB (cr_isO (isC_PrimeForm T)) (by rfl) T.z_isinstance (by decide +kernel) (pa_cons (pv 1) (pa_cons (pe_glob (v := .ref T.C_PrimeForm) (by rfl) T.mg_PrimeForm rfl) pa_nil))))) (pw_or1 (pt_cmpR op_ne (pe_prop (pv 1) T.cl_PrimeForm T.pr_PrimeForm_prime (ok_PrimeForm_prime T) (hr.mono (by decide)) T.b_PrimeForm_prime .nil pass0 (by rfl)) (pe_prop (pv 0) T.cl_PrimeForm T.pr_PrimeForm_prime (ok_PrimeForm_prime T) (hr.mono (by decide)) T.b_PrimeForm_prime .nil pass0 (by rfl)) (nomark _))))) (pss_one ps_never) pss_nil)), ?_⟩
    rw [st_need_like]
    simp only [ap_seq, ap_next, ap_asg, ap_gName, ap_ret, ap_retN, ap_drop, ap_ifS, ap_break, ap_cont, ap_par, ap_aug, ap_ip, ap_gSub, ap_gTup, ap_gNil, ap_gCons, ap_var, ap_c, ap_op, ap_un, ap_if, ap_test, ap_B, ap_and, ap_or, ap_not, ap_andV, ap_orV, ap_notV, ap_nil, ap_cons, ap_tup, ap_lst, ap_cb, ap_bm, ap_call, ap_chain, ap_rI, ap_rI0, ap_rU, ap_rEq, ap_rNe, ap_revT, ap_sl, ap_part, ap_noPart, ap_ixLI, ap_ixTI, ap_ixLV, ap_ixTV, ap_len, ap_setLI, ap_setLV, ap_appI, ap_appV, ap_tupL, ap_listS, ap_sumLI, ap_sumTI, ap_repLI, ap_intI, ap_intB, ap_eqTI, ap_neTI, ap_eqLI, ap_neLI, ap_isi, ap_for, ap_rng1, ap_rng2, ap_iList, ap_iTup, ap_lc, ap_yes, ap_cut, ap_gTupH, ap_fmt, ap_jsn, ap_jsc, ap_gcd, ap_isqrt, ap_ixL, tyV_l, wipe_nil, wipe_cons, upd_same, ap_iEnT, ap_iEnL, ap_iZipA, ap_all, ap_tupT, ap_attF, ap_makeL, ap_att, ap_prop, ap_isO, ap_bin, ap_ne, ap_meth, ap_make, ins_inj, FE_inj, ap_slI, ap_catI, ap_perm, ap_lenO, ap_strO, ap_listO, ap_reprB, ap_iterT, ap_neT, ap_negO, ap_binI, ap_catL, ap_tM1, ap_repTI, ap_popN, ap_par3, ap_catTT, ap_repTA, ap_countT, ap_notInT, ap_repL1, ap_cm, ap_shl, ap_shr, ap_mask, ap_comb, ap_bits, ap_rng3, List.set_cons_zero, List.set_cons_succ, List.getElem?_cons_zero, List.getElem?_cons_succ, List.cons_append, List.nil_append, List.append_nil, Option.some.injEq, V.int.injEq, V.ref.injEq, V.bl.injEq, V.str.injEq, V.ty.injEq, Bool.not_true, Bool.not_false, HO.lst.injEq, HO.tup.injEq, reduceCtorEq, Int.reduceToNat, Int.reduceLT, Int.reduceLE, Nat.reduceAdd, Int.cast_ofNat_Int, gi_c0, gi_c1, gi_c2, gi_c3, Int.natCast_inj, map_int_inj, map_nil_iff, List.cons.injEq, exists_eq_left, exists_eq_left', exists_eq, exists_eq', exists_and_left, exists_and_right, exists_const, and_assoc, and_true, true_and, and_false, false_and, or_false, false_or, or_true, true_or, ite_true, ite_false, if_true, if_false, Bool.false_eq_true, own_cons, own_nil, le1, le2, le3, le4, me_cons, me_nil, List.length_map, List.length_cons, List.length_nil, ne_eq, not_false_eq_true, not_true_eq_false, decide_eq_true_eq]
    refine ⟨true, .obj hg, ?_⟩
    simp only [ap_seq, ap_next, ap_asg, ap_gName, ap_ret, ap_retN, ap_drop, ap_ifS, ap_break, ap_cont, ap_par, ap_aug, ap_ip, ap_gSub, ap_gTup, ap_gNil, ap_gCons, ap_var, ap_c, ap_op, ap_un, ap_if, ap_test, ap_B, ap_and, ap_or, ap_not, ap_andV, ap_orV, ap_notV, ap_nil, ap_cons, ap_tup, ap_lst, ap_cb, ap_bm, ap_call, ap_chain, ap_rI, ap_rI0, ap_rU, ap_rEq, ap_rNe, ap_revT, ap_sl, ap_part, ap_noPart, ap_ixLI, ap_ixTI, ap_ixLV, ap_ixTV, ap_len, ap_setLI, ap_setLV, ap_appI, ap_appV, ap_tupL, ap_listS, ap_sumLI, ap_sumTI, ap_repLI, ap_intI, ap_intB, ap_eqTI, ap_neTI, ap_eqLI, ap_neLI, ap_isi, ap_for, ap_rng1, ap_rng2, ap_iList, ap_iTup, ap_lc, ap_yes, ap_cut, ap_gTupH, ap_fmt, ap_jsn, ap_jsc, ap_gcd, ap_isqrt, ap_ixL, tyV_l, wipe_nil, wipe_cons, upd_same, ap_iEnT, ap_iEnL, ap_iZipA, ap_all, ap_tupT, ap_attF, ap_makeL, ap_att, ap_prop, ap_isO, ap_bin, ap_ne, ap_meth, ap_make, ins_inj, FE_inj, ap_slI, ap_catI, ap_perm, ap_lenO, ap_strO, ap_listO, ap_reprB, ap_iterT, ap_neT, ap_negO, ap_binI, ap_catL, ap_tM1, ap_repTI, ap_popN, ap_par3, ap_catTT, ap_repTA, ap_countT, ap_notInT, ap_repL1, ap_cm, ap_shl, ap_shr, ap_mask, ap_comb, ap_bits, ap_rng3, List.set_cons_zero, List.set_cons_succ, List.getElem?_cons_zero, List.getElem?_cons_succ, List.cons_append, List.nil_append, List.append_nil, Option.some.injEq, V.int.injEq, V.ref.injEq, V.bl.injEq, V.str.injEq, V.ty.injEq, Bool.not_true, Bool.not_false, HO.lst.injEq, HO.tup.injEq, reduceCtorEq, Int.reduceToNat, Int.reduceLT, Int.reduceLE, Nat.reduceAdd, Int.cast_ofNat_Int, gi_c0, gi_c1, gi_c2, gi_c3, Int.natCast_inj, map_int_inj, map_nil_iff, List.cons.injEq, exists_eq_left, exists_eq_left', exists_eq, exists_eq', exists_and_left, exists_and_right, exists_const, and_assoc, and_true, true_and, and_false, false_and, or_false, false_or, or_true, true_or, ite_true, ite_false, if_true, if_false, Bool.false_eq_true, own_cons, own_nil, le1, le2, le3, le4, me_cons, me_nil, List.length_map, List.length_cons, List.length_nil, ne_eq, not_false_eq_true, not_true_eq_false, decide_eq_true_eq, hf, hg, sp_PrimeForm_prime]
    refine ⟨u, p, rfl, t, p, rfl, rfl, ?_⟩
    rw [decide_eq_true rfl, if_neg (by simp)]
    exact k
def sp_PrimeForm___mul__ (C : Addr) : Sp := fun vs H Q _ => ∃ (f g : Addr) (p : Int) (es fs : List Int), vs = [.ref f, .ref g] ∧ PFAt C H f p es ∧ PFAt C H g p fs ∧ p ∈ primes ∧ 1 ≤ es.length ∧ 1 ≤ fs.length ∧ es.length + fs.length ≤ 14 ∧ md p es = es ∧ md p fs = fs ∧
  ∀ H' r, Same H H' → H r = none → PFAt C H' r p (md p (mulP es fs)) → Q (.ref r) H'
theorem ok_PrimeForm___mul__ (T : Tx K mg) : FnOk P w K mg base CX0 14 T.f_PrimeForm___mul__ T.d_PrimeForm___mul__ p_PrimeForm___mul__ (sp_PrimeForm___mul__ T.C_PrimeForm) := by
  refine T.F_PrimeForm___mul__.ok sc_PrimeForm___mul__ (fun vs H Q E h => ?_) (fun cdv A outer s H vs Q E hr h => ?_)
  · obtain ⟨f, g, p, es, fs, rfl, _⟩ := h
    rfl
  · obtain ⟨f, g, p, es, fs, rfl, ⟨dx, t, hf, ht⟩, ⟨dy, u, hg, hu⟩, pp, ln1, ln2, ln3, m1, m2, k⟩ := h
    refine ⟨_, (pss_cons (ps_if (pt_not (pt_val (pe_callB (cr_isO (isC_PrimeForm T)) (by rfl) T.z_isinstance (by decide +kernel) (pa_cons (pv 1) (pa_cons (pe_glob (v := .ref T.C_PrimeForm) (by rfl) T.mg_PrimeForm rfl) pa_nil))))) (pss_one ps_never) pss_nil)
      (pss_cons (ps_expr (pe_call (ok_need_like T) (hr.mono (by decide)) (by rfl) T.m_need_like T.F_need_like.kp T.b_need_like .nil pass0 (pa_cons (pv 0) (pa_cons (pv 1) pa_nil))))
      (pss_cons (ps_if (pt_cmpR op_gt (pe_op op_add (pe_prop (pv 0) T.cl_PrimeForm T.pr_PrimeForm_degree (ok_PrimeForm_degree T) (hr.mono (by decide)) T.b_PrimeForm_degree .nil pass0 (by rfl)) (pe_prop (pv 1) T.cl_PrimeForm T.pr_PrimeForm_degree (ok_PrimeForm_degree T) (hr.mono (by decide)) T.b_PrimeForm_degree .nil pass0 (by rfl))) (pe_glob (v := .int 12) (by rfl) T.c_MOST_DEGREE ⟨_, rfl⟩) (nomark _)) (pss_one ps_never) pss_nil)
      (pss_one (ps_ret (pe_make T.mk_PrimeForm (ok_PrimeForm___init__ T) (hr.mono (by decide)) (by rfl) T.mg_PrimeForm T.b_PrimeForm___init__ .nil pass0 (pa_cons (pe_attF (pe_fld (pv 0) rfl) mono_var T.cl_PrimeForm T.no_PrimeForm_prime) (pa_cons (pe_call (ok_modulo T) (hr.mono (by decide)) (by rfl) T.m_modulo T.F_modulo.kp T.b_modulo .nil pass0 (pa_cons (pe_call (ok_product_row T) (hr.mono (by decide)) (by rfl) T.m_product_row T.F_product_row.kp T.b_product_row .nil pass0 (pa_cons (pe_attF (pe_fld (pv 0) rfl) mono_var T.cl_PrimeForm T.no_PrimeForm_entries) (pa_cons (pe_prop (pv 1) T.cl_PrimeForm T.pr_PrimeForm_entries (ok_PrimeForm_entries T) (hr.mono (by decide)) T.b_PrimeForm_entries .nil pass0 (by rfl)) pa_nil))) (pa_cons (pe_attF (pe_fld (pv 0) rfl) mono_var T.cl_PrimeForm T.no_PrimeForm_prime) pa_nil))) pa_nil)))))))), ?_⟩
    rw [st_PrimeForm___mul__]
    simp only [ap_seq, ap_next, ap_asg, ap_gName, ap_ret, ap_retN, ap_drop, ap_ifS, ap_break, ap_cont, ap_par, ap_aug, ap_ip, ap_gSub, ap_gTup, ap_gNil, ap_gCons, ap_var, ap_c, ap_op, ap_un, ap_if, ap_test, ap_B, ap_and, ap_or, ap_not, ap_andV, ap_orV, ap_notV, ap_nil, ap_cons, ap_tup, ap_lst, ap_cb, ap_bm, ap_call, ap_chain, ap_rI, ap_rI0, ap_rU, ap_rEq, ap_rNe, ap_revT, ap_sl, ap_part, ap_noPart, ap_ixLI, ap_ixTI, ap_ixLV, ap_ixTV, ap_len, ap_setLI, ap_setLV, ap_appI, ap_appV, ap_tupL, ap_listS, ap_sumLI, ap_sumTI, ap_repLI, ap_intI, ap_intB, ap_eqTI, ap_neTI, ap_eqLI, ap_neLI, ap_isi, ap_for, ap_rng1, ap_rng2, ap_iList, ap_iTup, ap_lc, ap_yes, ap_cut, ap_gTupH, ap_fmt, ap_jsn, ap_jsc, ap_gcd, ap_isqrt, ap_ixL, tyV_l, wipe_nil, wipe_cons, upd_same, ap_iEnT, ap_iEnL, ap_iZipA, ap_all, ap_tupT, ap_attF, ap_makeL, ap_att, ap_prop, ap_isO, ap_bin, ap_ne, ap_meth, ap_make, ins_inj, FE_inj, ap_slI, ap_catI, ap_perm, ap_lenO, ap_strO, ap_listO, ap_reprB, ap_iterT, ap_neT, ap_negO, ap_binI, ap_catL, ap_tM1, ap_repTI, ap_popN, ap_par3, ap_catTT, ap_repTA, ap_countT, ap_notInT, ap_repL1, ap_cm, ap_shl, ap_shr, ap_mask, ap_comb, ap_bits, ap_rng3, List.set_cons_zero, List.set_cons_succ, List.getElem?_cons_zero, List.getElem?_cons_succ, List.cons_append, List.nil_append, List.append_nil, Option.some.injEq, V.int.injEq, V.ref.injEq, V.bl.injEq, V.str.injEq, V.ty.injEq, Bool.not_true, Bool.not_false, HO.lst.injEq, HO.tup.injEq, reduceCtorEq, Int.reduceToNat, Int.reduceLT, Int.reduceLE, Nat.reduceAdd, Int.cast_ofNat_Int, gi_c0, gi_c1, gi_c2, gi_c3, Int.natCast_inj, map_int_inj, map_nil_iff, List.cons.injEq, exists_eq_left, exists_eq_left', exists_eq, exists_eq', exists_and_left, exists_and_right, exists_const, and_assoc, and_true, true_and, and_false, false_and, or_false, false_or, or_true, true_or, ite_true, ite_false, if_true, if_false, Bool.false_eq_true, own_cons, own_nil, le1, le2, le3, le4, me_cons, me_nil, List.length_map, List.length_cons, List.length_nil, ne_eq, not_false_eq_true, not_true_eq_false, decide_eq_true_eq]
    refine ⟨true, .obj hg, ?_⟩
    simp only [ap_seq, ap_next, ap_asg, ap_gName, ap_ret, ap_retN, ap_drop, ap_ifS, ap_break, ap_cont, ap_par, ap_aug, ap_ip, ap_gSub, ap_gTup, ap_gNil, ap_gCons, ap_var, ap_c, ap_op, ap_un, ap_if, ap_test, ap_B, ap_and, ap_or, ap_not, ap_andV, ap_orV, ap_notV, ap_nil, ap_cons, ap_tup, ap_lst, ap_cb, ap_bm, ap_call, ap_chain, ap_rI, ap_rI0, ap_rU, ap_rEq, ap_rNe, ap_revT, ap_sl, ap_part, ap_noPart, ap_ixLI, ap_ixTI, ap_ixLV, ap_ixTV, ap_len, ap_setLI, ap_setLV, ap_appI, ap_appV, ap_tupL, ap_listS, ap_sumLI, ap_sumTI, ap_repLI, ap_intI, ap_intB, ap_eqTI, ap_neTI, ap_eqLI, ap_neLI, ap_isi, ap_for, ap_rng1, ap_rng2, ap_iList, ap_iTup, ap_lc, ap_yes, ap_cut, ap_gTupH, ap_fmt, ap_jsn, ap_jsc, ap_gcd, ap_isqrt, ap_ixL, tyV_l, wipe_nil, wipe_cons, upd_same, ap_iEnT, ap_iEnL, ap_iZipA, ap_all, ap_tupT, ap_attF, ap_makeL, ap_att, ap_prop, ap_isO, ap_bin, ap_ne, ap_meth, ap_make, ins_inj, FE_inj, ap_slI, ap_catI, ap_perm, ap_lenO, ap_strO, ap_listO, ap_reprB, ap_iterT, ap_neT, ap_negO, ap_binI, ap_catL, ap_tM1, ap_repTI, ap_popN, ap_par3, ap_catTT, ap_repTA, ap_countT, ap_notInT, ap_repL1, ap_cm, ap_shl, ap_shr, ap_mask, ap_comb, ap_bits, ap_rng3, List.set_cons_zero, List.set_cons_succ, List.getElem?_cons_zero, List.getElem?_cons_succ, List.cons_append, List.nil_append, List.append_nil, Option.some.injEq, V.int.injEq, V.ref.injEq, V.bl.injEq, V.str.injEq, V.ty.injEq, Bool.not_true, Bool.not_false, HO.lst.injEq, HO.tup.injEq, reduceCtorEq, Int.reduceToNat, Int.reduceLT, Int.reduceLE, Nat.reduceAdd, Int.cast_ofNat_Int, gi_c0, gi_c1, gi_c2, gi_c3, Int.natCast_inj, map_int_inj, map_nil_iff, List.cons.injEq, exists_eq_left, exists_eq_left', exists_eq, exists_eq', exists_and_left, exists_and_right, exists_const, and_assoc, and_true, true_and, and_false, false_and, or_false, false_or, or_true, true_or, ite_true, ite_false, if_true, if_false, Bool.false_eq_true, own_cons, own_nil, le1, le2, le3, le4, me_cons, me_nil, List.length_map, List.length_cons, List.length_nil, ne_eq, not_false_eq_true, not_true_eq_false, decide_eq_true_eq, hf, hg, PF_p, PF_e, sp_PrimeForm_degree, sp_PrimeForm_entries]
    have pb := primes_bd pp
    have wd : ∀ {l : List Int}, md p l = l → ∀ n ∈ l, Wd n := fun {l} h n hn => by
      rw [← h] at hn
      have := md_rg (p := p) (by omega) l n hn
      exact Sm.wd (by unfold Sm; omega)
    refine ⟨f, g, p, es, fs, rfl, ⟨dx, t, hf, ht⟩, ⟨dy, u, hg, hu⟩, ⟨_, _, hf⟩, dx, t, ⟨p, hf⟩, es, ht, ⟨_, _, hg⟩, dy, u, ⟨p, hg⟩, fs, hu, ?_⟩
    rw [if_neg (by omega)]
    refine ⟨dx, _, hf, _, PF_p, dx, _, hf, _, PF_e, ⟨_, _, hg⟩, dy, u, ⟨p, hg⟩, t, u, es, fs, rfl, ht, hu, by omega, by omega, by omega, by omega, wd m1, wd m2, fun H1 r s1 nr er => ?_⟩
    have lm := mulP_len es fs
    have bm : ∀ n ∈ mulP es fs, Wd n := fun n hn => by
      have b : ∀ {l : List Int}, l.length ≤ 13 → md p l = l → l1 l ≤ 13 * 101 := fun {l} hl h => by
        refine Nat.le_trans (l1_Bd (m := 101) fun n hn => ?_) (Nat.mul_le_mul_right _ hl)
        rw [← h] at hn
        have := md_rg (p := p) (by omega) l n hn
        omega
      exact wd_of (Nat.lt_of_le_of_lt (Nat.le_trans (l1_mem hn) (Nat.le_trans (l1_mulP es fs) (Nat.mul_le_mul (b (by omega) m1) (b (by omega) m2)))) (by decide +kernel))
    refine ⟨dx, _, s1 _ _ hf, _, PF_p, r, _, p, rfl, .inr er, by omega, bm, by omega, by omega, fun H2 r2 s2 n2 e2 => ?_⟩
    have lmd : (List.map (fun x => x % p) (mulP es fs)).length = (mulP es fs).length := List.length_map ..
    refine newP_ok e2 pp ⟨by omega, by omega, fun n hn => by have := md_rg (p := p) (by omega) _ n hn; unfold Sm; omega⟩ fun z H3 s3 nz hz => ?_
    rw [md_md] at hz
    exact k H3 z ((s1.trans s2).trans s3) (free_of (s1.trans s2) nz) hz
def sp_PrimeForm___eq__ (C : Addr) : Sp := fun vs H Q _ => ∃ (f g : Addr) (p q : Int) (es fs : List Int), vs = [.ref f, .ref g] ∧ PFAt C H f p es ∧ PFAt C H g q fs ∧ es.length ≤ 1000 ∧ fs.length ≤ 1000 ∧ Q (.bl (decide (p = q ∧ es = fs))) H
theorem ok_PrimeForm___eq__ (T : Tx K mg) : FnOk P w K mg base CX0 4 T.f_PrimeForm___eq__ T.d_PrimeForm___eq__ p_PrimeForm___eq__ (sp_PrimeForm___eq__ T.C_PrimeForm) := by
  refine T.F_PrimeForm___eq__.ok sc_PrimeForm___eq__ (fun vs H Q E h => ?_) (fun cdv A outer s H vs Q E hr h => ?_)
  · obtain ⟨f, g, p, q, es, fs, rfl, _⟩ := h
    rfl
  · obtain ⟨f, g, p, q, es, fs, rfl, ⟨dx, t, hf, ht⟩, ⟨dy, u, hg, hu⟩, l1, l2, k⟩ := h
    refine ⟨_, (pss_one (ps_ret (pe_and (pe_callB (cr_isO (isC_PrimeForm T)) (by rfl) T.z_isinstance (by decide +kernel) (pa_cons (pv 1) (pa_cons (pe_glob (v := .ref T.C_PrimeForm) (by rfl) T.mg_PrimeForm rfl) pa_nil))) (pe_and (pe_cmpR op_eq (pe_attF (pe_fld (pv 0) rfl) mono_var T.cl_PrimeForm T.no_PrimeForm_prime) (pe_attF (pe_fld (pv 1) rfl) mono_var T.cl_PrimeForm T.no_PrimeForm_prime) (nomark _)) (pe_one (pe_cmpR (op_eqTI hr.units) (pe_attF (pe_fld (pv 0) rfl) mono_var T.cl_PrimeForm T.no_PrimeForm_entries) (pe_attF (pe_fld (pv 1) rfl) mono_var T.cl_PrimeForm T.no_PrimeForm_entries) (nomark _))))))), ?_⟩
    rw [st_PrimeForm___eq__]
    simp only [ap_seq, ap_next, ap_asg, ap_gName, ap_ret, ap_retN, ap_drop, ap_ifS, ap_break, ap_cont, ap_par, ap_aug, ap_ip, ap_gSub, ap_gTup, ap_gNil, ap_gCons, ap_var, ap_c, ap_op, ap_un, ap_if, ap_test, ap_B, ap_and, ap_or, ap_not, ap_andV, ap_orV, ap_notV, ap_nil, ap_cons, ap_tup, ap_lst, ap_cb, ap_bm, ap_call, ap_chain, ap_rI, ap_rI0, ap_rU, ap_rEq, ap_rNe, ap_revT, ap_sl, ap_part, ap_noPart, ap_ixLI, ap_ixTI, ap_ixLV, ap_ixTV, ap_len, ap_setLI, ap_setLV, ap_appI, ap_appV, ap_tupL, ap_listS, ap_sumLI, ap_sumTI, ap_repLI, ap_intI, ap_intB, ap_eqTI, ap_neTI, ap_eqLI, ap_neLI, ap_isi, ap_for, ap_rng1, ap_rng2, ap_iList, ap_iTup, ap_lc, ap_yes, ap_cut, ap_gTupH, ap_fmt, ap_jsn, ap_jsc, ap_gcd, ap_isqrt, ap_ixL, tyV_l, wipe_nil, wipe_cons, upd_same, ap_iEnT, ap_iEnL, ap_iZipA, ap_all, ap_tupT, ap_attF, ap_makeL, ap_att, ap_prop, ap_isO, ap_bin, ap_ne, ap_meth, ap_make, ins_inj, FE_inj, ap_slI, ap_catI, ap_perm, ap_lenO, ap_strO, ap_listO, ap_reprB, ap_iterT, ap_neT, ap_negO, ap_binI, ap_catL, ap_tM1, ap_repTI, ap_popN, ap_par3, ap_catTT, ap_repTA, ap_countT, ap_notInT, ap_repL1, ap_cm, ap_shl, ap_shr, ap_mask, ap_comb, ap_bits, ap_rng3, List.set_cons_zero, List.set_cons_succ, List.getElem?_cons_zero, List.getElem?_cons_succ, List.cons_append, List.nil_append, List.append_nil, Option.some.injEq, V.int.injEq, V.ref.injEq, V.bl.injEq, V.str.injEq, V.ty.injEq, Bool.not_true, Bool.not_false, HO.lst.injEq, HO.tup.injEq, reduceCtorEq, Int.reduceToNat, Int.reduceLT, Int.reduceLE, Nat.reduceAdd, Int.cast_ofNat_Int, gi_c0, gi_c1, gi_c2, gi_c3, Int.natCast_inj, map_int_inj, map_nil_iff, List.cons.injEq, exists_eq_left, exists_eq_left', exists_eq, exists_eq', exists_and_left, exists_and_right, exists_const, and_assoc, and_true, true_and, and_false, false_and, or_false, false_or, or_true, true_or, ite_true, ite_false, if_true, if_false, Bool.false_eq_true, own_cons, own_nil, le1, le2, le3, le4, me_cons, me_nil, List.length_map, List.length_cons, List.length_nil, ne_eq, not_false_eq_true, not_true_eq_false, decide_eq_true_eq]
    refine ⟨true, .obj hg, ?_⟩
    simp only [ap_seq, ap_next, ap_asg, ap_gName, ap_ret, ap_retN, ap_drop, ap_ifS, ap_break, ap_cont, ap_par, ap_aug, ap_ip, ap_gSub, ap_gTup, ap_gNil, ap_gCons, ap_var, ap_c, ap_op, ap_un, ap_if, ap_test, ap_B, ap_and, ap_or, ap_not, ap_andV, ap_orV, ap_notV, ap_nil, ap_cons, ap_tup, ap_lst, ap_cb, ap_bm, ap_call, ap_chain, ap_rI, ap_rI0, ap_rU, ap_rEq, ap_rNe, ap_revT, ap_sl, ap_part, ap_noPart, ap_ixLI, ap_ixTI, ap_ixLV, ap_ixTV, ap_len, ap_setLI, ap_setLV, ap_appI, ap_appV, ap_tupL, ap_listS, ap_sumLI, ap_sumTI, ap_repLI, ap_intI, ap_intB, ap_eqTI, ap_neTI, ap_eqLI, ap_neLI, ap_isi, ap_for, ap_rng1, ap_rng2, ap_iList, ap_iTup, ap_lc, ap_yes, ap_cut, ap_gTupH, ap_fmt, ap_jsn, ap_jsc, ap_gcd, ap_isqrt, ap_ixL, tyV_l, wipe_nil, wipe_cons, upd_same, ap_iEnT, ap_iEnL, ap_iZipA, ap_all, ap_tupT, ap_attF, ap_makeL, ap_att, ap_prop, ap_isO, ap_bin, ap_ne, ap_meth, ap_make, ins_inj, FE_inj, ap_slI, ap_catI, ap_perm, ap_lenO, ap_strO, ap_listO, ap_reprB, ap_iterT, ap_neT, ap_negO, ap_binI, ap_catL, ap_tM1, ap_repTI, ap_popN, ap_par3, ap_catTT, ap_repTA, ap_countT, ap_notInT, ap_repL1, ap_cm, ap_shl, ap_shr, ap_mask, ap_comb, ap_bits, ap_rng3, List.set_cons_zero, List.set_cons_succ, List.getElem?_cons_zero, List.getElem?_cons_succ, List.cons_append, List.nil_append, List.append_nil, Option.some.injEq, V.int.injEq, V.ref.injEq, V.bl.injEq, V.str.injEq, V.ty.injEq, Bool.not_true, Bool.not_false, HO.lst.injEq, HO.tup.injEq, reduceCtorEq, Int.reduceToNat, Int.reduceLT, Int.reduceLE, Nat.reduceAdd, Int.cast_ofNat_Int, gi_c0, gi_c1, gi_c2, gi_c3, Int.natCast_inj, map_int_inj, map_nil_iff, List.cons.injEq, exists_eq_left, exists_eq_left', exists_eq, exists_eq', exists_and_left, exists_and_right, exists_const, and_assoc, and_true, true_and, and_false, false_and, or_false, false_or, or_true, true_or, ite_true, ite_false, if_true, if_false, Bool.false_eq_true, own_cons, own_nil, le1, le2, le3, le4, me_cons, me_nil, List.length_map, List.length_cons, List.length_nil, ne_eq, not_false_eq_true, not_true_eq_false, decide_eq_true_eq, hf, hg, PF_p, PF_e]
    refine ⟨rfl, ?_⟩
    by_cases c : p = q
    · rw [if_pos c]
      refine ⟨es, ht, fs, hu, ?_⟩
      have e : decide (p = q ∧ es = fs) = decide (es = fs) := decide_eq_decide.mpr ⟨fun h => h.2, fun h => ⟨c, h⟩⟩
      rw [← e]
      exact k
    · rw [if_neg c]
      rw [decide_eq_false fun h => c h.1] at k
      exact k
def sp_PrimeForm_of_form (C D : Addr) : Sp := fun vs H Q _ => ∃ (f dx t : Addr) (p : Int) (es : List Int), vs = [.ref C, .ref f, .int p] ∧ H f = some (.ins D dx (FEe t)) ∧ H t = some (TI es) ∧ p ∈ primes ∧ 1 ≤ es.length ∧ es.length ≤ 13 ∧ (∀ n ∈ es, Wd n) ∧
  ∀ H' r, Same H H' → H r = none → PFAt C H' r p (md p es) → Q (.ref r) H'
theorem ok_PrimeForm_of_form (T : Tx K mg) : FnOk P w K mg base CX0 12 T.f_PrimeForm_of_form T.d_PrimeForm_of_form p_PrimeForm_of_form (sp_PrimeForm_of_form T.C_PrimeForm T.C_Form) := by
  refine T.F_PrimeForm_of_form.ok sc_PrimeForm_of_form (fun vs H Q E h => ?_) (fun cdv A outer s H vs Q E hr h => ?_)
  · obtain ⟨f, dx, t, p, es, rfl, _⟩ := h
    rfl
  · obtain ⟨f, dx, t, p, es, rfl, hf, ht, pp, l1, l2, wd, k⟩ := h
    refine ⟨_, (pss_cons (ps_expr (pe_call (ok_need_form T) (hr.mono (by decide)) (by rfl) T.m_need_form T.F_need_form.kp T.b_need_form .nil pass0 (pa_cons (pv 1) pa_nil)))
      (pss_cons (ps_expr (pe_call (ok_need_prime T) (hr.mono (by decide)) (by rfl) T.m_need_prime T.F_need_prime.kp T.b_need_prime .nil pass0 (pa_cons (pv 2) pa_nil)))
      (pss_cons (ps_if (pt_cmpR op_gt (pe_prop (pv 1) T.cl_Form T.pr_Form_degree (ok_Form_degree T) (hr.mono (by decide)) T.b_Form_degree .nil pass0 (by rfl)) (pe_glob (v := .int 12) (by rfl) T.c_MOST_DEGREE ⟨_, rfl⟩) (nomark _)) (pss_one ps_never) pss_nil)
      (pss_one (ps_ret (pe_makeL (i := 0) T.mk_PrimeForm (ok_PrimeForm___init__ T) (hr.mono (by decide)) rfl (by first | exact .inl rfl | exact .inr (.inl rfl)) T.b_PrimeForm___init__ .nil pass0 (pa_cons (pv 2) (pa_cons (pe_call (ok_modulo T) (hr.mono (by decide)) (by rfl) T.m_modulo T.F_modulo.kp T.b_modulo .nil pass0 (pa_cons (pe_prop (pv 1) T.cl_Form T.pr_Form_entries (ok_Form_entries T) (hr.mono (by decide)) T.b_Form_entries .nil pass0 (by rfl)) (pa_cons (pv 2) pa_nil))) pa_nil)))))))), ?_⟩
    rw [st_PrimeForm_of_form]
    simp only [ap_seq, ap_next, ap_asg, ap_gName, ap_ret, ap_retN, ap_drop, ap_ifS, ap_break, ap_cont, ap_par, ap_aug, ap_ip, ap_gSub, ap_gTup, ap_gNil, ap_gCons, ap_var, ap_c, ap_op, ap_un, ap_if, ap_test, ap_B, ap_and, ap_or, ap_not, ap_andV, ap_orV, ap_notV, ap_nil, ap_cons, ap_tup, ap_lst, ap_cb, ap_bm, ap_call, ap_chain, ap_rI, ap_rI0, ap_rU, ap_rEq, ap_rNe, ap_revT, ap_sl, ap_part, ap_noPart, ap_ixLI, ap_ixTI, ap_ixLV, ap_ixTV, ap_len, ap_setLI, ap_setLV, ap_appI, ap_appV, ap_tupL, ap_listS, ap_sumLI, ap_sumTI, ap_repLI, ap_intI, ap_intB, ap_eqTI, ap_neTI, ap_eqLI, ap_neLI, ap_isi, ap_for, ap_rng1, ap_rng2, ap_iList, ap_iTup, ap_lc, ap_yes, ap_cut, ap_gTupH, ap_fmt, ap_jsn, ap_jsc, ap_gcd, ap_isqrt, ap_ixL, tyV_l, wipe_nil, wipe_cons, upd_same, ap_iEnT, ap_iEnL, ap_iZipA, ap_all, ap_tupT, ap_attF, ap_makeL, ap_att, ap_prop, ap_isO, ap_bin, ap_ne, ap_meth, ap_make, ins_inj, FE_inj, ap_slI, ap_catI, ap_perm, ap_lenO, ap_strO, ap_listO, ap_reprB, ap_iterT, ap_neT, ap_negO, ap_binI, ap_catL, ap_tM1, ap_repTI, ap_popN, ap_par3, ap_catTT, ap_repTA, ap_countT, ap_notInT, ap_repL1, ap_cm, ap_shl, ap_shr, ap_mask, ap_comb, ap_bits, ap_rng3, List.set_cons_zero, List.set_cons_succ, List.getElem?_cons_zero, List.getElem?_cons_succ, List.cons_append, List.nil_append, List.append_nil, Option.some.injEq, V.int.injEq, V.ref.injEq, V.bl.injEq, V.str.injEq, V.ty.injEq, Bool.not_true, Bool.not_false, HO.lst.injEq, HO.tup.injEq, reduceCtorEq, Int.reduceToNat, Int.reduceLT, Int.reduceLE, Nat.reduceAdd, Int.cast_ofNat_Int, gi_c0, gi_c1, gi_c2, gi_c3, Int.natCast_inj, map_int_inj, map_nil_iff, List.cons.injEq, exists_eq_left, exists_eq_left', exists_eq, exists_eq', exists_and_left, exists_and_right, exists_const, and_assoc, and_true, true_and, and_false, false_and, or_false, false_or, or_true, true_or, ite_true, ite_false, if_true, if_false, Bool.false_eq_true, own_cons, own_nil, le1, le2, le3, le4, me_cons, me_nil, List.length_map, List.length_cons, List.length_nil, ne_eq, not_false_eq_true, not_true_eq_false, decide_eq_true_eq, hf, sp_need_form, sp_need_prime, sp_Form_degree, sp_Form_entries]
    have pb := primes_bd pp
    refine ⟨pp, es, ht, ?_⟩
    rw [if_neg (by omega)]
    refine ⟨t, es, p, rfl, .inr ht, by omega, wd, by omega, by omega, fun H1 r s1 nr er => ?_⟩
    have lmd : (List.map (fun x => x % p) es).length = es.length := List.length_map ..
    refine newP_ok er pp ⟨by omega, by omega, fun n hn => by have := md_rg (p := p) (by omega) _ n hn; unfold Sm; omega⟩ fun z H2 s2 nz hz => ?_
    rw [md_md] at hz
    exact k H2 z (s1.trans s2) (free_of s1 nz) hz
end
end My
namespace My
open PySem PySem.Spec PyProof.Rows L2 Pr
theorem exT {d p : Addr} {H H' : Hp} {xs : List V} (D : Dc H d) (ex : Exc d H H') (h : H p = some (.tup xs)) : H' p = some (.tup xs) := by
  obtain ⟨_, _, _, ed⟩ := D
  refine ex _ _ (fun e => ?_) h
  subst e
  rw [ed] at h
  cases h
theorem exI {d p C dx : Addr} {H H' : Hp} {fs : List (Str × V)} (D : Dc H d) (ex : Exc d H H') (h : H p = some (.ins C dx fs)) : H' p = some (.ins C dx fs) := by
  obtain ⟨_, _, _, ed⟩ := D
  refine ex _ _ (fun e => ?_) h
  subst e
  rw [ed] at h
  cases h
theorem TabAt.exc {H H' : Hp} {d p : Addr} {a b c e : Int} (D : Dc H d) (ex : Exc d H H') (h : TabAt H p a b c e) : TabAt H' p a b c e := by
  obtain ⟨r, t, h1, h2, h3⟩ := h
  exact ⟨r, t, exT D ex h1, exT D ex h2, exT D ex h3⟩
/-- entries from -m to m -/
structure Tb (m : Int) (a b c d : Int) : Prop where
  a : -m ≤ a ∧ a ≤ m
  b : -m ≤ b ∧ b ≤ m
  c : -m ≤ c ∧ c ≤ m
  d : -m ≤ d ∧ d ≤ m
end My
namespace My
open PySem PySem.Spec PyProof.Rows L2 Pr
section
variable {P : Program} {w : World} {K : PySem.W.Frag} {mg : Str → Option Value} {base : Heap}
def sp_derived_row : Sp := fun vs H Q _ => ∃ (p : Addr) (es : List Int) (i j : Nat), vs = [.ref p, .int i, .int j] ∧ H p = some (TI es) ∧ i + j + 1 ≤ es.length ∧ es.length ≤ 41 ∧ (∀ n ∈ es, n.natAbs ≤ 2 ^ 3000) ∧
  ∀ H' r, Same H H' → H r = none → H' r = some (TI ((List.range (es.length - i - j)).map fun u => es.getD (j + u) 0 * (fall (es.length - 1 - (j + u)) i : Nat) * (fall (j + u) j : Nat))) → Q (.ref r) H'
theorem ok_derived_row (T : Tx K mg) : FnOk P w K mg base CX0 3 T.f_derived_row T.d_derived_row p_derived_row sp_derived_row := by
  refine T.F_derived_row.ok sc_derived_row (fun vs H Q E h => ?_) (fun cdv A outer s H vs Q E hr h => ?_)
  · obtain ⟨p, es, i, j, rfl, _⟩ := h
    rfl
  · obtain ⟨p, es, i, j, rfl, hp, hij, l41, bs, k⟩ := h
    refine ⟨_, (pss_cons (ps_set (i := 3) sc_derived_row.nd rfl (Or.inr rfl) (pe_op op_sub (pe_callB cr_len (by rfl) T.z_len PySem.boot_len (pa_cons (pv 0) pa_nil)) pe_int))
      (pss_one (ps_ret (pe_callTy cr_tupL (by rfl) T.z_tuple (by decide +kernel) (pa_cons (pe_lc (own := [("i", 4)]) (g := gName 4) (tt := tYes) rfl sc_derived_row.nd (pi_range2 (by rfl) T.z_range (pa_cons (pv 2) (pa_cons (pe_op op_add (pe_op op_sub (pv 3) (pv 1)) pe_int) pa_nil))) (blkOk_by (N := n_derived_row) (sc := defScope s_derived_row) (by decide +kernel)) (fun _ _ _ _ _ => (pg_name (i := 4) sc_derived_row.nd rfl (by first | exact .inl rfl | exact .inr rfl))) (fun _ _ _ _ _ => pts_nil) (fun _ _ _ _ _ => (pe_op op_mulB (pe_op op_mulB (pe_ix ix_TI (pv 0) (pv 4) (fun _ _ => rfl)) (pe_callBfun cr_perm (by rfl) T.i_perm (pa_cons (pe_op op_sub (pv 3) (pv 4)) (pa_cons (pv 1) pa_nil)))) (pe_callBfun cr_perm (by rfl) T.i_perm (pa_cons (pv 4) (pa_cons (pv 2) pa_nil)))))) pa_nil))))), ?_⟩
    rw [st_derived_row]
    simp only [ap_seq, ap_next, ap_asg, ap_gName, ap_ret, ap_retN, ap_drop, ap_ifS, ap_break, ap_cont, ap_par, ap_aug, ap_ip, ap_gSub, ap_gTup, ap_gNil, ap_gCons, ap_var, ap_c, ap_op, ap_un, ap_if, ap_test, ap_B, ap_and, ap_or, ap_not, ap_andV, ap_orV, ap_notV, ap_nil, ap_cons, ap_tup, ap_lst, ap_cb, ap_bm, ap_call, ap_chain, ap_rI, ap_rI0, ap_rU, ap_rEq, ap_rNe, ap_revT, ap_sl, ap_part, ap_noPart, ap_ixLI, ap_ixTI, ap_ixLV, ap_ixTV, ap_len, ap_setLI, ap_setLV, ap_appI, ap_appV, ap_tupL, ap_listS, ap_sumLI, ap_sumTI, ap_repLI, ap_intI, ap_intB, ap_eqTI, ap_neTI, ap_eqLI, ap_neLI, ap_isi, ap_for, ap_rng1, ap_rng2, ap_iList, ap_iTup, ap_lc, ap_yes, ap_cut, ap_gTupH, ap_fmt, ap_jsn, ap_jsc, ap_gcd, ap_isqrt, ap_ixL, tyV_l, wipe_nil, wipe_cons, upd_same, ap_iEnT, ap_iEnL, ap_iZipA, ap_all, ap_tupT, ap_attF, ap_makeL, ap_att, ap_prop, ap_isO, ap_bin, ap_ne, ap_meth, ap_make, ins_inj, FE_inj, ap_slI, ap_catI, ap_perm, ap_lenO, ap_strO, ap_listO, ap_reprB, ap_iterT, ap_neT, ap_negO, ap_binI, ap_catL, ap_tM1, ap_repTI, ap_popN, ap_par3, ap_catTT, ap_repTA, ap_countT, ap_notInT, ap_repL1, ap_cm, ap_shl, ap_shr, ap_mask, ap_comb, ap_bits, ap_rng3, List.set_cons_zero, List.set_cons_succ, List.getElem?_cons_zero, List.getElem?_cons_succ, List.cons_append, List.nil_append, List.append_nil, Option.some.injEq, V.int.injEq, V.ref.injEq, V.bl.injEq, V.str.injEq, V.ty.injEq, Bool.not_true, Bool.not_false, HO.lst.injEq, HO.tup.injEq, reduceCtorEq, Int.reduceToNat, Int.reduceLT, Int.reduceLE, Nat.reduceAdd, Int.cast_ofNat_Int, gi_c0, gi_c1, gi_c2, gi_c3, Int.natCast_inj, map_int_inj, map_nil_iff, List.cons.injEq, exists_eq_left, exists_eq_left', exists_eq, exists_eq', exists_and_left, exists_and_right, exists_const, and_assoc, and_true, true_and, and_false, false_and, or_false, false_or, or_true, true_or, ite_true, ite_false, if_true, if_false, Bool.false_eq_true, own_cons, own_nil, le1, le2, le3, le4, me_cons, me_nil, List.length_map, List.length_cons, List.length_nil, ne_eq, not_false_eq_true, not_true_eq_false, decide_eq_true_eq, hp]
    have eN : ((es.length : Int) - 1 - i + 1 - j).toNat = es.length - i - j := by omega
    rw [eN]
    refine ⟨by omega, by omega, by omega, by omega, ?_⟩
    refine lc_rangeI (fun u => es.getD (j + u) 0 * (fall (es.length - 1 - (j + u)) i : Nat) * (fall (j + u) j : Nat)) (by omega) (fun x => rfl) (fun u H' hu sm Q' hQ => ?_) (fun a H' na sm ea => ?_)
    · have hp1 := sm _ _ hp
      have eju : (j : Int) + (u : Int) = ((j + u : Nat) : Int) := by omega
      have em : (es.length : Int) - 1 - ((j + u : Nat) : Int) = ((es.length - 1 - (j + u) : Nat) : Int) := by omega
      have g : gi es ((j + u : Nat) : Int) = es.getD (j + u) 0 := gi_nat es (j + u)
      simp only [ap_seq, ap_next, ap_asg, ap_gName, ap_ret, ap_retN, ap_drop, ap_ifS, ap_break, ap_cont, ap_par, ap_aug, ap_ip, ap_gSub, ap_gTup, ap_gNil, ap_gCons, ap_var, ap_c, ap_op, ap_un, ap_if, ap_test, ap_B, ap_and, ap_or, ap_not, ap_andV, ap_orV, ap_notV, ap_nil, ap_cons, ap_tup, ap_lst, ap_cb, ap_bm, ap_call, ap_chain, ap_rI, ap_rI0, ap_rU, ap_rEq, ap_rNe, ap_revT, ap_sl, ap_part, ap_noPart, ap_ixLI, ap_ixTI, ap_ixLV, ap_ixTV, ap_len, ap_setLI, ap_setLV, ap_appI, ap_appV, ap_tupL, ap_listS, ap_sumLI, ap_sumTI, ap_repLI, ap_intI, ap_intB, ap_eqTI, ap_neTI, ap_eqLI, ap_neLI, ap_isi, ap_for, ap_rng1, ap_rng2, ap_iList, ap_iTup, ap_lc, ap_yes, ap_cut, ap_gTupH, ap_fmt, ap_jsn, ap_jsc, ap_gcd, ap_isqrt, ap_ixL, tyV_l, wipe_nil, wipe_cons, upd_same, ap_iEnT, ap_iEnL, ap_iZipA, ap_all, ap_tupT, ap_attF, ap_makeL, ap_att, ap_prop, ap_isO, ap_bin, ap_ne, ap_meth, ap_make, ins_inj, FE_inj, ap_slI, ap_catI, ap_perm, ap_lenO, ap_strO, ap_listO, ap_reprB, ap_iterT, ap_neT, ap_negO, ap_binI, ap_catL, ap_tM1, ap_repTI, ap_popN, ap_par3, ap_catTT, ap_repTA, ap_countT, ap_notInT, ap_repL1, ap_cm, ap_shl, ap_shr, ap_mask, ap_comb, ap_bits, ap_rng3, List.set_cons_zero, List.set_cons_succ, List.getElem?_cons_zero, List.getElem?_cons_succ, List.cons_append, List.nil_append, List.append_nil, Option.some.injEq, V.int.injEq, V.ref.injEq, V.bl.injEq, V.str.injEq, V.ty.injEq, Bool.not_true, Bool.not_false, HO.lst.injEq, HO.tup.injEq, reduceCtorEq, Int.reduceToNat, Int.reduceLT, Int.reduceLE, Nat.reduceAdd, Int.cast_ofNat_Int, gi_c0, gi_c1, gi_c2, gi_c3, Int.natCast_inj, map_int_inj, map_nil_iff, List.cons.injEq, exists_eq_left, exists_eq_left', exists_eq, exists_eq', exists_and_left, exists_and_right, exists_const, and_assoc, and_true, true_and, and_false, false_and, or_false, false_or, or_true, true_or, ite_true, ite_false, if_true, if_false, Bool.false_eq_true, own_cons, own_nil, le1, le2, le3, le4, me_cons, me_nil, List.length_map, List.length_cons, List.length_nil, ne_eq, not_false_eq_true, not_true_eq_false, decide_eq_true_eq, hp1, CMu, eju, em, g]
      rw [perm_fall (show i ≤ es.length - 1 - (j + u) by omega), perm_fall (show j ≤ j + u by omega)]
      have fb : ∀ n k, n ≤ 41 → k ≤ 41 → fall n k ≤ 41 ^ 41 := fun n k hn hk => Nat.le_trans (fall_le n k) (Nat.le_trans (Nat.pow_le_pow_left hn k) (Nat.pow_le_pow_right (by decide) hk))
      have f1 := fb (es.length - 1 - (j + u)) i (by omega) (by omega)
      have f2 := fb (j + u) j (by omega) (by omega)
      have be : (es.getD (j + u) 0).natAbs ≤ 2 ^ 3000 := by
        have hlt : j + u < es.length := by omega
        rw [List.getD_eq_getElem?_getD, List.getElem?_eq_getElem hlt]
        exact bs _ (List.getElem_mem hlt)
      have c1 := big_of' (Nat.lt_of_le_of_lt be (show (2 : Nat) ^ 3000 < 2 ^ 4000 by decide +kernel))
      have c2 := big_of' (i := ((fall (es.length - 1 - (j + u)) i : Nat) : Int)) (Nat.lt_of_le_of_lt (show _ ≤ 41 ^ 41 by rw [Int.natAbs_natCast]; exact f1) (by decide +kernel))
      have c3 := big_of' (i := ((fall (j + u) j : Nat) : Int)) (Nat.lt_of_le_of_lt (show _ ≤ 41 ^ 41 by rw [Int.natAbs_natCast]; exact f2) (by decide +kernel))
      have c4 := big_of' (i := es.getD (j + u) 0 * ((fall (es.length - 1 - (j + u)) i : Nat) : Int)) (Nat.lt_of_le_of_lt (show _ ≤ 2 ^ 3000 * 41 ^ 41 by rw [Int.natAbs_mul, Int.natAbs_natCast]; exact Nat.mul_le_mul be f1) (by decide +kernel))
      exact ⟨by omega, by omega, by omega, by omega, by omega, by omega, c1.1, c1.2, c2.1, c2.2, by omega, by omega, by omega, by omega, c4.1, c4.2, c3.1, c3.2, hQ H' (Same.refl H')⟩
    · simp only [ap_seq, ap_next, ap_asg, ap_gName, ap_ret, ap_retN, ap_drop, ap_ifS, ap_break, ap_cont, ap_par, ap_aug, ap_ip, ap_gSub, ap_gTup, ap_gNil, ap_gCons, ap_var, ap_c, ap_op, ap_un, ap_if, ap_test, ap_B, ap_and, ap_or, ap_not, ap_andV, ap_orV, ap_notV, ap_nil, ap_cons, ap_tup, ap_lst, ap_cb, ap_bm, ap_call, ap_chain, ap_rI, ap_rI0, ap_rU, ap_rEq, ap_rNe, ap_revT, ap_sl, ap_part, ap_noPart, ap_ixLI, ap_ixTI, ap_ixLV, ap_ixTV, ap_len, ap_setLI, ap_setLV, ap_appI, ap_appV, ap_tupL, ap_listS, ap_sumLI, ap_sumTI, ap_repLI, ap_intI, ap_intB, ap_eqTI, ap_neTI, ap_eqLI, ap_neLI, ap_isi, ap_for, ap_rng1, ap_rng2, ap_iList, ap_iTup, ap_lc, ap_yes, ap_cut, ap_gTupH, ap_fmt, ap_jsn, ap_jsc, ap_gcd, ap_isqrt, ap_ixL, tyV_l, wipe_nil, wipe_cons, upd_same, ap_iEnT, ap_iEnL, ap_iZipA, ap_all, ap_tupT, ap_attF, ap_makeL, ap_att, ap_prop, ap_isO, ap_bin, ap_ne, ap_meth, ap_make, ins_inj, FE_inj, ap_slI, ap_catI, ap_perm, ap_lenO, ap_strO, ap_listO, ap_reprB, ap_iterT, ap_neT, ap_negO, ap_binI, ap_catL, ap_tM1, ap_repTI, ap_popN, ap_par3, ap_catTT, ap_repTA, ap_countT, ap_notInT, ap_repL1, ap_cm, ap_shl, ap_shr, ap_mask, ap_comb, ap_bits, ap_rng3, List.set_cons_zero, List.set_cons_succ, List.getElem?_cons_zero, List.getElem?_cons_succ, List.cons_append, List.nil_append, List.append_nil, Option.some.injEq, V.int.injEq, V.ref.injEq, V.bl.injEq, V.str.injEq, V.ty.injEq, Bool.not_true, Bool.not_false, HO.lst.injEq, HO.tup.injEq, reduceCtorEq, Int.reduceToNat, Int.reduceLT, Int.reduceLE, Nat.reduceAdd, Int.cast_ofNat_Int, gi_c0, gi_c1, gi_c2, gi_c3, Int.natCast_inj, map_int_inj, map_nil_iff, List.cons.injEq, exists_eq_left, exists_eq_left', exists_eq, exists_eq', exists_and_left, exists_and_right, exists_const, and_assoc, and_true, true_and, and_false, false_and, or_false, false_or, or_true, true_or, ite_true, ite_false, if_true, if_false, Bool.false_eq_true, own_cons, own_nil, le1, le2, le3, le4, me_cons, me_nil, List.length_map, List.length_cons, List.length_nil, ne_eq, not_false_eq_true, not_true_eq_false, decide_eq_true_eq, ea]
      exact fun l nl => k _ l (sm.trans (same_upd nl)) (free_of sm nl) upd_same
end
end My
namespace My
open PySem PySem.Spec PyProof.Rows L2 Pr
section
variable {P : Program} {w : World} {K : PySem.W.Frag} {mg : Str → Option Value} {base : Heap}
/-! ### the law's defs -/
def sp_law_by_x : Sp := fun vs H Q _ => ∃ (p : Addr) (es : List Int), vs = [.ref p] ∧ H p = some (TI es) ∧ 2 ≤ es.length ∧ es.length ≤ 41 ∧ (∀ n ∈ es, Wd n) ∧
  ∀ H' r, Same H H' → H' r = some (TI (derP es 1 0)) → Q (.ref r) H'
theorem ok_law_by_x (T : Tx K mg) : FnOk P w K mg base CX0 1 T.f_law_by_x T.d_law_by_x p_law_by_x sp_law_by_x := by
  refine T.F_law_by_x.ok sc_law_by_x (fun vs H Q E h => ?_) (fun cdv A outer s H vs Q E hr h => ?_)
  · obtain ⟨p, es, rfl, _⟩ := h
    rfl
  · obtain ⟨p, es, rfl, hp, l2, l20, bs, k⟩ := h
    refine ⟨_, (pss_one (ps_ret (pe_callTy cr_tupL (by rfl) T.z_tuple (by decide +kernel) (pa_cons (pe_lc (own := [("_law_at", 1), ("_law_entry", 2)]) (tt := tYes) rfl sc_law_by_x.nd (pi_enT (by rfl) T.z_enumerate (pa_cons (pe_slice sl_tupI (pv 0) po_none (po_some (pe_un un_neg pe_int))) pa_nil)) (blkOk_by (N := n_law_by_x) (sc := defScope s_law_by_x) (by decide +kernel)) (fun _ _ _ _ _ => (pg_tupH (n := 2) (by rfl) (pgs_cons (pg_name (i := 1) sc_law_by_x.nd rfl (by first | exact .inl rfl | exact .inr rfl)) (pgs_cons (pg_name (i := 2) sc_law_by_x.nd rfl (by first | exact .inl rfl | exact .inr rfl)) pgs_nil)))) (fun _ _ _ _ _ => pts_nil) (fun _ _ _ _ _ => (pe_op op_mulB (pv 2) (pe_op op_sub (pe_op op_sub (pe_callB cr_len (by rfl) T.z_len PySem.boot_len (pa_cons (pv 0) pa_nil)) pe_int) (pv 1))))) pa_nil)))), ?_⟩
    rw [st_law_by_x]
    simp only [ap_seq, ap_next, ap_asg, ap_gName, ap_ret, ap_retN, ap_drop, ap_ifS, ap_break, ap_cont, ap_par, ap_aug, ap_ip, ap_gSub, ap_gTup, ap_gNil, ap_gCons, ap_var, ap_c, ap_op, ap_un, ap_if, ap_test, ap_B, ap_and, ap_or, ap_not, ap_andV, ap_orV, ap_notV, ap_nil, ap_cons, ap_tup, ap_lst, ap_cb, ap_bm, ap_call, ap_chain, ap_rI, ap_rI0, ap_rU, ap_rEq, ap_rNe, ap_revT, ap_sl, ap_part, ap_noPart, ap_ixLI, ap_ixTI, ap_ixLV, ap_ixTV, ap_len, ap_setLI, ap_setLV, ap_appI, ap_appV, ap_tupL, ap_listS, ap_sumLI, ap_sumTI, ap_repLI, ap_intI, ap_intB, ap_eqTI, ap_neTI, ap_eqLI, ap_neLI, ap_isi, ap_for, ap_rng1, ap_rng2, ap_iList, ap_iTup, ap_lc, ap_yes, ap_cut, ap_gTupH, ap_fmt, ap_jsn, ap_jsc, ap_gcd, ap_isqrt, ap_ixL, tyV_l, wipe_nil, wipe_cons, upd_same, ap_iEnT, ap_iEnL, ap_iZipA, ap_all, ap_tupT, ap_attF, ap_makeL, ap_att, ap_prop, ap_isO, ap_bin, ap_ne, ap_meth, ap_make, ins_inj, FE_inj, ap_slI, ap_catI, ap_perm, ap_lenO, ap_strO, ap_listO, ap_reprB, ap_iterT, ap_neT, ap_negO, ap_binI, ap_catL, ap_tM1, ap_repTI, ap_popN, ap_par3, ap_catTT, ap_repTA, ap_countT, ap_notInT, ap_repL1, ap_cm, ap_shl, ap_shr, ap_mask, ap_comb, ap_bits, ap_rng3, List.set_cons_zero, List.set_cons_succ, List.getElem?_cons_zero, List.getElem?_cons_succ, List.cons_append, List.nil_append, List.append_nil, Option.some.injEq, V.int.injEq, V.ref.injEq, V.bl.injEq, V.str.injEq, V.ty.injEq, Bool.not_true, Bool.not_false, HO.lst.injEq, HO.tup.injEq, reduceCtorEq, Int.reduceToNat, Int.reduceLT, Int.reduceLE, Nat.reduceAdd, Int.cast_ofNat_Int, gi_c0, gi_c1, gi_c2, gi_c3, Int.natCast_inj, map_int_inj, map_nil_iff, List.cons.injEq, exists_eq_left, exists_eq_left', exists_eq, exists_eq', exists_and_left, exists_and_right, exists_const, and_assoc, and_true, true_and, and_false, false_and, or_false, false_or, or_true, true_or, ite_true, ite_false, if_true, if_false, Bool.false_eq_true, own_cons, own_nil, le1, le2, le3, le4, me_cons, me_nil, List.length_map, List.length_cons, List.length_nil, ne_eq, not_false_eq_true, not_true_eq_false, decide_eq_true_eq, hp]
    intro r H1 s1 er
    have ec : cutI es none (some (-1)) = es.take (es.length - 1) := by
      unfold cutI
      have e1 : HT.sIx es.length es.length (some (-1)) = es.length - 1 := by
        show (if (-1 : Int) < 0 then ((-1 : Int) + es.length).toNat else min (-1 : Int).toNat es.length) = _
        rw [if_pos (by omega)]
        omega
      rw [e1]
      rfl
    rw [ec] at er
    have hp1 := s1 _ _ hp
    have lt : (es.take (es.length - 1)).length = es.length - 1 := by rw [List.length_take]; omega
    refine ⟨⟨_, sqT_of er⟩, lc_pairI gives_en (fun i => es.getD i 0 * ((es.length - 1 - i : Nat) : Int)) (by rw [List.length_map]; omega) (fun H' sm => sm _ _ er) (fun x y => rfl) (fun i x y H' hi r sm Q' k' => ?_) (fun A H2 nA sm eA => ?_)⟩
    · obtain ⟨rfl, hy⟩ := r
      obtain ⟨n, rfl, en⟩ := at_int hy
      rw [List.length_map, lt] at hi
      have hp2 := sm _ _ hp1
      have en2 : es.getD i 0 = n := by
        rw [List.getElem?_take] at en
        rw [if_pos (by omega)] at en
        rw [List.getD_eq_getElem?_getD, en]
        rfl
      have bn := bs n (List.mem_of_mem_take (List.mem_of_getElem? en))
      have el : (es.length : Int) - 1 - (i : Nat) = ((es.length - 1 - i : Nat) : Int) := by omega
      unfold Wd at bn
      rw [en2] at k'
      simp only [ap_seq, ap_next, ap_asg, ap_gName, ap_ret, ap_retN, ap_drop, ap_ifS, ap_break, ap_cont, ap_par, ap_aug, ap_ip, ap_gSub, ap_gTup, ap_gNil, ap_gCons, ap_var, ap_c, ap_op, ap_un, ap_if, ap_test, ap_B, ap_and, ap_or, ap_not, ap_andV, ap_orV, ap_notV, ap_nil, ap_cons, ap_tup, ap_lst, ap_cb, ap_bm, ap_call, ap_chain, ap_rI, ap_rI0, ap_rU, ap_rEq, ap_rNe, ap_revT, ap_sl, ap_part, ap_noPart, ap_ixLI, ap_ixTI, ap_ixLV, ap_ixTV, ap_len, ap_setLI, ap_setLV, ap_appI, ap_appV, ap_tupL, ap_listS, ap_sumLI, ap_sumTI, ap_repLI, ap_intI, ap_intB, ap_eqTI, ap_neTI, ap_eqLI, ap_neLI, ap_isi, ap_for, ap_rng1, ap_rng2, ap_iList, ap_iTup, ap_lc, ap_yes, ap_cut, ap_gTupH, ap_fmt, ap_jsn, ap_jsc, ap_gcd, ap_isqrt, ap_ixL, tyV_l, wipe_nil, wipe_cons, upd_same, ap_iEnT, ap_iEnL, ap_iZipA, ap_all, ap_tupT, ap_attF, ap_makeL, ap_att, ap_prop, ap_isO, ap_bin, ap_ne, ap_meth, ap_make, ins_inj, FE_inj, ap_slI, ap_catI, ap_perm, ap_lenO, ap_strO, ap_listO, ap_reprB, ap_iterT, ap_neT, ap_negO, ap_binI, ap_catL, ap_tM1, ap_repTI, ap_popN, ap_par3, ap_catTT, ap_repTA, ap_countT, ap_notInT, ap_repL1, ap_cm, ap_shl, ap_shr, ap_mask, ap_comb, ap_bits, ap_rng3, List.set_cons_zero, List.set_cons_succ, List.getElem?_cons_zero, List.getElem?_cons_succ, List.cons_append, List.nil_append, List.append_nil, Option.some.injEq, V.int.injEq, V.ref.injEq, V.bl.injEq, V.str.injEq, V.ty.injEq, Bool.not_true, Bool.not_false, HO.lst.injEq, HO.tup.injEq, reduceCtorEq, Int.reduceToNat, Int.reduceLT, Int.reduceLE, Nat.reduceAdd, Int.cast_ofNat_Int, gi_c0, gi_c1, gi_c2, gi_c3, Int.natCast_inj, map_int_inj, map_nil_iff, List.cons.injEq, exists_eq_left, exists_eq_left', exists_eq, exists_eq', exists_and_left, exists_and_right, exists_const, and_assoc, and_true, true_and, and_false, false_and, or_false, false_or, or_true, true_or, ite_true, ite_false, if_true, if_false, Bool.false_eq_true, own_cons, own_nil, le1, le2, le3, le4, me_cons, me_nil, List.length_map, List.length_cons, List.length_nil, ne_eq, not_false_eq_true, not_true_eq_false, decide_eq_true_eq, hp2, CMu, el]
      exact ⟨bn.1, bn.2, by omega, by omega, k' H' (Same.refl H')⟩
    · rw [List.length_map, lt] at eA
      simp only [ap_seq, ap_next, ap_asg, ap_gName, ap_ret, ap_retN, ap_drop, ap_ifS, ap_break, ap_cont, ap_par, ap_aug, ap_ip, ap_gSub, ap_gTup, ap_gNil, ap_gCons, ap_var, ap_c, ap_op, ap_un, ap_if, ap_test, ap_B, ap_and, ap_or, ap_not, ap_andV, ap_orV, ap_notV, ap_nil, ap_cons, ap_tup, ap_lst, ap_cb, ap_bm, ap_call, ap_chain, ap_rI, ap_rI0, ap_rU, ap_rEq, ap_rNe, ap_revT, ap_sl, ap_part, ap_noPart, ap_ixLI, ap_ixTI, ap_ixLV, ap_ixTV, ap_len, ap_setLI, ap_setLV, ap_appI, ap_appV, ap_tupL, ap_listS, ap_sumLI, ap_sumTI, ap_repLI, ap_intI, ap_intB, ap_eqTI, ap_neTI, ap_eqLI, ap_neLI, ap_isi, ap_for, ap_rng1, ap_rng2, ap_iList, ap_iTup, ap_lc, ap_yes, ap_cut, ap_gTupH, ap_fmt, ap_jsn, ap_jsc, ap_gcd, ap_isqrt, ap_ixL, tyV_l, wipe_nil, wipe_cons, upd_same, ap_iEnT, ap_iEnL, ap_iZipA, ap_all, ap_tupT, ap_attF, ap_makeL, ap_att, ap_prop, ap_isO, ap_bin, ap_ne, ap_meth, ap_make, ins_inj, FE_inj, ap_slI, ap_catI, ap_perm, ap_lenO, ap_strO, ap_listO, ap_reprB, ap_iterT, ap_neT, ap_negO, ap_binI, ap_catL, ap_tM1, ap_repTI, ap_popN, ap_par3, ap_catTT, ap_repTA, ap_countT, ap_notInT, ap_repL1, ap_cm, ap_shl, ap_shr, ap_mask, ap_comb, ap_bits, ap_rng3, List.set_cons_zero, List.set_cons_succ, List.getElem?_cons_zero, List.getElem?_cons_succ, List.cons_append, List.nil_append, List.append_nil, Option.some.injEq, V.int.injEq, V.ref.injEq, V.bl.injEq, V.str.injEq, V.ty.injEq, Bool.not_true, Bool.not_false, HO.lst.injEq, HO.tup.injEq, reduceCtorEq, Int.reduceToNat, Int.reduceLT, Int.reduceLE, Nat.reduceAdd, Int.cast_ofNat_Int, gi_c0, gi_c1, gi_c2, gi_c3, Int.natCast_inj, map_int_inj, map_nil_iff, List.cons.injEq, exists_eq_left, exists_eq_left', exists_eq, exists_eq', exists_and_left, exists_and_right, exists_const, and_assoc, and_true, true_and, and_false, false_and, or_false, false_or, or_true, true_or, ite_true, ite_false, if_true, if_false, Bool.false_eq_true, own_cons, own_nil, le1, le2, le3, le4, me_cons, me_nil, List.length_map, List.length_cons, List.length_nil, ne_eq, not_false_eq_true, not_true_eq_false, decide_eq_true_eq, eA]
      intro l nl
      have ed : derP es 1 0 = (List.range (es.length - 1)).map fun i => es.getD i 0 * ((es.length - 1 - i : Nat) : Int) := by
        unfold derP
        rw [Nat.sub_zero]
        refine List.map_congr_left fun u _ => ?_
        rw [Nat.zero_add]
        show es.getD u 0 * ((1 * (es.length - 1 - u - 0) : Nat) : Int) * ((1 : Nat) : Int) = _
        rw [Nat.one_mul, Nat.sub_zero]
        omega
      exact k _ l ((s1.trans sm).trans (same_upd nl)) (by rw [ed]; exact upd_same)
def sp_law_by_y : Sp := fun vs H Q _ => ∃ (p : Addr) (es : List Int), vs = [.ref p] ∧ H p = some (TI es) ∧ 2 ≤ es.length ∧ es.length ≤ 41 ∧ (∀ n ∈ es, Wd n) ∧
  ∀ H' r, Same H H' → H' r = some (TI (derP es 0 1)) → Q (.ref r) H'
theorem ok_law_by_y (T : Tx K mg) : FnOk P w K mg base CX0 1 T.f_law_by_y T.d_law_by_y p_law_by_y sp_law_by_y := by
  refine T.F_law_by_y.ok sc_law_by_y (fun vs H Q E h => ?_) (fun cdv A outer s H vs Q E hr h => ?_)
  · obtain ⟨p, es, rfl, _⟩ := h
    rfl
  · obtain ⟨p, es, rfl, hp, l2, l20, bs, k⟩ := h
    refine ⟨_, (pss_one (ps_ret (pe_callTy cr_tupL (by rfl) T.z_tuple (by decide +kernel) (pa_cons (pe_lc (own := [("_law_at", 1), ("_law_entry", 2)]) (tt := tYes) rfl sc_law_by_y.nd (pi_enT (by rfl) T.z_enumerate (pa_cons (pe_slice sl_tupI (pv 0) (po_some pe_int) po_none) pa_nil)) (blkOk_by (N := n_law_by_y) (sc := defScope s_law_by_y) (by decide +kernel)) (fun _ _ _ _ _ => (pg_tupH (n := 2) (by rfl) (pgs_cons (pg_name (i := 1) sc_law_by_y.nd rfl (by first | exact .inl rfl | exact .inr rfl)) (pgs_cons (pg_name (i := 2) sc_law_by_y.nd rfl (by first | exact .inl rfl | exact .inr rfl)) pgs_nil)))) (fun _ _ _ _ _ => pts_nil) (fun _ _ _ _ _ => (pe_op op_mulB (pv 2) (pe_op op_add (pv 1) pe_int)))) pa_nil)))), ?_⟩
    rw [st_law_by_y]
    simp only [ap_seq, ap_next, ap_asg, ap_gName, ap_ret, ap_retN, ap_drop, ap_ifS, ap_break, ap_cont, ap_par, ap_aug, ap_ip, ap_gSub, ap_gTup, ap_gNil, ap_gCons, ap_var, ap_c, ap_op, ap_un, ap_if, ap_test, ap_B, ap_and, ap_or, ap_not, ap_andV, ap_orV, ap_notV, ap_nil, ap_cons, ap_tup, ap_lst, ap_cb, ap_bm, ap_call, ap_chain, ap_rI, ap_rI0, ap_rU, ap_rEq, ap_rNe, ap_revT, ap_sl, ap_part, ap_noPart, ap_ixLI, ap_ixTI, ap_ixLV, ap_ixTV, ap_len, ap_setLI, ap_setLV, ap_appI, ap_appV, ap_tupL, ap_listS, ap_sumLI, ap_sumTI, ap_repLI, ap_intI, ap_intB, ap_eqTI, ap_neTI, ap_eqLI, ap_neLI, ap_isi, ap_for, ap_rng1, ap_rng2, ap_iList, ap_iTup, ap_lc, ap_yes, ap_cut, ap_gTupH, ap_fmt, ap_jsn, ap_jsc, ap_gcd, ap_isqrt, ap_ixL, tyV_l, wipe_nil, wipe_cons, upd_same, ap_iEnT, ap_iEnL, ap_iZipA, ap_all, ap_tupT, ap_attF, ap_makeL, ap_att, ap_prop, ap_isO, ap_bin, ap_ne, ap_meth, ap_make, ins_inj, FE_inj, ap_slI, ap_catI, ap_perm, ap_lenO, ap_strO, ap_listO, ap_reprB, ap_iterT, ap_neT, ap_negO, ap_binI, ap_catL, ap_tM1, ap_repTI, ap_popN, ap_par3, ap_catTT, ap_repTA, ap_countT, ap_notInT, ap_repL1, ap_cm, ap_shl, ap_shr, ap_mask, ap_comb, ap_bits, ap_rng3, List.set_cons_zero, List.set_cons_succ, List.getElem?_cons_zero, List.getElem?_cons_succ, List.cons_append, List.nil_append, List.append_nil, Option.some.injEq, V.int.injEq, V.ref.injEq, V.bl.injEq, V.str.injEq, V.ty.injEq, Bool.not_true, Bool.not_false, HO.lst.injEq, HO.tup.injEq, reduceCtorEq, Int.reduceToNat, Int.reduceLT, Int.reduceLE, Nat.reduceAdd, Int.cast_ofNat_Int, gi_c0, gi_c1, gi_c2, gi_c3, Int.natCast_inj, map_int_inj, map_nil_iff, List.cons.injEq, exists_eq_left, exists_eq_left', exists_eq, exists_eq', exists_and_left, exists_and_right, exists_const, and_assoc, and_true, true_and, and_false, false_and, or_false, false_or, or_true, true_or, ite_true, ite_false, if_true, if_false, Bool.false_eq_true, own_cons, own_nil, le1, le2, le3, le4, me_cons, me_nil, List.length_map, List.length_cons, List.length_nil, ne_eq, not_false_eq_true, not_true_eq_false, decide_eq_true_eq, hp]
    intro r H1 s1 er
    have ec : cutI es (some 1) none = es.drop 1 := cut_drop es 1
    rw [ec] at er
    have hp1 := s1 _ _ hp
    have lt : (es.drop 1).length = es.length - 1 := List.length_drop ..
    refine ⟨⟨_, sqT_of er⟩, lc_pairI gives_en (fun i => es.getD (1 + i) 0 * ((1 + i : Nat) : Int)) (by rw [List.length_map]; omega) (fun H' sm => sm _ _ er) (fun x y => rfl) (fun i x y H' hi r sm Q' k' => ?_) (fun A H2 nA sm eA => ?_)⟩
    · obtain ⟨rfl, hy⟩ := r
      obtain ⟨n, rfl, en⟩ := at_int hy
      rw [List.length_map, lt] at hi
      have en2 : es.getD (1 + i) 0 = n := by
        rw [List.getElem?_drop] at en
        rw [List.getD_eq_getElem?_getD, en]
        rfl
      have bn := bs n (List.mem_of_mem_drop (List.mem_of_getElem? en))
      have el : ((i : Nat) : Int) + 1 = ((1 + i : Nat) : Int) := by omega
      unfold Wd at bn
      rw [en2] at k'
      simp only [ap_seq, ap_next, ap_asg, ap_gName, ap_ret, ap_retN, ap_drop, ap_ifS, ap_break, ap_cont, ap_par, ap_aug, ap_ip, ap_gSub, ap_gTup, ap_gNil, ap_gCons, ap_var, ap_c, ap_op, ap_un, ap_if, ap_test, ap_B, ap_and, ap_or, ap_not, ap_andV, ap_orV, ap_notV, ap_nil, ap_cons, ap_tup, ap_lst, ap_cb, ap_bm, ap_call, ap_chain, ap_rI, ap_rI0, ap_rU, ap_rEq, ap_rNe, ap_revT, ap_sl, ap_part, ap_noPart, ap_ixLI, ap_ixTI, ap_ixLV, ap_ixTV, ap_len, ap_setLI, ap_setLV, ap_appI, ap_appV, ap_tupL, ap_listS, ap_sumLI, ap_sumTI, ap_repLI, ap_intI, ap_intB, ap_eqTI, ap_neTI, ap_eqLI, ap_neLI, ap_isi, ap_for, ap_rng1, ap_rng2, ap_iList, ap_iTup, ap_lc, ap_yes, ap_cut, ap_gTupH, ap_fmt, ap_jsn, ap_jsc, ap_gcd, ap_isqrt, ap_ixL, tyV_l, wipe_nil, wipe_cons, upd_same, ap_iEnT, ap_iEnL, ap_iZipA, ap_all, ap_tupT, ap_attF, ap_makeL, ap_att, ap_prop, ap_isO, ap_bin, ap_ne, ap_meth, ap_make, ins_inj, FE_inj, ap_slI, ap_catI, ap_perm, ap_lenO, ap_strO, ap_listO, ap_reprB, ap_iterT, ap_neT, ap_negO, ap_binI, ap_catL, ap_tM1, ap_repTI, ap_popN, ap_par3, ap_catTT, ap_repTA, ap_countT, ap_notInT, ap_repL1, ap_cm, ap_shl, ap_shr, ap_mask, ap_comb, ap_bits, ap_rng3, List.set_cons_zero, List.set_cons_succ, List.getElem?_cons_zero, List.getElem?_cons_succ, List.cons_append, List.nil_append, List.append_nil, Option.some.injEq, V.int.injEq, V.ref.injEq, V.bl.injEq, V.str.injEq, V.ty.injEq, Bool.not_true, Bool.not_false, HO.lst.injEq, HO.tup.injEq, reduceCtorEq, Int.reduceToNat, Int.reduceLT, Int.reduceLE, Nat.reduceAdd, Int.cast_ofNat_Int, gi_c0, gi_c1, gi_c2, gi_c3, Int.natCast_inj, map_int_inj, map_nil_iff, List.cons.injEq, exists_eq_left, exists_eq_left', exists_eq, exists_eq', exists_and_left, exists_and_right, exists_const, and_assoc, and_true, true_and, and_false, false_and, or_false, false_or, or_true, true_or, ite_true, ite_false, if_true, if_false, Bool.false_eq_true, own_cons, own_nil, le1, le2, le3, le4, me_cons, me_nil, List.length_map, List.length_cons, List.length_nil, ne_eq, not_false_eq_true, not_true_eq_false, decide_eq_true_eq, CMu, el]
      exact ⟨bn.1, bn.2, by omega, by omega, k' H' (Same.refl H')⟩
    · rw [List.length_map, lt] at eA
      simp only [ap_seq, ap_next, ap_asg, ap_gName, ap_ret, ap_retN, ap_drop, ap_ifS, ap_break, ap_cont, ap_par, ap_aug, ap_ip, ap_gSub, ap_gTup, ap_gNil, ap_gCons, ap_var, ap_c, ap_op, ap_un, ap_if, ap_test, ap_B, ap_and, ap_or, ap_not, ap_andV, ap_orV, ap_notV, ap_nil, ap_cons, ap_tup, ap_lst, ap_cb, ap_bm, ap_call, ap_chain, ap_rI, ap_rI0, ap_rU, ap_rEq, ap_rNe, ap_revT, ap_sl, ap_part, ap_noPart, ap_ixLI, ap_ixTI, ap_ixLV, ap_ixTV, ap_len, ap_setLI, ap_setLV, ap_appI, ap_appV, ap_tupL, ap_listS, ap_sumLI, ap_sumTI, ap_repLI, ap_intI, ap_intB, ap_eqTI, ap_neTI, ap_eqLI, ap_neLI, ap_isi, ap_for, ap_rng1, ap_rng2, ap_iList, ap_iTup, ap_lc, ap_yes, ap_cut, ap_gTupH, ap_fmt, ap_jsn, ap_jsc, ap_gcd, ap_isqrt, ap_ixL, tyV_l, wipe_nil, wipe_cons, upd_same, ap_iEnT, ap_iEnL, ap_iZipA, ap_all, ap_tupT, ap_attF, ap_makeL, ap_att, ap_prop, ap_isO, ap_bin, ap_ne, ap_meth, ap_make, ins_inj, FE_inj, ap_slI, ap_catI, ap_perm, ap_lenO, ap_strO, ap_listO, ap_reprB, ap_iterT, ap_neT, ap_negO, ap_binI, ap_catL, ap_tM1, ap_repTI, ap_popN, ap_par3, ap_catTT, ap_repTA, ap_countT, ap_notInT, ap_repL1, ap_cm, ap_shl, ap_shr, ap_mask, ap_comb, ap_bits, ap_rng3, List.set_cons_zero, List.set_cons_succ, List.getElem?_cons_zero, List.getElem?_cons_succ, List.cons_append, List.nil_append, List.append_nil, Option.some.injEq, V.int.injEq, V.ref.injEq, V.bl.injEq, V.str.injEq, V.ty.injEq, Bool.not_true, Bool.not_false, HO.lst.injEq, HO.tup.injEq, reduceCtorEq, Int.reduceToNat, Int.reduceLT, Int.reduceLE, Nat.reduceAdd, Int.cast_ofNat_Int, gi_c0, gi_c1, gi_c2, gi_c3, Int.natCast_inj, map_int_inj, map_nil_iff, List.cons.injEq, exists_eq_left, exists_eq_left', exists_eq, exists_eq', exists_and_left, exists_and_right, exists_const, and_assoc, and_true, true_and, and_false, false_and, or_false, false_or, or_true, true_or, ite_true, ite_false, if_true, if_false, Bool.false_eq_true, own_cons, own_nil, le1, le2, le3, le4, me_cons, me_nil, List.length_map, List.length_cons, List.length_nil, ne_eq, not_false_eq_true, not_true_eq_false, decide_eq_true_eq, eA]
      intro l nl
      have ed : derP es 0 1 = (List.range (es.length - 1)).map fun i => es.getD (1 + i) 0 * ((1 + i : Nat) : Int) := by
        unfold derP
        rw [Nat.sub_zero]
        refine List.map_congr_left fun u _ => ?_
        show es.getD (1 + u) 0 * ((1 : Nat) : Int) * ((1 * (1 + u - 0) : Nat) : Int) = _
        rw [Nat.one_mul, Nat.sub_zero]
        rw [show ((1 : Nat) : Int) = 1 from rfl, Int.mul_one]
      exact k _ l ((s1.trans sm).trans (same_upd nl)) (by rw [ed]; exact upd_same)
end
end My
namespace My
open PySem PySem.Spec PyProof.Rows L2 Pr
theorem derP_bd {es : List Int} {i j : Nat} (h : es.length ≤ 41) (bs : ∀ n ∈ es, n.natAbs ≤ 2 ^ 3000) : ∀ n ∈ derP es i j, n.natAbs ≤ 2 ^ 3000 * 41 ^ 41 * 41 ^ 41 := fun n hn => by
  obtain ⟨u, hu, rfl⟩ := List.mem_map.mp hn
  rw [List.mem_range] at hu
  have fb : ∀ m k, m ≤ 41 → k ≤ 41 → fall m k ≤ 41 ^ 41 := fun m k hm hk => Nat.le_trans (fall_le m k) (Nat.le_trans (Nat.pow_le_pow_left hm k) (Nat.pow_le_pow_right (by decide) hk))
  have f1 := fb (es.length - 1 - (j + u)) i (by omega) (by omega)
  have f2 := fb (j + u) j (by omega) (by omega)
  have hlt : j + u < es.length := by omega
  have be : (es.getD (j + u) 0).natAbs ≤ 2 ^ 3000 := by
    rw [List.getD_eq_getElem?_getD, List.getElem?_eq_getElem hlt]
    exact bs _ (List.getElem_mem hlt)
  rw [Int.natAbs_mul, Int.natAbs_mul, Int.natAbs_natCast, Int.natAbs_natCast]
  exact Nat.mul_le_mul (Nat.mul_le_mul be f1) f2
theorem derP_wd {es : List Int} {i j : Nat} (h : es.length ≤ 41) (bs : ∀ n ∈ es, n.natAbs ≤ 2 ^ 3000) : ∀ n ∈ derP es i j, Wd n := fun n hn =>
  wd_of (Nat.lt_of_le_of_lt (derP_bd h bs n hn) (by decide +kernel))
section
variable {P : Program} {w : World} {K : PySem.W.Frag} {mg : Str → Option Value} {base : Heap}
def sp_law_derived : Sp := fun vs H Q _ => ∃ (p : Addr) (es : List Int) (i j : Nat), vs = [.ref p, .int i, .int j] ∧ H p = some (TI es) ∧ i + j + 1 ≤ es.length ∧ es.length ≤ 41 ∧ (∀ n ∈ es, n.natAbs ≤ 2 ^ 3000) ∧
  ∀ H' r, Same H H' → H' r = some (TI (derP es i j)) → Q (.ref r) H'
theorem ok_law_derived (T : Tx K mg) : FnOk P w K mg base CX0 2 T.f_law_derived T.d_law_derived p_law_derived sp_law_derived := by
  refine T.F_law_derived.ok sc_law_derived (fun vs H Q E h => ?_) (fun cdv A outer s H vs Q E hr h => ?_)
  · obtain ⟨p, es, i, j, rfl, _⟩ := h
    rfl
  · obtain ⟨p, es, i, j, rfl, hp, hij, l20, bs, k⟩ := h
    refine ⟨_, (pss_cons (ps_for PassesOwn.never rfl (pi_range1 (by rfl) T.z_range (pa_cons (pv 1) pa_nil)) (pg_name (i := 3) sc_law_derived.nd rfl (by first | exact .inl rfl | exact .inr rfl))
      (pss_one (ps_set (i := 0) sc_law_derived.nd rfl (Or.inl rfl) (pe_call (ok_law_by_x T) (hr.mono (by decide)) (by rfl) T.m_law_by_x T.F_law_by_x.kp T.b_law_by_x .nil pass0 (pa_cons (pv 0) pa_nil)))))
      (pss_cons (ps_for PassesOwn.never rfl (pi_range1 (by rfl) T.z_range (pa_cons (pv 2) pa_nil)) (pg_name (i := 3) sc_law_derived.nd rfl (by first | exact .inl rfl | exact .inr rfl))
      (pss_one (ps_set (i := 0) sc_law_derived.nd rfl (Or.inl rfl) (pe_call (ok_law_by_y T) (hr.mono (by decide)) (by rfl) T.m_law_by_y T.F_law_by_y.kp T.b_law_by_y .nil pass0 (pa_cons (pv 0) pa_nil)))))
      (pss_one (ps_ret (pv 0))))), ?_⟩
    rw [st_law_derived]
    simp only [ap_seq, ap_next, ap_asg, ap_gName, ap_ret, ap_retN, ap_drop, ap_ifS, ap_break, ap_cont, ap_par, ap_aug, ap_ip, ap_gSub, ap_gTup, ap_gNil, ap_gCons, ap_var, ap_c, ap_op, ap_un, ap_if, ap_test, ap_B, ap_and, ap_or, ap_not, ap_andV, ap_orV, ap_notV, ap_nil, ap_cons, ap_tup, ap_lst, ap_cb, ap_bm, ap_call, ap_chain, ap_rI, ap_rI0, ap_rU, ap_rEq, ap_rNe, ap_revT, ap_sl, ap_part, ap_noPart, ap_ixLI, ap_ixTI, ap_ixLV, ap_ixTV, ap_len, ap_setLI, ap_setLV, ap_appI, ap_appV, ap_tupL, ap_listS, ap_sumLI, ap_sumTI, ap_repLI, ap_intI, ap_intB, ap_eqTI, ap_neTI, ap_eqLI, ap_neLI, ap_isi, ap_for, ap_rng1, ap_rng2, ap_iList, ap_iTup, ap_lc, ap_yes, ap_cut, ap_gTupH, ap_fmt, ap_jsn, ap_jsc, ap_gcd, ap_isqrt, ap_ixL, tyV_l, wipe_nil, wipe_cons, upd_same, ap_iEnT, ap_iEnL, ap_iZipA, ap_all, ap_tupT, ap_attF, ap_makeL, ap_att, ap_prop, ap_isO, ap_bin, ap_ne, ap_meth, ap_make, ins_inj, FE_inj, ap_slI, ap_catI, ap_perm, ap_lenO, ap_strO, ap_listO, ap_reprB, ap_iterT, ap_neT, ap_negO, ap_binI, ap_catL, ap_tM1, ap_repTI, ap_popN, ap_par3, ap_catTT, ap_repTA, ap_countT, ap_notInT, ap_repL1, ap_cm, ap_shl, ap_shr, ap_mask, ap_comb, ap_bits, ap_rng3, List.set_cons_zero, List.set_cons_succ, List.getElem?_cons_zero, List.getElem?_cons_succ, List.cons_append, List.nil_append, List.append_nil, Option.some.injEq, V.int.injEq, V.ref.injEq, V.bl.injEq, V.str.injEq, V.ty.injEq, Bool.not_true, Bool.not_false, HO.lst.injEq, HO.tup.injEq, reduceCtorEq, Int.reduceToNat, Int.reduceLT, Int.reduceLE, Nat.reduceAdd, Int.cast_ofNat_Int, gi_c0, gi_c1, gi_c2, gi_c3, Int.natCast_inj, map_int_inj, map_nil_iff, List.cons.injEq, exists_eq_left, exists_eq_left', exists_eq, exists_eq', exists_and_left, exists_and_right, exists_const, and_assoc, and_true, true_and, and_false, false_and, or_false, false_or, or_true, true_or, ite_true, ite_false, if_true, if_false, Bool.false_eq_true, own_cons, own_nil, le1, le2, le3, le4, me_cons, me_nil, List.length_map, List.length_cons, List.length_nil, ne_eq, not_false_eq_true, not_true_eq_false, decide_eq_true_eq]
    refine ⟨by omega, by omega, ?_⟩
    rw [Int.toNat_natCast]
    refine loop_range (fun n σ' H' => ∃ (r : Addr) (y : Option V), σ' = [some (.ref r), some (.int i), some (.int j), y] ∧ Same H H' ∧ H' r = some (TI (derP es n 0))) ⟨p, none, rfl, Same.refl H, by rw [derP_zero]; exact hp⟩ (fun n σ' H1 hn hP => ?_) (fun σ' H1 hP => ?_)
    · obtain ⟨r, y, e, sm, er⟩ := hP
      subst e
      simp only [ap_seq, ap_next, ap_asg, ap_gName, ap_ret, ap_retN, ap_drop, ap_ifS, ap_break, ap_cont, ap_par, ap_aug, ap_ip, ap_gSub, ap_gTup, ap_gNil, ap_gCons, ap_var, ap_c, ap_op, ap_un, ap_if, ap_test, ap_B, ap_and, ap_or, ap_not, ap_andV, ap_orV, ap_notV, ap_nil, ap_cons, ap_tup, ap_lst, ap_cb, ap_bm, ap_call, ap_chain, ap_rI, ap_rI0, ap_rU, ap_rEq, ap_rNe, ap_revT, ap_sl, ap_part, ap_noPart, ap_ixLI, ap_ixTI, ap_ixLV, ap_ixTV, ap_len, ap_setLI, ap_setLV, ap_appI, ap_appV, ap_tupL, ap_listS, ap_sumLI, ap_sumTI, ap_repLI, ap_intI, ap_intB, ap_eqTI, ap_neTI, ap_eqLI, ap_neLI, ap_isi, ap_for, ap_rng1, ap_rng2, ap_iList, ap_iTup, ap_lc, ap_yes, ap_cut, ap_gTupH, ap_fmt, ap_jsn, ap_jsc, ap_gcd, ap_isqrt, ap_ixL, tyV_l, wipe_nil, wipe_cons, upd_same, ap_iEnT, ap_iEnL, ap_iZipA, ap_all, ap_tupT, ap_attF, ap_makeL, ap_att, ap_prop, ap_isO, ap_bin, ap_ne, ap_meth, ap_make, ins_inj, FE_inj, ap_slI, ap_catI, ap_perm, ap_lenO, ap_strO, ap_listO, ap_reprB, ap_iterT, ap_neT, ap_negO, ap_binI, ap_catL, ap_tM1, ap_repTI, ap_popN, ap_par3, ap_catTT, ap_repTA, ap_countT, ap_notInT, ap_repL1, ap_cm, ap_shl, ap_shr, ap_mask, ap_comb, ap_bits, ap_rng3, List.set_cons_zero, List.set_cons_succ, List.getElem?_cons_zero, List.getElem?_cons_succ, List.cons_append, List.nil_append, List.append_nil, Option.some.injEq, V.int.injEq, V.ref.injEq, V.bl.injEq, V.str.injEq, V.ty.injEq, Bool.not_true, Bool.not_false, HO.lst.injEq, HO.tup.injEq, reduceCtorEq, Int.reduceToNat, Int.reduceLT, Int.reduceLE, Nat.reduceAdd, Int.cast_ofNat_Int, gi_c0, gi_c1, gi_c2, gi_c3, Int.natCast_inj, map_int_inj, map_nil_iff, List.cons.injEq, exists_eq_left, exists_eq_left', exists_eq, exists_eq', exists_and_left, exists_and_right, exists_const, and_assoc, and_true, true_and, and_false, false_and, or_false, false_or, or_true, true_or, ite_true, ite_false, if_true, if_false, Bool.false_eq_true, own_cons, own_nil, le1, le2, le3, le4, me_cons, me_nil, List.length_map, List.length_cons, List.length_nil, ne_eq, not_false_eq_true, not_true_eq_false, decide_eq_true_eq, sp_law_by_x]
      refine ⟨_, er, by rw [derP_len]; omega, by rw [derP_len]; omega, derP_wd l20 bs, fun H2 r2 s2 er2 => ⟨sm.trans s2, ?_⟩⟩
      rw [← derP_x es n (by omega)]
      exact er2
    · obtain ⟨r, y, e, sm, er⟩ := hP
      subst e
      simp only [ap_seq, ap_next, ap_asg, ap_gName, ap_ret, ap_retN, ap_drop, ap_ifS, ap_break, ap_cont, ap_par, ap_aug, ap_ip, ap_gSub, ap_gTup, ap_gNil, ap_gCons, ap_var, ap_c, ap_op, ap_un, ap_if, ap_test, ap_B, ap_and, ap_or, ap_not, ap_andV, ap_orV, ap_notV, ap_nil, ap_cons, ap_tup, ap_lst, ap_cb, ap_bm, ap_call, ap_chain, ap_rI, ap_rI0, ap_rU, ap_rEq, ap_rNe, ap_revT, ap_sl, ap_part, ap_noPart, ap_ixLI, ap_ixTI, ap_ixLV, ap_ixTV, ap_len, ap_setLI, ap_setLV, ap_appI, ap_appV, ap_tupL, ap_listS, ap_sumLI, ap_sumTI, ap_repLI, ap_intI, ap_intB, ap_eqTI, ap_neTI, ap_eqLI, ap_neLI, ap_isi, ap_for, ap_rng1, ap_rng2, ap_iList, ap_iTup, ap_lc, ap_yes, ap_cut, ap_gTupH, ap_fmt, ap_jsn, ap_jsc, ap_gcd, ap_isqrt, ap_ixL, tyV_l, wipe_nil, wipe_cons, upd_same, ap_iEnT, ap_iEnL, ap_iZipA, ap_all, ap_tupT, ap_attF, ap_makeL, ap_att, ap_prop, ap_isO, ap_bin, ap_ne, ap_meth, ap_make, ins_inj, FE_inj, ap_slI, ap_catI, ap_perm, ap_lenO, ap_strO, ap_listO, ap_reprB, ap_iterT, ap_neT, ap_negO, ap_binI, ap_catL, ap_tM1, ap_repTI, ap_popN, ap_par3, ap_catTT, ap_repTA, ap_countT, ap_notInT, ap_repL1, ap_cm, ap_shl, ap_shr, ap_mask, ap_comb, ap_bits, ap_rng3, List.set_cons_zero, List.set_cons_succ, List.getElem?_cons_zero, List.getElem?_cons_succ, List.cons_append, List.nil_append, List.append_nil, Option.some.injEq, V.int.injEq, V.ref.injEq, V.bl.injEq, V.str.injEq, V.ty.injEq, Bool.not_true, Bool.not_false, HO.lst.injEq, HO.tup.injEq, reduceCtorEq, Int.reduceToNat, Int.reduceLT, Int.reduceLE, Nat.reduceAdd, Int.cast_ofNat_Int, gi_c0, gi_c1, gi_c2, gi_c3, Int.natCast_inj, map_int_inj, map_nil_iff, List.cons.injEq, exists_eq_left, exists_eq_left', exists_eq, exists_eq', exists_and_left, exists_and_right, exists_const, and_assoc, and_true, true_and, and_false, false_and, or_false, false_or, or_true, true_or, ite_true, ite_false, if_true, if_false, Bool.false_eq_true, own_cons, own_nil, le1, le2, le3, le4, me_cons, me_nil, List.length_map, List.length_cons, List.length_nil, ne_eq, not_false_eq_true, not_true_eq_false, decide_eq_true_eq]
      refine ⟨by omega, by omega, ?_⟩
      rw [Int.toNat_natCast]
      refine loop_range (fun n σ' H' => ∃ (r : Addr) (y : Option V), σ' = [some (.ref r), some (.int i), some (.int j), y] ∧ Same H H' ∧ H' r = some (TI (derP es i n))) ⟨r, y, rfl, sm, er⟩ (fun n σ' H1 hn hP => ?_) (fun σ' H1 hP => ?_)
      · obtain ⟨r, y, e, sm, er⟩ := hP
        subst e
        simp only [ap_seq, ap_next, ap_asg, ap_gName, ap_ret, ap_retN, ap_drop, ap_ifS, ap_break, ap_cont, ap_par, ap_aug, ap_ip, ap_gSub, ap_gTup, ap_gNil, ap_gCons, ap_var, ap_c, ap_op, ap_un, ap_if, ap_test, ap_B, ap_and, ap_or, ap_not, ap_andV, ap_orV, ap_notV, ap_nil, ap_cons, ap_tup, ap_lst, ap_cb, ap_bm, ap_call, ap_chain, ap_rI, ap_rI0, ap_rU, ap_rEq, ap_rNe, ap_revT, ap_sl, ap_part, ap_noPart, ap_ixLI, ap_ixTI, ap_ixLV, ap_ixTV, ap_len, ap_setLI, ap_setLV, ap_appI, ap_appV, ap_tupL, ap_listS, ap_sumLI, ap_sumTI, ap_repLI, ap_intI, ap_intB, ap_eqTI, ap_neTI, ap_eqLI, ap_neLI, ap_isi, ap_for, ap_rng1, ap_rng2, ap_iList, ap_iTup, ap_lc, ap_yes, ap_cut, ap_gTupH, ap_fmt, ap_jsn, ap_jsc, ap_gcd, ap_isqrt, ap_ixL, tyV_l, wipe_nil, wipe_cons, upd_same, ap_iEnT, ap_iEnL, ap_iZipA, ap_all, ap_tupT, ap_attF, ap_makeL, ap_att, ap_prop, ap_isO, ap_bin, ap_ne, ap_meth, ap_make, ins_inj, FE_inj, ap_slI, ap_catI, ap_perm, ap_lenO, ap_strO, ap_listO, ap_reprB, ap_iterT, ap_neT, ap_negO, ap_binI, ap_catL, ap_tM1, ap_repTI, ap_popN, ap_par3, ap_catTT, ap_repTA, ap_countT, ap_notInT, ap_repL1, ap_cm, ap_shl, ap_shr, ap_mask, ap_comb, ap_bits, ap_rng3, List.set_cons_zero, List.set_cons_succ, List.getElem?_cons_zero, List.getElem?_cons_succ, List.cons_append, List.nil_append, List.append_nil, Option.some.injEq, V.int.injEq, V.ref.injEq, V.bl.injEq, V.str.injEq, V.ty.injEq, Bool.not_true, Bool.not_false, HO.lst.injEq, HO.tup.injEq, reduceCtorEq, Int.reduceToNat, Int.reduceLT, Int.reduceLE, Nat.reduceAdd, Int.cast_ofNat_Int, gi_c0, gi_c1, gi_c2, gi_c3, Int.natCast_inj, map_int_inj, map_nil_iff, List.cons.injEq, exists_eq_left, exists_eq_left', exists_eq, exists_eq', exists_and_left, exists_and_right, exists_const, and_assoc, and_true, true_and, and_false, false_and, or_false, false_or, or_true, true_or, ite_true, ite_false, if_true, if_false, Bool.false_eq_true, own_cons, own_nil, le1, le2, le3, le4, me_cons, me_nil, List.length_map, List.length_cons, List.length_nil, ne_eq, not_false_eq_true, not_true_eq_false, decide_eq_true_eq, sp_law_by_y]
        refine ⟨_, er, by rw [derP_len]; omega, by rw [derP_len]; omega, derP_wd l20 bs, fun H2 r2 s2 er2 => ⟨sm.trans s2, ?_⟩⟩
        rw [← derP_y es i n (by omega)]
        exact er2
      · obtain ⟨r, y, e, sm, er⟩ := hP
        subst e
        simp only [ap_seq, ap_next, ap_asg, ap_gName, ap_ret, ap_retN, ap_drop, ap_ifS, ap_break, ap_cont, ap_par, ap_aug, ap_ip, ap_gSub, ap_gTup, ap_gNil, ap_gCons, ap_var, ap_c, ap_op, ap_un, ap_if, ap_test, ap_B, ap_and, ap_or, ap_not, ap_andV, ap_orV, ap_notV, ap_nil, ap_cons, ap_tup, ap_lst, ap_cb, ap_bm, ap_call, ap_chain, ap_rI, ap_rI0, ap_rU, ap_rEq, ap_rNe, ap_revT, ap_sl, ap_part, ap_noPart, ap_ixLI, ap_ixTI, ap_ixLV, ap_ixTV, ap_len, ap_setLI, ap_setLV, ap_appI, ap_appV, ap_tupL, ap_listS, ap_sumLI, ap_sumTI, ap_repLI, ap_intI, ap_intB, ap_eqTI, ap_neTI, ap_eqLI, ap_neLI, ap_isi, ap_for, ap_rng1, ap_rng2, ap_iList, ap_iTup, ap_lc, ap_yes, ap_cut, ap_gTupH, ap_fmt, ap_jsn, ap_jsc, ap_gcd, ap_isqrt, ap_ixL, tyV_l, wipe_nil, wipe_cons, upd_same, ap_iEnT, ap_iEnL, ap_iZipA, ap_all, ap_tupT, ap_attF, ap_makeL, ap_att, ap_prop, ap_isO, ap_bin, ap_ne, ap_meth, ap_make, ins_inj, FE_inj, ap_slI, ap_catI, ap_perm, ap_lenO, ap_strO, ap_listO, ap_reprB, ap_iterT, ap_neT, ap_negO, ap_binI, ap_catL, ap_tM1, ap_repTI, ap_popN, ap_par3, ap_catTT, ap_repTA, ap_countT, ap_notInT, ap_repL1, ap_cm, ap_shl, ap_shr, ap_mask, ap_comb, ap_bits, ap_rng3, List.set_cons_zero, List.set_cons_succ, List.getElem?_cons_zero, List.getElem?_cons_succ, List.cons_append, List.nil_append, List.append_nil, Option.some.injEq, V.int.injEq, V.ref.injEq, V.bl.injEq, V.str.injEq, V.ty.injEq, Bool.not_true, Bool.not_false, HO.lst.injEq, HO.tup.injEq, reduceCtorEq, Int.reduceToNat, Int.reduceLT, Int.reduceLE, Nat.reduceAdd, Int.cast_ofNat_Int, gi_c0, gi_c1, gi_c2, gi_c3, Int.natCast_inj, map_int_inj, map_nil_iff, List.cons.injEq, exists_eq_left, exists_eq_left', exists_eq, exists_eq', exists_and_left, exists_and_right, exists_const, and_assoc, and_true, true_and, and_false, false_and, or_false, false_or, or_true, true_or, ite_true, ite_false, if_true, if_false, Bool.false_eq_true, own_cons, own_nil, le1, le2, le3, le4, me_cons, me_nil, List.length_map, List.length_cons, List.length_nil, ne_eq, not_false_eq_true, not_true_eq_false, decide_eq_true_eq]
        exact k H1 r sm er
end
end My
namespace M00
def rt (t b : Int) : Int := if 0 < b then t / (Int.gcd t b : Int) else (-t) / (Int.gcd t b : Int)
/-! ### roots -/
open PySem.Float64
end M00
namespace My
open PySem PySem.Spec PyProof.Rows L2 Pr
/-! ### binomials -/
def rowC : Nat → List Int
  | 0 => [1]
  | n + 1 => List.zipWith (· + ·) (rowC n ++ [0]) (0 :: rowC n)
def ch (n k : Nat) : Int := (rowC n).getD k 0
theorem rowC_len : ∀ n, (rowC n).length = n + 1
  | 0 => rfl
  | n + 1 => by
    show (List.zipWith _ _ _).length = _
    rw [List.length_zipWith, List.length_append, List.length_cons, rowC_len n]
    simp [rowC_len n]
theorem getD_zip {a b : List Int} {k : Nat} (h : a.length = b.length) : (List.zipWith (· + ·) a b).getD k 0 = a.getD k 0 + b.getD k 0 := by
  by_cases hk : k < a.length
  · rw [List.getD_eq_getElem?_getD, List.getD_eq_getElem?_getD, List.getD_eq_getElem?_getD, List.getElem?_eq_getElem (by rw [List.length_zipWith]; omega), List.getElem?_eq_getElem hk, List.getElem?_eq_getElem (by omega)]
    exact List.getElem_zipWith
  · rw [List.getD_eq_getElem?_getD, List.getD_eq_getElem?_getD, List.getD_eq_getElem?_getD, List.getElem?_eq_none (by rw [List.length_zipWith]; omega), List.getElem?_eq_none (by omega), List.getElem?_eq_none (by omega)]
    rfl
theorem getD_snoc0 (a : List Int) (k : Nat) : (a ++ [0]).getD k 0 = a.getD k 0 := by
  rw [List.getD_eq_getElem?_getD, List.getD_eq_getElem?_getD]
  by_cases hk : k < a.length
  · rw [List.getElem?_append_left hk]
  · rw [List.getElem?_append_right (by omega), List.getElem?_eq_none (l := a) (by omega)]
    cases h : k - a.length with
    | zero => rfl
    | succ m => rfl
theorem ch_zero' (n : Nat) : ch n 0 = 1 := by
  induction n with
  | zero => rfl
  | succ n ih =>
    show (List.zipWith (· + ·) (rowC n ++ [0]) (0 :: rowC n)).getD 0 0 = 1
    rw [getD_zip (by simp), getD_snoc0]
    show ch n 0 + 0 = 1
    rw [ih]
    rfl
theorem ch_succ (n k : Nat) : ch (n + 1) (k + 1) = ch n (k + 1) + ch n k := by
  show (List.zipWith (· + ·) (rowC n ++ [0]) (0 :: rowC n)).getD (k + 1) 0 = _
  rw [getD_zip (by simp), getD_snoc0]
  rfl
theorem ch_over {n k : Nat} (h : n < k) : ch n k = 0 := by
  unfold ch
  rw [List.getD_eq_getElem?_getD, List.getElem?_eq_none (by rw [rowC_len]; omega)]
  rfl
/-! ### products with two entries -/
theorem comb_all : ∀ n : Fin 41, ∀ k : Fin 41, k.1 ≤ n.1 → PySem.W.mcComb (n.1 : Int) (k.1 : Int) = ch n.1 k.1 := by decide +kernel
theorem comb_ch {n k : Nat} (hn : n ≤ 40) (hk : k ≤ n) : PySem.W.mcComb (n : Nat) (k : Nat) = ch n k := comb_all ⟨n, by omega⟩ ⟨k, by omega⟩ hk
theorem step_all : ∀ n : Fin 41, ∀ k : Fin 41, k.1 < n.1 → (ch n.1 k.1 * ((n.1 : Int) - (k.1 : Int))) / ((k.1 : Int) + 1) = ch n.1 (k.1 + 1) ∧ 0 ≤ ch n.1 k.1 ∧ ch n.1 k.1 ≤ 2 ^ 40 ∧ 0 ≤ ch n.1 n.1 ∧ ch n.1 n.1 ≤ 2 ^ 40 := by decide +kernel
theorem ch_step {n k : Nat} (hn : n ≤ 40) (hk : k < n) : (ch n k * ((n : Int) - (k : Int))) / ((k : Int) + 1) = ch n (k + 1) := (step_all ⟨n, by omega⟩ ⟨k, by omega⟩ hk).1
theorem ch_bd_all : ∀ n : Fin 41, ∀ k : Fin 41, (ch n.1 k.1).natAbs ≤ 2 ^ 40 := by decide +kernel
theorem ch_bd {n k : Nat} (hn : n ≤ 40) (hk : k ≤ n) : (ch n k).natAbs ≤ 2 ^ 40 := ch_bd_all ⟨n, by omega⟩ ⟨k, by omega⟩
end My
namespace My
open PySem PySem.Spec PyProof.Rows L2 Pr M00
section
variable {P : Program} {w : World} {K : PySem.W.Frag} {mg : Str → Option Value} {base : Heap}
def sp_law_raised : Sp := fun vs H Q _ => ∃ (a : Int) (n : Nat), vs = [.int a, .int (n : Nat)] ∧ a.natAbs ≤ 10 ^ 10 ∧ n ≤ 40 ∧ Q (.int (a ^ n)) H
theorem ok_law_raised (T : Tx K mg) : FnOk P w K mg base CX0 1 T.f_law_raised T.d_law_raised p_law_raised sp_law_raised := by
  refine T.F_law_raised.ok sc_law_raised (fun vs H Q E h => ?_) (fun cdv A outer s H vs Q E hr h => ?_)
  · obtain ⟨a, n, rfl, _⟩ := h
    rfl
  · obtain ⟨a, n, rfl, ha, hn, k⟩ := h
    refine ⟨_, (pss_cons (ps_set (i := 2) sc_law_raised.nd rfl (Or.inl rfl) pe_int)
      (pss_cons (ps_for PassesOwn.never rfl (pi_range1 (by rfl) T.z_range (pa_cons (pv 1) pa_nil)) (pg_name (i := 3) sc_law_raised.nd rfl (by first | exact .inl rfl | exact .inr rfl))
      (pss_one (ps_set (i := 2) sc_law_raised.nd rfl (Or.inl rfl) (pe_op op_mulB (pv 2) (pv 0)))))
      (pss_one (ps_ret (pv 2))))), ?_⟩
    rw [st_law_raised]
    simp only [ap_seq, ap_next, ap_asg, ap_gName, ap_ret, ap_retN, ap_drop, ap_ifS, ap_break, ap_cont, ap_par, ap_aug, ap_ip, ap_gSub, ap_gTup, ap_gNil, ap_gCons, ap_var, ap_c, ap_op, ap_un, ap_if, ap_test, ap_B, ap_and, ap_or, ap_not, ap_andV, ap_orV, ap_notV, ap_nil, ap_cons, ap_tup, ap_lst, ap_cb, ap_bm, ap_call, ap_chain, ap_rI, ap_rI0, ap_rU, ap_rEq, ap_rNe, ap_revT, ap_sl, ap_part, ap_noPart, ap_ixLI, ap_ixTI, ap_ixLV, ap_ixTV, ap_len, ap_setLI, ap_setLV, ap_appI, ap_appV, ap_tupL, ap_listS, ap_sumLI, ap_sumTI, ap_repLI, ap_intI, ap_intB, ap_eqTI, ap_neTI, ap_eqLI, ap_neLI, ap_isi, ap_for, ap_rng1, ap_rng2, ap_iList, ap_iTup, ap_lc, ap_yes, ap_cut, ap_gTupH, ap_fmt, ap_jsn, ap_jsc, ap_gcd, ap_isqrt, ap_ixL, tyV_l, wipe_nil, wipe_cons, upd_same, ap_iEnT, ap_iEnL, ap_iZipA, ap_all, ap_tupT, ap_attF, ap_makeL, ap_att, ap_prop, ap_isO, ap_bin, ap_ne, ap_meth, ap_make, ins_inj, FE_inj, ap_slI, ap_catI, ap_perm, ap_lenO, ap_strO, ap_listO, ap_reprB, ap_iterT, ap_neT, ap_negO, ap_binI, ap_catL, ap_tM1, ap_repTI, ap_popN, ap_par3, ap_catTT, ap_repTA, ap_countT, ap_notInT, ap_repL1, ap_cm, ap_shl, ap_shr, ap_mask, ap_comb, ap_bits, ap_rng3, List.set_cons_zero, List.set_cons_succ, List.getElem?_cons_zero, List.getElem?_cons_succ, List.cons_append, List.nil_append, List.append_nil, Option.some.injEq, V.int.injEq, V.ref.injEq, V.bl.injEq, V.str.injEq, V.ty.injEq, Bool.not_true, Bool.not_false, HO.lst.injEq, HO.tup.injEq, reduceCtorEq, Int.reduceToNat, Int.reduceLT, Int.reduceLE, Nat.reduceAdd, Int.cast_ofNat_Int, gi_c0, gi_c1, gi_c2, gi_c3, Int.natCast_inj, map_int_inj, map_nil_iff, List.cons.injEq, exists_eq_left, exists_eq_left', exists_eq, exists_eq', exists_and_left, exists_and_right, exists_const, and_assoc, and_true, true_and, and_false, false_and, or_false, false_or, or_true, true_or, ite_true, ite_false, if_true, if_false, Bool.false_eq_true, own_cons, own_nil, le1, le2, le3, le4, me_cons, me_nil, List.length_map, List.length_cons, List.length_nil, ne_eq, not_false_eq_true, not_true_eq_false, decide_eq_true_eq]
    refine ⟨by omega, by omega, ?_⟩
    rw [Int.toNat_natCast]
    refine loop_range (fun i σ' H' => (∃ y, σ' = [some (.int a), some (.int (n : Nat)), some (.int (a ^ i)), y]) ∧ H' = H) ⟨⟨none, by rw [Int.pow_zero]⟩, rfl⟩ (fun i σ' H1 hi hP => ?_) (fun σ' H1 hP => ?_)
    · obtain ⟨⟨y, e⟩, rfl⟩ := hP
      subst e
      have b1 := big_of' (Nat.lt_of_le_of_lt (abs_pow a ha i) (Nat.lt_of_le_of_lt (Nat.pow_le_pow_right (by decide) (show i ≤ 40 by omega)) (by decide +kernel)))
      have b2 := big_of' (Nat.lt_of_le_of_lt ha (show 10 ^ 10 < 2 ^ 4000 by decide +kernel))
      simp only [ap_seq, ap_next, ap_asg, ap_gName, ap_ret, ap_retN, ap_drop, ap_ifS, ap_break, ap_cont, ap_par, ap_aug, ap_ip, ap_gSub, ap_gTup, ap_gNil, ap_gCons, ap_var, ap_c, ap_op, ap_un, ap_if, ap_test, ap_B, ap_and, ap_or, ap_not, ap_andV, ap_orV, ap_notV, ap_nil, ap_cons, ap_tup, ap_lst, ap_cb, ap_bm, ap_call, ap_chain, ap_rI, ap_rI0, ap_rU, ap_rEq, ap_rNe, ap_revT, ap_sl, ap_part, ap_noPart, ap_ixLI, ap_ixTI, ap_ixLV, ap_ixTV, ap_len, ap_setLI, ap_setLV, ap_appI, ap_appV, ap_tupL, ap_listS, ap_sumLI, ap_sumTI, ap_repLI, ap_intI, ap_intB, ap_eqTI, ap_neTI, ap_eqLI, ap_neLI, ap_isi, ap_for, ap_rng1, ap_rng2, ap_iList, ap_iTup, ap_lc, ap_yes, ap_cut, ap_gTupH, ap_fmt, ap_jsn, ap_jsc, ap_gcd, ap_isqrt, ap_ixL, tyV_l, wipe_nil, wipe_cons, upd_same, ap_iEnT, ap_iEnL, ap_iZipA, ap_all, ap_tupT, ap_attF, ap_makeL, ap_att, ap_prop, ap_isO, ap_bin, ap_ne, ap_meth, ap_make, ins_inj, FE_inj, ap_slI, ap_catI, ap_perm, ap_lenO, ap_strO, ap_listO, ap_reprB, ap_iterT, ap_neT, ap_negO, ap_binI, ap_catL, ap_tM1, ap_repTI, ap_popN, ap_par3, ap_catTT, ap_repTA, ap_countT, ap_notInT, ap_repL1, ap_cm, ap_shl, ap_shr, ap_mask, ap_comb, ap_bits, ap_rng3, List.set_cons_zero, List.set_cons_succ, List.getElem?_cons_zero, List.getElem?_cons_succ, List.cons_append, List.nil_append, List.append_nil, Option.some.injEq, V.int.injEq, V.ref.injEq, V.bl.injEq, V.str.injEq, V.ty.injEq, Bool.not_true, Bool.not_false, HO.lst.injEq, HO.tup.injEq, reduceCtorEq, Int.reduceToNat, Int.reduceLT, Int.reduceLE, Nat.reduceAdd, Int.cast_ofNat_Int, gi_c0, gi_c1, gi_c2, gi_c3, Int.natCast_inj, map_int_inj, map_nil_iff, List.cons.injEq, exists_eq_left, exists_eq_left', exists_eq, exists_eq', exists_and_left, exists_and_right, exists_const, and_assoc, and_true, true_and, and_false, false_and, or_false, false_or, or_true, true_or, ite_true, ite_false, if_true, if_false, Bool.false_eq_true, own_cons, own_nil, le1, le2, le3, le4, me_cons, me_nil, List.length_map, List.length_cons, List.length_nil, ne_eq, not_false_eq_true, not_true_eq_false, decide_eq_true_eq, CMu]
      exact ⟨b1.1, b1.2, b2.1, b2.2, by rw [Int.pow_succ]⟩
    · obtain ⟨⟨y, e⟩, rfl⟩ := hP
      subst e
      simp only [ap_seq, ap_next, ap_asg, ap_gName, ap_ret, ap_retN, ap_drop, ap_ifS, ap_break, ap_cont, ap_par, ap_aug, ap_ip, ap_gSub, ap_gTup, ap_gNil, ap_gCons, ap_var, ap_c, ap_op, ap_un, ap_if, ap_test, ap_B, ap_and, ap_or, ap_not, ap_andV, ap_orV, ap_notV, ap_nil, ap_cons, ap_tup, ap_lst, ap_cb, ap_bm, ap_call, ap_chain, ap_rI, ap_rI0, ap_rU, ap_rEq, ap_rNe, ap_revT, ap_sl, ap_part, ap_noPart, ap_ixLI, ap_ixTI, ap_ixLV, ap_ixTV, ap_len, ap_setLI, ap_setLV, ap_appI, ap_appV, ap_tupL, ap_listS, ap_sumLI, ap_sumTI, ap_repLI, ap_intI, ap_intB, ap_eqTI, ap_neTI, ap_eqLI, ap_neLI, ap_isi, ap_for, ap_rng1, ap_rng2, ap_iList, ap_iTup, ap_lc, ap_yes, ap_cut, ap_gTupH, ap_fmt, ap_jsn, ap_jsc, ap_gcd, ap_isqrt, ap_ixL, tyV_l, wipe_nil, wipe_cons, upd_same, ap_iEnT, ap_iEnL, ap_iZipA, ap_all, ap_tupT, ap_attF, ap_makeL, ap_att, ap_prop, ap_isO, ap_bin, ap_ne, ap_meth, ap_make, ins_inj, FE_inj, ap_slI, ap_catI, ap_perm, ap_lenO, ap_strO, ap_listO, ap_reprB, ap_iterT, ap_neT, ap_negO, ap_binI, ap_catL, ap_tM1, ap_repTI, ap_popN, ap_par3, ap_catTT, ap_repTA, ap_countT, ap_notInT, ap_repL1, ap_cm, ap_shl, ap_shr, ap_mask, ap_comb, ap_bits, ap_rng3, List.set_cons_zero, List.set_cons_succ, List.getElem?_cons_zero, List.getElem?_cons_succ, List.cons_append, List.nil_append, List.append_nil, Option.some.injEq, V.int.injEq, V.ref.injEq, V.bl.injEq, V.str.injEq, V.ty.injEq, Bool.not_true, Bool.not_false, HO.lst.injEq, HO.tup.injEq, reduceCtorEq, Int.reduceToNat, Int.reduceLT, Int.reduceLE, Nat.reduceAdd, Int.cast_ofNat_Int, gi_c0, gi_c1, gi_c2, gi_c3, Int.natCast_inj, map_int_inj, map_nil_iff, List.cons.injEq, exists_eq_left, exists_eq_left', exists_eq, exists_eq', exists_and_left, exists_and_right, exists_const, and_assoc, and_true, true_and, and_false, false_and, or_false, false_or, or_true, true_or, ite_true, ite_false, if_true, if_false, Bool.false_eq_true, own_cons, own_nil, le1, le2, le3, le4, me_cons, me_nil, List.length_map, List.length_cons, List.length_nil, ne_eq, not_false_eq_true, not_true_eq_false, decide_eq_true_eq]
      exact k
def sp_law_choose : Sp := fun vs H Q _ => ∃ (n k : Nat), vs = [.int (n : Nat), .int (k : Nat)] ∧ n ≤ 40 ∧ k ≤ n ∧ Q (.int (ch n k)) H
theorem ok_law_choose (T : Tx K mg) : FnOk P w K mg base CX0 1 T.f_law_choose T.d_law_choose p_law_choose sp_law_choose := by
  refine T.F_law_choose.ok sc_law_choose (fun vs H Q E h => ?_) (fun cdv A outer s H vs Q E hr h => ?_)
  · obtain ⟨n, k, rfl, _⟩ := h
    rfl
  · obtain ⟨n, k, rfl, hn, hk, q⟩ := h
    refine ⟨_, (pss_cons (ps_set (i := 2) sc_law_choose.nd rfl (Or.inl rfl) pe_int)
      (pss_cons (ps_for PassesOwn.never rfl (pi_range1 (by rfl) T.z_range (pa_cons (pv 1) pa_nil)) (pg_name (i := 3) sc_law_choose.nd rfl (by first | exact .inl rfl | exact .inr rfl))
      (pss_one (ps_set (i := 2) sc_law_choose.nd rfl (Or.inl rfl) (pe_op op_fdivP (pe_op op_mulB (pv 2) (pe_op op_sub (pv 0) (pv 3))) (pe_op op_add (pv 3) pe_int)))))
      (pss_one (ps_ret (pv 2))))), ?_⟩
    rw [st_law_choose]
    simp only [ap_seq, ap_next, ap_asg, ap_gName, ap_ret, ap_retN, ap_drop, ap_ifS, ap_break, ap_cont, ap_par, ap_aug, ap_ip, ap_gSub, ap_gTup, ap_gNil, ap_gCons, ap_var, ap_c, ap_op, ap_un, ap_if, ap_test, ap_B, ap_and, ap_or, ap_not, ap_andV, ap_orV, ap_notV, ap_nil, ap_cons, ap_tup, ap_lst, ap_cb, ap_bm, ap_call, ap_chain, ap_rI, ap_rI0, ap_rU, ap_rEq, ap_rNe, ap_revT, ap_sl, ap_part, ap_noPart, ap_ixLI, ap_ixTI, ap_ixLV, ap_ixTV, ap_len, ap_setLI, ap_setLV, ap_appI, ap_appV, ap_tupL, ap_listS, ap_sumLI, ap_sumTI, ap_repLI, ap_intI, ap_intB, ap_eqTI, ap_neTI, ap_eqLI, ap_neLI, ap_isi, ap_for, ap_rng1, ap_rng2, ap_iList, ap_iTup, ap_lc, ap_yes, ap_cut, ap_gTupH, ap_fmt, ap_jsn, ap_jsc, ap_gcd, ap_isqrt, ap_ixL, tyV_l, wipe_nil, wipe_cons, upd_same, ap_iEnT, ap_iEnL, ap_iZipA, ap_all, ap_tupT, ap_attF, ap_makeL, ap_att, ap_prop, ap_isO, ap_bin, ap_ne, ap_meth, ap_make, ins_inj, FE_inj, ap_slI, ap_catI, ap_perm, ap_lenO, ap_strO, ap_listO, ap_reprB, ap_iterT, ap_neT, ap_negO, ap_binI, ap_catL, ap_tM1, ap_repTI, ap_popN, ap_par3, ap_catTT, ap_repTA, ap_countT, ap_notInT, ap_repL1, ap_cm, ap_shl, ap_shr, ap_mask, ap_comb, ap_bits, ap_rng3, List.set_cons_zero, List.set_cons_succ, List.getElem?_cons_zero, List.getElem?_cons_succ, List.cons_append, List.nil_append, List.append_nil, Option.some.injEq, V.int.injEq, V.ref.injEq, V.bl.injEq, V.str.injEq, V.ty.injEq, Bool.not_true, Bool.not_false, HO.lst.injEq, HO.tup.injEq, reduceCtorEq, Int.reduceToNat, Int.reduceLT, Int.reduceLE, Nat.reduceAdd, Int.cast_ofNat_Int, gi_c0, gi_c1, gi_c2, gi_c3, Int.natCast_inj, map_int_inj, map_nil_iff, List.cons.injEq, exists_eq_left, exists_eq_left', exists_eq, exists_eq', exists_and_left, exists_and_right, exists_const, and_assoc, and_true, true_and, and_false, false_and, or_false, false_or, or_true, true_or, ite_true, ite_false, if_true, if_false, Bool.false_eq_true, own_cons, own_nil, le1, le2, le3, le4, me_cons, me_nil, List.length_map, List.length_cons, List.length_nil, ne_eq, not_false_eq_true, not_true_eq_false, decide_eq_true_eq]
    refine ⟨by omega, by omega, ?_⟩
    rw [Int.toNat_natCast]
    refine loop_range (fun i σ' H' => (∃ y, σ' = [some (.int (n : Nat)), some (.int (k : Nat)), some (.int (ch n i)), y]) ∧ H' = H) ⟨⟨none, by rw [ch_zero']⟩, rfl⟩ (fun i σ' H1 hi hP => ?_) (fun σ' H1 hP => ?_)
    · obtain ⟨⟨y, e⟩, rfl⟩ := hP
      subst e
      simp only [ap_seq, ap_next, ap_asg, ap_gName, ap_ret, ap_retN, ap_drop, ap_ifS, ap_break, ap_cont, ap_par, ap_aug, ap_ip, ap_gSub, ap_gTup, ap_gNil, ap_gCons, ap_var, ap_c, ap_op, ap_un, ap_if, ap_test, ap_B, ap_and, ap_or, ap_not, ap_andV, ap_orV, ap_notV, ap_nil, ap_cons, ap_tup, ap_lst, ap_cb, ap_bm, ap_call, ap_chain, ap_rI, ap_rI0, ap_rU, ap_rEq, ap_rNe, ap_revT, ap_sl, ap_part, ap_noPart, ap_ixLI, ap_ixTI, ap_ixLV, ap_ixTV, ap_len, ap_setLI, ap_setLV, ap_appI, ap_appV, ap_tupL, ap_listS, ap_sumLI, ap_sumTI, ap_repLI, ap_intI, ap_intB, ap_eqTI, ap_neTI, ap_eqLI, ap_neLI, ap_isi, ap_for, ap_rng1, ap_rng2, ap_iList, ap_iTup, ap_lc, ap_yes, ap_cut, ap_gTupH, ap_fmt, ap_jsn, ap_jsc, ap_gcd, ap_isqrt, ap_ixL, tyV_l, wipe_nil, wipe_cons, upd_same, ap_iEnT, ap_iEnL, ap_iZipA, ap_all, ap_tupT, ap_attF, ap_makeL, ap_att, ap_prop, ap_isO, ap_bin, ap_ne, ap_meth, ap_make, ins_inj, FE_inj, ap_slI, ap_catI, ap_perm, ap_lenO, ap_strO, ap_listO, ap_reprB, ap_iterT, ap_neT, ap_negO, ap_binI, ap_catL, ap_tM1, ap_repTI, ap_popN, ap_par3, ap_catTT, ap_repTA, ap_countT, ap_notInT, ap_repL1, ap_cm, ap_shl, ap_shr, ap_mask, ap_comb, ap_bits, ap_rng3, List.set_cons_zero, List.set_cons_succ, List.getElem?_cons_zero, List.getElem?_cons_succ, List.cons_append, List.nil_append, List.append_nil, Option.some.injEq, V.int.injEq, V.ref.injEq, V.bl.injEq, V.str.injEq, V.ty.injEq, Bool.not_true, Bool.not_false, HO.lst.injEq, HO.tup.injEq, reduceCtorEq, Int.reduceToNat, Int.reduceLT, Int.reduceLE, Nat.reduceAdd, Int.cast_ofNat_Int, gi_c0, gi_c1, gi_c2, gi_c3, Int.natCast_inj, map_int_inj, map_nil_iff, List.cons.injEq, exists_eq_left, exists_eq_left', exists_eq, exists_eq', exists_and_left, exists_and_right, exists_const, and_assoc, and_true, true_and, and_false, false_and, or_false, false_or, or_true, true_or, ite_true, ite_false, if_true, if_false, Bool.false_eq_true, own_cons, own_nil, le1, le2, le3, le4, me_cons, me_nil, List.length_map, List.length_cons, List.length_nil, ne_eq, not_false_eq_true, not_true_eq_false, decide_eq_true_eq, CMu, CFd, Int.zero_add]
      have hc := ch_bd (n := n) (k := i) hn (by omega)
      have b1 := big_of' (Nat.lt_of_le_of_lt hc (show 2 ^ 40 < 2 ^ 4000 by decide +kernel))
      have b2 := big_of' (i := (n : Int) - (i : Nat)) (Nat.lt_of_le_of_lt (show _ ≤ 40 by omega) (by decide +kernel))
      refine ⟨b1.1, b1.2, b2.1, b2.2, ?_, ch_step hn (by omega)⟩
      unfold CDp
      exact ⟨by omega, by omega⟩
    · obtain ⟨⟨y, e⟩, rfl⟩ := hP
      subst e
      simp only [ap_seq, ap_next, ap_asg, ap_gName, ap_ret, ap_retN, ap_drop, ap_ifS, ap_break, ap_cont, ap_par, ap_aug, ap_ip, ap_gSub, ap_gTup, ap_gNil, ap_gCons, ap_var, ap_c, ap_op, ap_un, ap_if, ap_test, ap_B, ap_and, ap_or, ap_not, ap_andV, ap_orV, ap_notV, ap_nil, ap_cons, ap_tup, ap_lst, ap_cb, ap_bm, ap_call, ap_chain, ap_rI, ap_rI0, ap_rU, ap_rEq, ap_rNe, ap_revT, ap_sl, ap_part, ap_noPart, ap_ixLI, ap_ixTI, ap_ixLV, ap_ixTV, ap_len, ap_setLI, ap_setLV, ap_appI, ap_appV, ap_tupL, ap_listS, ap_sumLI, ap_sumTI, ap_repLI, ap_intI, ap_intB, ap_eqTI, ap_neTI, ap_eqLI, ap_neLI, ap_isi, ap_for, ap_rng1, ap_rng2, ap_iList, ap_iTup, ap_lc, ap_yes, ap_cut, ap_gTupH, ap_fmt, ap_jsn, ap_jsc, ap_gcd, ap_isqrt, ap_ixL, tyV_l, wipe_nil, wipe_cons, upd_same, ap_iEnT, ap_iEnL, ap_iZipA, ap_all, ap_tupT, ap_attF, ap_makeL, ap_att, ap_prop, ap_isO, ap_bin, ap_ne, ap_meth, ap_make, ins_inj, FE_inj, ap_slI, ap_catI, ap_perm, ap_lenO, ap_strO, ap_listO, ap_reprB, ap_iterT, ap_neT, ap_negO, ap_binI, ap_catL, ap_tM1, ap_repTI, ap_popN, ap_par3, ap_catTT, ap_repTA, ap_countT, ap_notInT, ap_repL1, ap_cm, ap_shl, ap_shr, ap_mask, ap_comb, ap_bits, ap_rng3, List.set_cons_zero, List.set_cons_succ, List.getElem?_cons_zero, List.getElem?_cons_succ, List.cons_append, List.nil_append, List.append_nil, Option.some.injEq, V.int.injEq, V.ref.injEq, V.bl.injEq, V.str.injEq, V.ty.injEq, Bool.not_true, Bool.not_false, HO.lst.injEq, HO.tup.injEq, reduceCtorEq, Int.reduceToNat, Int.reduceLT, Int.reduceLE, Nat.reduceAdd, Int.cast_ofNat_Int, gi_c0, gi_c1, gi_c2, gi_c3, Int.natCast_inj, map_int_inj, map_nil_iff, List.cons.injEq, exists_eq_left, exists_eq_left', exists_eq, exists_eq', exists_and_left, exists_and_right, exists_const, and_assoc, and_true, true_and, and_false, false_and, or_false, false_or, or_true, true_or, ite_true, ite_false, if_true, if_false, Bool.false_eq_true, own_cons, own_nil, le1, le2, le3, le4, me_cons, me_nil, List.length_map, List.length_cons, List.length_nil, ne_eq, not_false_eq_true, not_true_eq_false, decide_eq_true_eq]
      exact q
end
end My
namespace My
open PySem PySem.Spec PyProof.Rows L2 Pr
/-! ### the mathematics -/
theorem Tb.sm {m : Int} {a b c d : Int} (t : Tb m a b c d) (h : m < 10 ^ 60) : Sm a ∧ Sm b ∧ Sm c ∧ Sm d := by
  have := t.a
  have := t.b
  have := t.c
  have := t.d
  unfold Sm
  omega
theorem ap_par3 {i j l : Nat} {ta : TA} {D : Ends} {σ : L2.St} {H : Hp} : tPar3 i j l ta D σ H = ta σ H fun vs H1 => ∃ u v w, vs = [u, v, w] ∧ D.nx (((σ.set i (some u)).set j (some v)).set l (some w)) H1 := rfl
theorem sm_small {ns : List Int} (h : ns.all (fun n => decide (-100 ≤ n ∧ n ≤ 100)) = true) : ∀ n ∈ ns, Sm n := fun n hn => by
  have := List.all_eq_true.mp h n hn
  have := of_decide_eq_true this
  unfold Sm
  omega
theorem derP_zip {es fs : List Int} (h : es.length = fs.length) (i j : Nat) : derP (List.zipWith (· + ·) es fs) i j = List.zipWith (· + ·) (derP es i j) (derP fs i j) := by
  have lz : (List.zipWith (· + ·) es fs).length = es.length := by rw [List.length_zipWith]; omega
  refine List.ext_getElem (by simp only [derP_len, List.length_zipWith]; omega) fun u h1 h2 => ?_
  have hu : u < es.length - i - j := by rw [derP_len, lz] at h1; exact h1
  have e1 := derP_get (es := List.zipWith (· + ·) es fs) (i := i) (j := j) (u := u) (by rw [lz]; exact hu)
  have e2 := derP_get (es := es) (i := i) (j := j) (u := u) hu
  have e3 := derP_get (es := fs) (i := i) (j := j) (u := u) (by rw [← h]; exact hu)
  rw [List.getD_eq_getElem?_getD, List.getElem?_eq_getElem h1] at e1
  rw [List.getD_eq_getElem?_getD, List.getElem?_eq_getElem (by rw [derP_len]; exact hu)] at e2
  rw [List.getD_eq_getElem?_getD, List.getElem?_eq_getElem (by rw [derP_len]; omega)] at e3
  have e1' : (derP (List.zipWith (· + ·) es fs) i j)[u] = _ := e1
  have e2' : (derP es i j)[u]'(by rw [derP_len]; exact hu) = _ := e2
  have e3' : (derP fs i j)[u]'(by rw [derP_len]; omega) = _ := e3
  rw [List.getElem_zipWith, e1', e2', e3', lz, ← h]
  have g : (List.zipWith (· + ·) es fs).getD (j + u) 0 = es.getD (j + u) 0 + fs.getD (j + u) 0 := by
    rw [List.getD_eq_getElem?_getD, List.getD_eq_getElem?_getD, List.getD_eq_getElem?_getD, List.getElem?_eq_getElem (by rw [lz]; omega), List.getElem?_eq_getElem (by omega), List.getElem?_eq_getElem (by omega)]
    exact List.getElem_zipWith
  rw [g, Int.add_mul, Int.add_mul]
theorem der_x (c : Int) (cs : List Int) (h : 0 < cs.length) : derP (c :: cs) 1 0 = (c * (cs.length : Nat)) :: derP cs 1 0 := by
  have l1 : (derP (c :: cs) 1 0).length = cs.length := by rw [derP_len, List.length_cons]; omega
  have l2 : (derP cs 1 0).length = cs.length - 1 := derP_len ..
  refine List.ext_getElem? fun u => ?_
  by_cases hu : u < cs.length
  · have e1 := derP_get (es := c :: cs) (i := 1) (j := 0) (u := u) (by rw [List.length_cons]; omega)
    rw [List.getD_eq_getElem?_getD, List.getElem?_eq_getElem (by omega)] at e1
    have e1' : (derP (c :: cs) 1 0)[u]'(by omega) = _ := e1
    rw [List.getElem?_eq_getElem (by omega), e1', List.length_cons]
    have f0 : fall (0 + u) 0 = 1 := rfl
    have f1 : fall (cs.length + 1 - 1 - (0 + u)) 1 = cs.length - u := by show 1 * (cs.length + 1 - 1 - (0 + u) - 0) = _; omega
    rw [f0, f1, Nat.zero_add]
    cases u with
    | zero =>
      show some (c * ((cs.length - 0 : Nat) : Int) * ((1 : Nat) : Int)) = some (c * (cs.length : Nat))
      rw [Nat.sub_zero, show ((1 : Nat) : Int) = 1 from rfl, Int.mul_one]
    | succ v =>
      have e2 := derP_get (es := cs) (i := 1) (j := 0) (u := v) (by omega)
      rw [List.getD_eq_getElem?_getD, List.getElem?_eq_getElem (by omega)] at e2
      have e2' : (derP cs 1 0)[v]'(by omega) = _ := e2
      have f2 : fall (cs.length - 1 - (0 + v)) 1 = cs.length - (v + 1) := by show 1 * (cs.length - 1 - (0 + v) - 0) = _; omega
      rw [List.getElem?_cons_succ, List.getElem?_eq_getElem (by omega), e2', f2, Nat.zero_add]
      rfl
  · rw [List.getElem?_eq_none (by omega), List.getElem?_eq_none (by rw [List.length_cons]; omega)]
theorem der_y (c : Int) (cs : List Int) (h : 0 < cs.length) : derP (c :: cs) 0 1 = List.zipWith (· + ·) cs (0 :: derP cs 0 1) := by
  have l1 : (derP (c :: cs) 0 1).length = cs.length := by rw [derP_len, List.length_cons]; omega
  have l2 : (derP cs 0 1).length = cs.length - 1 := by rw [derP_len]; omega
  refine List.ext_getElem (by rw [l1, List.length_zipWith, List.length_cons, l2]; omega) fun u h1 h2 => ?_
  rw [l1] at h1
  have e1 := derP_get (es := c :: cs) (i := 0) (j := 1) (u := u) (by rw [List.length_cons]; omega)
  rw [List.getD_eq_getElem?_getD, List.getElem?_eq_getElem (by omega)] at e1
  have e1' : (derP (c :: cs) 0 1)[u]'(by omega) = _ := e1
  have f0 : ∀ m, fall m 0 = 1 := fun _ => rfl
  have f1 : fall (1 + u) 1 = 1 + u := by show 1 * (1 + u - 0) = _; omega
  have g : (c :: cs).getD (1 + u) 0 = cs[u] := by
    rw [List.getD_eq_getElem?_getD, Nat.add_comm, List.getElem?_cons_succ, List.getElem?_eq_getElem h1]
    rfl
  rw [List.getElem_zipWith, e1', f0, f1, g]
  cases u with
  | zero =>
    show cs[0] * ((1 : Nat) : Int) * ((1 + 0 : Nat) : Int) = cs[0] + 0
    omega
  | succ v =>
    have e2 := derP_get (es := cs) (i := 0) (j := 1) (u := v) (by omega)
    rw [List.getD_eq_getElem?_getD, List.getElem?_eq_getElem (by omega)] at e2
    have e2' : (derP cs 0 1)[v]'(by omega) = _ := e2
    have f2 : fall (1 + v) 1 = 1 + v := by show 1 * (1 + v - 0) = _; omega
    have g2 : cs.getD (1 + v) 0 = cs[v + 1] := by
      rw [List.getD_eq_getElem?_getD, Nat.add_comm, List.getElem?_eq_getElem h1]
      rfl
    rw [List.getElem_cons_succ, e2', f0, f2, g2]
    show cs[v + 1] * ((1 : Nat) : Int) * ((1 + (v + 1) : Nat) : Int) = cs[v + 1] + cs[v + 1] * ((1 : Nat) : Int) * ((1 + v : Nat) : Int)
    rw [show ((1 : Nat) : Int) = 1 from rfl, Int.mul_one, show ((1 + (v + 1) : Nat) : Int) = 1 + ((1 + v : Nat) : Int) by omega, Int.mul_add, Int.mul_one]
end My
namespace My
open PySem PySem.Spec PyProof.Rows L2 Pr M00
theorem fall_add (m i : Nat) : ∀ p, fall m (i + p) = fall m i * fall (m - i) p
  | 0 => by show fall m i = fall m i * 1; omega
  | p + 1 => by
    show fall m (i + p) * (m - (i + p)) = fall m i * (fall (m - i) p * (m - i - p))
    rw [fall_add m i p, Nat.mul_assoc, Nat.sub_sub]
theorem derP_derP (es : List Int) (i j p q : Nat) (h : i + j + p + q + 1 ≤ es.length) : derP (derP es i j) p q = derP es (i + p) (j + q) := by
  refine List.ext_getElem (by rw [derP_len, derP_len, derP_len]; omega) fun u h1 h2 => ?_
  have l2 : u < es.length - (i + p) - (j + q) := by rw [derP_len] at h2; exact h2
  have e1 := derP_get (es := derP es i j) (i := p) (j := q) (u := u) (by rw [derP_len]; omega)
  have e2 := derP_get (es := es) (i := i + p) (j := j + q) (u := u) l2
  have e3 := derP_get (es := es) (i := i) (j := j) (u := q + u) (by omega)
  rw [List.getD_eq_getElem?_getD, List.getElem?_eq_getElem h1] at e1
  rw [List.getD_eq_getElem?_getD, List.getElem?_eq_getElem h2] at e2
  have e1' : (derP (derP es i j) p q)[u] = _ := e1
  have e2' : (derP es (i + p) (j + q))[u] = _ := e2
  rw [e1', e2', e3, derP_len]
  have a1 : j + (q + u) = j + q + u := by omega
  rw [a1, fall_add (es.length - 1 - (j + q + u)) i p, fall_add (j + q + u) j q]
  have a2 : es.length - i - j - 1 - (q + u) = es.length - 1 - (j + q + u) - i := by omega
  have a3 : j + q + u - j = q + u := by omega
  rw [a2, a3, Int.natCast_mul, Int.natCast_mul]
  generalize es.getD (j + q + u) 0 = c
  generalize ((fall (es.length - 1 - (j + q + u)) i : Nat) : Int) = f1
  generalize ((fall (j + q + u) j : Nat) : Int) = f2
  generalize ((fall (es.length - 1 - (j + q + u) - i) p : Nat) : Int) = f3
  generalize ((fall (q + u) q : Nat) : Int) = f4
  grind
theorem derP_sc (c : Int) (es : List Int) (i j : Nat) : derP (es.map (c * ·)) i j = (derP es i j).map (c * ·) := by
  refine List.ext_getElem (by simp [derP_len]) fun u h1 h2 => ?_
  have hu : u < es.length - i - j := by rw [derP_len, List.length_map] at h1; exact h1
  have e1 := derP_get (es := es.map (c * ·)) (i := i) (j := j) (u := u) (by rw [List.length_map]; exact hu)
  have e2 := derP_get (es := es) (i := i) (j := j) (u := u) hu
  rw [List.getD_eq_getElem?_getD, List.getElem?_eq_getElem h1] at e1
  rw [List.getD_eq_getElem?_getD, List.getElem?_eq_getElem (by rw [derP_len]; exact hu)] at e2
  have e1' : (derP (es.map (c * ·)) i j)[u] = _ := e1
  have e2' : (derP es i j)[u]'(by rw [derP_len]; exact hu) = _ := e2
  rw [List.getElem_map, e1', e2', List.length_map]
  have g : (es.map (c * ·)).getD (j + u) 0 = c * es.getD (j + u) 0 := by
    rw [List.getD_eq_getElem?_getD, List.getD_eq_getElem?_getD, List.getElem?_map, List.getElem?_eq_getElem (by omega)]
    rfl
  rw [g, Int.mul_assoc, Int.mul_assoc, Int.mul_assoc]
abbrev dX (es : List Int) : List Int := derP es 1 0
abbrev dY (es : List Int) : List Int := derP es 0 1
abbrev pl (a b : List Int) : List Int := List.zipWith (· + ·) a b
abbrev sc (c : Int) (a : List Int) : List Int := a.map (c * ·)
theorem dX_len (es : List Int) : (dX es).length = es.length - 1 := derP_len es 1 0
theorem dY_len (es : List Int) : (dY es).length = es.length - 1 := by rw [derP_len]; omega
theorem pl_len {a b : List Int} (h : a.length = b.length) : (pl a b).length = a.length := by rw [List.length_zipWith, h, Nat.min_self]
theorem sc_len (c : Int) (a : List Int) : (sc c a).length = a.length := List.length_map ..
/-! ### a form near a place -/
theorem pow_near (x u t : Int) : ∀ m : Nat, ∃ R : Int, (x + t * u) ^ (m + 1) = x ^ (m + 1) + t * (u * (((m + 1 : Nat) : Int) * x ^ m)) + t * t * R
  | 0 => ⟨0, by
    rw [Int.pow_succ, Int.pow_zero, Int.pow_succ, Int.pow_zero]
    show 1 * (x + t * u) = 1 * x + t * (u * (1 * 1)) + t * t * 0
    grind⟩
  | m + 1 => by
    obtain ⟨R, h⟩ := pow_near x u t m
    refine ⟨R * x + u * u * (((m + 1 : Nat) : Int) * x ^ m) + t * R * u, ?_⟩
    rw [Int.pow_succ, h, Int.pow_succ x (m + 1), Int.pow_succ x m]
    have e : ((m + 1 + 1 : Nat) : Int) = ((m + 1 : Nat) : Int) + 1 := by omega
    rw [e]
    generalize x ^ m = p
    generalize ((m + 1 : Nat) : Int) = k
    grind
/-- the form near a place -/
theorem val_near (x y u v t : Int) : ∀ es : List Int, ∃ R : Int, val es (x + t * u) (y + t * v) = val es x y + t * (u * val (dX es) x y + v * val (dY es) x y) + t * t * R
  | [] => ⟨0, by
    show (0 : Int) = 0 + t * (u * 0 + v * 0) + t * t * 0
    grind⟩
  | [c] => ⟨0, by
    have h1 : dX [c] = [] := rfl
    have h2 : dY [c] = [] := rfl
    rw [h1, h2, val_cons, val_cons, val_nil, val_nil, List.length_nil, Int.pow_zero, Int.pow_zero]
    grind⟩
  | c :: e :: cs => by
    obtain ⟨R, h⟩ := val_near x y u v t (e :: cs)
    obtain ⟨R2, h2⟩ := pow_near x u t cs.length
    refine ⟨c * R2 + y * R + v * (u * val (dX (e :: cs)) x y + v * val (dY (e :: cs)) x y) + t * v * R, ?_⟩
    rw [val_cons, h]
    show c * (x + t * u) ^ (cs.length + 1) + _ = _
    rw [h2]
    have v1 : val (c :: e :: cs) x y = c * x ^ (cs.length + 1) + y * val (e :: cs) x y := rfl
    have v2 : val (dX (c :: e :: cs)) x y = c * ((cs.length + 1 : Nat) : Int) * x ^ cs.length + y * val (dX (e :: cs)) x y := by
      show val (derP (c :: e :: cs) 1 0) x y = _
      rw [der_x c (e :: cs) (by simp), val_cons (c * ((e :: cs).length : Nat)), derP_len]
      have e1 : (e :: cs).length - 1 - 0 = cs.length := by simp
      rw [e1]
      rfl
    have v3 : val (dY (c :: e :: cs)) x y = val (e :: cs) x y + y * val (dY (e :: cs)) x y := by
      show val (derP (c :: e :: cs) 0 1) x y = _
      rw [der_y c (e :: cs) (by simp), val_zip _ _ _ _ (by rw [List.length_cons, List.length_cons, derP_len, List.length_cons]; omega), val_cons 0, Int.zero_mul, Int.zero_add]
    rw [v1, v2, v3]
    generalize val (e :: cs) x y = w
    generalize val (dX (e :: cs)) x y = p
    generalize val (dY (e :: cs)) x y = q
    generalize x ^ (cs.length + 1) = z
    generalize x ^ cs.length = z2
    generalize ((cs.length + 1 : Nat) : Int) = k
    grind
/-- what stands at t is told by the values -/
theorem near_one {F : Int → Int} {A B A' B' : Int} (h : ∀ t, ∃ R, F t = A + t * B + t * t * R) (h' : ∀ t, ∃ R, F t = A' + t * B' + t * t * R) : B = B' := by
  have e0 : A = A' := by
    obtain ⟨R, e⟩ := h 0
    obtain ⟨R', e'⟩ := h' 0
    grind
  have e1 := h ((B - B').natAbs + 1 : Nat)
  have e2 := h' ((B - B').natAbs + 1 : Nat)
  obtain ⟨R, e1⟩ := e1
  obtain ⟨R', e2⟩ := e2
  generalize ht : (((B - B').natAbs + 1 : Nat) : Int) = t at e1 e2
  have t0 : t ≠ 0 := by omega
  have e3 : t * (B - B' + t * (R - R')) = 0 := by grind
  have e4 : B - B' + t * (R - R') = 0 := (Int.mul_eq_zero.mp e3).resolve_left t0
  have d : t ∣ B - B' := ⟨R' - R, by grind⟩
  have := Int.eq_zero_of_dvd_of_natAbs_lt_natAbs d (by omega)
  omega
/-- rows with the same values near all places have the same derived values -/
theorem der_by {es : List Int} {x y u v : Int} {F : Int → Int} {A B : Int} (e : ∀ t, val es (x + t * u) (y + t * v) = F t) (h : ∀ t, ∃ R, F t = A + t * B + t * t * R) : u * val (dX es) x y + v * val (dY es) x y = B := by
  refine near_one (F := F) (A := val es x y) (fun t => ?_) h
  rw [← e t]
  exact val_near x y u v t es
theorem dX_by {es : List Int} {x y : Int} {F : Int → Int} {A B : Int} (e : ∀ t, val es (x + t) y = F t) (h : ∀ t, ∃ R, F t = A + t * B + t * t * R) : val (dX es) x y = B := by
  have := der_by (es := es) (x := x) (y := y) (u := 1) (v := 0) (F := F) (fun t => by rw [Int.mul_one, Int.mul_zero, Int.add_zero]; exact e t) h
  grind
theorem dY_by {es : List Int} {x y : Int} {F : Int → Int} {A B : Int} (e : ∀ t, val es x (y + t) = F t) (h : ∀ t, ∃ R, F t = A + t * B + t * t * R) : val (dY es) x y = B := by
  have := der_by (es := es) (x := x) (y := y) (u := 0) (v := 1) (F := F) (fun t => by rw [Int.mul_one, Int.mul_zero, Int.add_zero]; exact e t) h
  grind
/-! ### the laying, step by step -/
def layV : List Int → List Int → Nat → Int → Int → Int
  | f, g, 0, x, y => val f x y * val g x y
  | f, g, k + 1, x, y => layV (dX f) (dY g) k x y - layV (dY f) (dX g) k x y
def layP : List Int → List Int → Nat → List Int
  | f, g, 0 => mulP f g
  | f, g, k + 1 => pl (layP (dX f) (dY g) k) (sc (-1) (layP (dY f) (dX g) k))
theorem layP_len : ∀ (k : Nat) (f g : List Int), k < f.length → k < g.length → (layP f g k).length = f.length + g.length - 1 - 2 * k
  | 0, f, g, _, _ => by
    show (mulP f g).length = _
    rw [mulP_len]
    omega
  | k + 1, f, g, h1, h2 => by
    have a := dX_len f
    have b := dY_len f
    have c := dX_len g
    have d := dY_len g
    have e1 := layP_len k (dX f) (dY g) (by omega) (by omega)
    have e2 := layP_len k (dY f) (dX g) (by omega) (by omega)
    show (List.zipWith _ _ _).length = _
    rw [List.length_zipWith, sc_len, e1, e2]
    omega
theorem layP_val : ∀ (k : Nat) (f g : List Int) (x y : Int), k < f.length → k < g.length → val (layP f g k) x y = layV f g k x y
  | 0, f, g, x, y, h1, h2 => val_mulP h1 h2 x y
  | k + 1, f, g, x, y, h1, h2 => by
    have a := dX_len f
    have b := dY_len f
    have c := dX_len g
    have d := dY_len g
    have e1 := layP_len k (dX f) (dY g) (by omega) (by omega)
    have e2 := layP_len k (dY f) (dX g) (by omega) (by omega)
    show val (List.zipWith _ _ _) x y = _
    rw [val_zip _ _ _ _ (by rw [sc_len, e1, e2, a, b, c, d]), val_map, layP_val k _ _ x y (by omega) (by omega), layP_val k _ _ x y (by omega) (by omega)]
    show _ = layV (dX f) (dY g) k x y - layV (dY f) (dX g) k x y
    omega
/-- a row that is told by the values of the laying -/
theorem layP_eq {f g r : List Int} {k : Nat} (h1 : k < f.length) (h2 : k < g.length) (hl : r.length = f.length + g.length - 1 - 2 * k) (hv : ∀ x y, val r x y = layV f g k x y) : r = layP f g k :=
  eq_of_val (by rw [layP_len k f g h1 h2, hl]) fun x _ => by rw [layP_val k f g _ _ h1 h2, hv]
/-! ### it is a sum in both -/
theorem layV_plL : ∀ (k : Nat) (a b g : List Int) (x y : Int), a.length = b.length → layV (pl a b) g k x y = layV a g k x y + layV b g k x y
  | 0, a, b, g, x, y, h => by
    show val (pl a b) x y * _ = val a x y * _ + val b x y * _
    rw [val_zip _ _ _ _ h, Int.add_mul]
  | k + 1, a, b, g, x, y, h => by
    show layV (derP (pl a b) 1 0) (dY g) k x y - layV (derP (pl a b) 0 1) (dX g) k x y = (layV (dX a) (dY g) k x y - layV (dY a) (dX g) k x y) + (layV (dX b) (dY g) k x y - layV (dY b) (dX g) k x y)
    rw [derP_zip h, derP_zip h, layV_plL k _ _ _ x y (by rw [derP_len, derP_len, h]), layV_plL k _ _ _ x y (by rw [derP_len, derP_len, h])]
    simp only [dX, dY]
    omega
theorem layV_plR : ∀ (k : Nat) (f a b : List Int) (x y : Int), a.length = b.length → layV f (pl a b) k x y = layV f a k x y + layV f b k x y
  | 0, f, a, b, x, y, h => by
    show _ * val (pl a b) x y = _ * val a x y + _ * val b x y
    rw [val_zip _ _ _ _ h, Int.mul_add]
  | k + 1, f, a, b, x, y, h => by
    show layV (dX f) (derP (pl a b) 0 1) k x y - layV (dY f) (derP (pl a b) 1 0) k x y = (layV (dX f) (dY a) k x y - layV (dY f) (dX a) k x y) + (layV (dX f) (dY b) k x y - layV (dY f) (dX b) k x y)
    rw [derP_zip h, derP_zip h, layV_plR k _ _ _ x y (by rw [derP_len, derP_len, h]), layV_plR k _ _ _ x y (by rw [derP_len, derP_len, h])]
    simp only [dX, dY]
    omega
theorem layV_scL : ∀ (k : Nat) (c : Int) (a g : List Int) (x y : Int), layV (sc c a) g k x y = c * layV a g k x y
  | 0, c, a, g, x, y => by
    show val (sc c a) x y * _ = c * (val a x y * _)
    rw [val_map, Int.mul_assoc]
  | k + 1, c, a, g, x, y => by
    show layV (derP (sc c a) 1 0) (dY g) k x y - layV (derP (sc c a) 0 1) (dX g) k x y = c * (layV (dX a) (dY g) k x y - layV (dY a) (dX g) k x y)
    rw [derP_sc, derP_sc, layV_scL k, layV_scL k, Int.mul_sub]
theorem layV_scR : ∀ (k : Nat) (c : Int) (f a : List Int) (x y : Int), layV f (sc c a) k x y = c * layV f a k x y
  | 0, c, f, a, x, y => by
    show _ * val (sc c a) x y = c * (_ * val a x y)
    rw [val_map, Int.mul_left_comm]
  | k + 1, c, f, a, x, y => by
    show layV (dX f) (derP (sc c a) 0 1) k x y - layV (dY f) (derP (sc c a) 1 0) k x y = c * (layV (dX f) (dY a) k x y - layV (dY f) (dX a) k x y)
    rw [derP_sc, derP_sc, layV_scR k, layV_scR k, Int.mul_sub]
/-- exchanged -/
theorem layV_swap : ∀ (k : Nat) (f g : List Int) (x y : Int), layV g f k x y = (-1) ^ k * layV f g k x y
  | 0, f, g, x, y => by
    show val g x y * val f x y = 1 * (val f x y * val g x y)
    rw [Int.one_mul, Int.mul_comm]
  | k + 1, f, g, x, y => by
    show layV (dX g) (dY f) k x y - layV (dY g) (dX f) k x y = (-1) ^ (k + 1) * (layV (dX f) (dY g) k x y - layV (dY f) (dX g) k x y)
    rw [layV_swap k (dY f) (dX g), layV_swap k (dX f) (dY g), Int.pow_succ]
    grind
/-! ### changed forms -/
theorem ch_dX {a b c d : Int} {es : List Int} (h : 2 ≤ es.length) : dX (chP [a, b] [c, d] es) = pl (sc a (chP [a, b] [c, d] (dX es))) (sc c (chP [a, b] [c, d] (dY es))) := by
  have l0 := dX_len es
  have l1 := dY_len es
  have lc : (chP [a, b] [c, d] es).length = es.length := chP_len rfl rfl (by omega)
  have lx : (chP [a, b] [c, d] (dX es)).length = es.length - 1 := by rw [chP_len rfl rfl (by omega), l0]
  have ly : (chP [a, b] [c, d] (dY es)).length = es.length - 1 := by rw [chP_len rfl rfl (by omega), l1]
  refine eq_of_val (by rw [dX_len, lc, pl_len (by rw [sc_len, sc_len, lx, ly]), sc_len, lx]) fun x _ => ?_
  rw [val_zip _ _ _ _ (by rw [sc_len, sc_len, lx, ly]), val_map, val_map, chP_val rfl rfl (by omega), chP_val rfl rfl (by omega)]
  refine dX_by (F := fun t => val es (val [a, b] x 1 + t * a) (val [c, d] x 1 + t * c)) (A := val es (val [a, b] x 1) (val [c, d] x 1)) (fun t => ?_) fun t => val_near _ _ a c t es
  rw [chP_val rfl rfl (by omega), val_two, val_two, val_two, val_two]
  congr 1 <;> grind
theorem ch_dY {a b c d : Int} {es : List Int} (h : 2 ≤ es.length) : dY (chP [a, b] [c, d] es) = pl (sc b (chP [a, b] [c, d] (dX es))) (sc d (chP [a, b] [c, d] (dY es))) := by
  have l0 := dX_len es
  have l1 := dY_len es
  have lc : (chP [a, b] [c, d] es).length = es.length := chP_len rfl rfl (by omega)
  have lx : (chP [a, b] [c, d] (dX es)).length = es.length - 1 := by rw [chP_len rfl rfl (by omega), l0]
  have ly : (chP [a, b] [c, d] (dY es)).length = es.length - 1 := by rw [chP_len rfl rfl (by omega), l1]
  refine eq_of_val (by rw [dY_len, lc, pl_len (by rw [sc_len, sc_len, lx, ly]), sc_len, lx]) fun x _ => ?_
  rw [val_zip _ _ _ _ (by rw [sc_len, sc_len, lx, ly]), val_map, val_map, chP_val rfl rfl (by omega), chP_val rfl rfl (by omega)]
  refine dY_by (F := fun t => val es (val [a, b] x 1 + t * b) (val [c, d] x 1 + t * d)) (A := val es (val [a, b] x 1) (val [c, d] x 1)) (fun t => ?_) fun t => val_near _ _ b d t es
  rw [chP_val rfl rfl (by omega), val_two, val_two, val_two, val_two]
  congr 1 <;> grind
theorem layV_ch {a b c d : Int} : ∀ (k : Nat) (f g : List Int) (x y : Int), k < f.length → k < g.length →
    layV (chP [a, b] [c, d] f) (chP [a, b] [c, d] g) k x y = (a * d - b * c) ^ k * layV f g k (val [a, b] x y) (val [c, d] x y)
  | 0, f, g, x, y, h1, h2 => by
    rw [Int.pow_zero, Int.one_mul]
    show val (chP [a, b] [c, d] f) x y * val (chP [a, b] [c, d] g) x y = val f _ _ * val g _ _
    rw [chP_val rfl rfl h1, chP_val rfl rfl h2]
  | k + 1, f, g, x, y, h1, h2 => by
    have e0 := dX_len f
    have e1 := dY_len f
    have e2 := dX_len g
    have e3 := dY_len g
    have lx : ∀ es : List Int, 2 ≤ es.length → (chP [a, b] [c, d] (dX es)).length = es.length - 1 := fun es h => by rw [chP_len rfl rfl (by rw [dX_len]; omega), dX_len]
    have ly : ∀ es : List Int, 2 ≤ es.length → (chP [a, b] [c, d] (dY es)).length = es.length - 1 := fun es h => by rw [chP_len rfl rfl (by rw [dY_len]; omega), dY_len]
    show layV (dX (chP [a, b] [c, d] f)) (dY (chP [a, b] [c, d] g)) k x y - layV (dY (chP [a, b] [c, d] f)) (dX (chP [a, b] [c, d] g)) k x y = _
    rw [ch_dX (es := f) (by omega), ch_dY (es := f) (by omega), ch_dX (es := g) (by omega), ch_dY (es := g) (by omega)]
    have s1 := lx f (by omega)
    have s2 := ly f (by omega)
    have s3 := lx g (by omega)
    have s4 := ly g (by omega)
    have q : ∀ c1 c2 : Int, (sc c1 (chP [a, b] [c, d] (dX f))).length = (sc c2 (chP [a, b] [c, d] (dY f))).length := fun _ _ => by rw [sc_len, sc_len, s1, s2]
    have q2 : ∀ c1 c2 : Int, (sc c1 (chP [a, b] [c, d] (dX g))).length = (sc c2 (chP [a, b] [c, d] (dY g))).length := fun _ _ => by rw [sc_len, sc_len, s3, s4]
    rw [layV_plL k _ _ _ _ _ (q a c), layV_plL k _ _ _ _ _ (q b d)]
    rw [layV_plR k _ _ _ _ _ (q2 b d), layV_plR k _ _ _ _ _ (q2 b d), layV_plR k _ _ _ _ _ (q2 a c), layV_plR k _ _ _ _ _ (q2 a c)]
    simp only [layV_scL, layV_scR]
    rw [layV_ch k (dX f) (dY g) x y (by omega) (by omega), layV_ch k (dY f) (dX g) x y (by omega) (by omega)]
    rw [layV_ch k (dX f) (dX g) x y (by omega) (by omega), layV_ch k (dY f) (dY g) x y (by omega) (by omega)]
    show _ = (a * d - b * c) ^ (k + 1) * (layV (dX f) (dY g) k _ _ - layV (dY f) (dX g) k _ _)
    rw [Int.pow_succ]
    generalize layV (dX f) (dY g) k _ _ = u1
    generalize layV (dY f) (dX g) k _ _ = u2
    generalize layV (dX f) (dX g) k _ _ = u3
    generalize layV (dY f) (dY g) k _ _ = u4
    generalize (a * d - b * c) ^ k = e
    grind
end My
namespace My
open PySem PySem.Spec PyProof.Rows L2 Pr M00
/-! ### the laying as a sum -/
def sm (f : Nat → Int) : Nat → Int
  | 0 => 0
  | n + 1 => sm f n + f n
theorem sm_congr {f g : Nat → Int} : ∀ n, (∀ i, i < n → f i = g i) → sm f n = sm g n
  | 0, _ => rfl
  | n + 1, h => by
    show sm f n + f n = sm g n + g n
    rw [sm_congr n fun i hi => h i (by omega), h n (by omega)]
def sg (i : Nat) : Int := if i % 2 = 0 then 1 else -1
theorem sg_succ (i : Nat) : sg (i + 1) = -sg i := by
  unfold sg
  by_cases h : i % 2 = 0
  · rw [if_pos h, if_neg (by omega)]
  · rw [if_neg h, if_pos (by omega)]
    rfl
theorem sm_pascal (k : Nat) (a : Nat → Int) : ∀ n, sm (fun i => sg i * ch (k + 1) i * a i) (n + 1) = sm (fun i => sg i * ch k i * a i) (n + 1) - sm (fun i => sg i * ch k i * a (i + 1)) n
  | 0 => by
    show 0 + sg 0 * ch (k + 1) 0 * a 0 = 0 + sg 0 * ch k 0 * a 0 - 0
    rw [ch_zero', ch_zero']
    omega
  | n + 1 => by
    have ih := sm_pascal k a n
    have e1 : sm (fun i => sg i * ch (k + 1) i * a i) (n + 1 + 1) = sm (fun i => sg i * ch (k + 1) i * a i) (n + 1) + sg (n + 1) * ch (k + 1) (n + 1) * a (n + 1) := rfl
    have e2 : sm (fun i => sg i * ch k i * a i) (n + 1 + 1) = sm (fun i => sg i * ch k i * a i) (n + 1) + sg (n + 1) * ch k (n + 1) * a (n + 1) := rfl
    have e3 : sm (fun i => sg i * ch k i * a (i + 1)) (n + 1) = sm (fun i => sg i * ch k i * a (i + 1)) n + sg n * ch k n * a (n + 1) := rfl
    rw [e1, e2, e3, ih, ch_succ, sg_succ]
    generalize sm (fun i => sg i * ch k i * a i) (n + 1) = u
    generalize sm (fun i => sg i * ch k i * a (i + 1)) n = v
    grind
def layT (f g : List Int) (k i : Nat) (x y : Int) : Int := sg i * ch k i * (val (derP f (k - i) i) x y * val (derP g i (k - i)) x y)
theorem layV_sum : ∀ (k : Nat) (f g : List Int) (x y : Int), k < f.length → k < g.length → sm (fun i => layT f g k i x y) (k + 1) = layV f g k x y
  | 0, f, g, x, y, h1, h2 => by
    show 0 + sg 0 * ch 0 0 * (val (derP f 0 0) x y * val (derP g 0 0) x y) = val f x y * val g x y
    rw [derP_zero, derP_zero, ch_zero']
    show 0 + 1 * 1 * _ = _
    omega
  | k + 1, f, g, x, y, h1, h2 => by
    have l1 := dX_len f
    have l2 := dY_len f
    have l3 := dX_len g
    have l4 := dY_len g
    have i1 := layV_sum k (dX f) (dY g) x y (by omega) (by omega)
    have i2 := layV_sum k (dY f) (dX g) x y (by omega) (by omega)
    show _ = layV (dX f) (dY g) k x y - layV (dY f) (dX g) k x y
    rw [← i1, ← i2]
    have e := sm_pascal k (fun i => val (derP f (k + 1 - i) i) x y * val (derP g i (k + 1 - i)) x y) (k + 1)
    have z : sm (fun i => sg i * ch k i * (val (derP f (k + 1 - i) i) x y * val (derP g i (k + 1 - i)) x y)) (k + 1 + 1) = sm (fun i => sg i * ch k i * (val (derP f (k + 1 - i) i) x y * val (derP g i (k + 1 - i)) x y)) (k + 1) := by
      show _ + sg (k + 1) * ch k (k + 1) * _ = _
      rw [ch_over (by omega), Int.mul_zero, Int.zero_mul, Int.add_zero]
    rw [z] at e
    refine Eq.trans e ?_
    congr 1
    · refine sm_congr _ fun i hi => ?_
      show sg i * ch k i * _ = sg i * ch k i * (val (derP (derP f 1 0) (k - i) i) x y * val (derP (derP g 0 1) i (k - i)) x y)
      rw [derP_derP _ _ _ _ _ (by omega), derP_derP _ _ _ _ _ (by omega)]
      have a1 : k + 1 - i = 1 + (k - i) := by omega
      rw [a1, Nat.zero_add]
    · refine sm_congr _ fun i hi => ?_
      show sg i * ch k i * _ = sg i * ch k i * (val (derP (derP f 0 1) (k - i) i) x y * val (derP (derP g 1 0) i (k - i)) x y)
      rw [derP_derP _ _ _ _ _ (by omega), derP_derP _ _ _ _ _ (by omega)]
      have a1 : k + 1 - (i + 1) = k - i := by omega
      rw [a1, Nat.zero_add, Nat.add_comm 1 i]
/-! ### the rule of three forms -/
/-! ### a form laid over a power -/
def f2 : Nat → Int
  | 0 => 1
  | n + 1 => f2 n * ((n + 1 : Nat) : Int) * ((n + 1 : Nat) : Int)
/-! ### sizes -/
theorem l1_cons (c : Int) (cs : List Int) : l1 (c :: cs) = c.natAbs + l1 cs := by
  show (c.natAbs :: cs.map Int.natAbs).sum = _
  rw [List.sum_cons]
  rfl
theorem l1_dX : ∀ es : List Int, l1 (dX es) ≤ es.length * l1 es
  | [] => Nat.le_refl 0
  | [c] => Nat.zero_le _
  | c :: e :: cs => by
    have ih := l1_dX (e :: cs)
    show l1 (derP (c :: e :: cs) 1 0) ≤ _
    have hl : (c :: e :: cs).length = (e :: cs).length + 1 := rfl
    rw [der_x c (e :: cs) (by simp), l1_cons, l1_cons c, Int.natAbs_mul, Int.natAbs_natCast, hl]
    have : l1 (derP (e :: cs) 1 0) ≤ (e :: cs).length * l1 (e :: cs) := ih
    generalize (e :: cs).length = n at this ⊢
    generalize l1 (e :: cs) = s at this ⊢
    generalize l1 (derP (e :: cs) 1 0) = d at this ⊢
    rw [Nat.add_mul, Nat.mul_add, Nat.mul_comm n]
    omega
theorem l1_dY : ∀ es : List Int, l1 (dY es) ≤ es.length * l1 es
  | [] => Nat.le_refl 0
  | [c] => Nat.zero_le _
  | c :: e :: cs => by
    have ih := l1_dY (e :: cs)
    have z := l1_zip (e :: cs) (0 :: derP (e :: cs) 0 1)
    show l1 (derP (c :: e :: cs) 0 1) ≤ _
    rw [der_y c (e :: cs) (by simp)]
    refine Nat.le_trans z ?_
    have hl : (c :: e :: cs).length = (e :: cs).length + 1 := rfl
    rw [l1_cons 0, l1_cons c, hl]
    have : l1 (derP (e :: cs) 0 1) ≤ (e :: cs).length * l1 (e :: cs) := ih
    generalize (e :: cs).length = n at this ⊢
    generalize l1 (e :: cs) = s at this ⊢
    generalize l1 (derP (e :: cs) 0 1) = d at this ⊢
    rw [Nat.add_mul, Nat.mul_add]
    have e0 : (0 : Int).natAbs = 0 := rfl
    omega
theorem l1_sc (c : Int) (a : List Int) : l1 (sc c a) = c.natAbs * l1 a := by
  have e : a.map (c * ·) = a.map (· * c) := List.map_congr_left fun z _ => Int.mul_comm _ _
  show l1 (a.map (c * ·)) = _
  rw [e, l1_map, Nat.mul_comm]
theorem l1_lay {D : Nat} : ∀ (k : Nat) (f g : List Int), f.length ≤ D → g.length ≤ D → l1 (layP f g k) ≤ (2 * D * D) ^ k * (l1 f * l1 g)
  | 0, f, g, _, _ => by
    rw [Nat.pow_zero, Nat.one_mul]
    exact l1_mulP f g
  | k + 1, f, g, h1, h2 => by
    have a1 := dX_len f
    have a2 := dY_len f
    have a3 := dX_len g
    have a4 := dY_len g
    have i1 := l1_lay (D := D) k (dX f) (dY g) (by omega) (by omega)
    have i2 := l1_lay (D := D) k (dY f) (dX g) (by omega) (by omega)
    have b : ∀ {u v : Nat}, u ≤ f.length * l1 f → v ≤ g.length * l1 g → u * v ≤ D * D * (l1 f * l1 g) := fun {u v} h3 h4 => by
      refine Nat.le_trans (Nat.mul_le_mul h3 h4) ?_
      rw [show f.length * l1 f * (g.length * l1 g) = f.length * g.length * (l1 f * l1 g) from Nat.mul_mul_mul_comm ..]
      exact Nat.mul_le_mul_right _ (Nat.mul_le_mul h1 h2)
    have c1 := b (l1_dX f) (l1_dY g)
    have c2 := b (l1_dY f) (l1_dX g)
    show l1 (pl (layP (dX f) (dY g) k) (sc (-1) (layP (dY f) (dX g) k))) ≤ _
    refine Nat.le_trans (l1_zip _ _) ?_
    rw [l1_sc]
    have e1 := Nat.le_trans i1 (Nat.mul_le_mul_left _ c1)
    have e2 := Nat.le_trans i2 (Nat.mul_le_mul_left _ c2)
    have e3 : (2 * D * D) ^ (k + 1) * (l1 f * l1 g) = (2 * D * D) ^ k * (D * D * (l1 f * l1 g)) + (2 * D * D) ^ k * (D * D * (l1 f * l1 g)) := by
      rw [Nat.pow_succ]
      generalize (2 * D * D) ^ k = p
      generalize l1 f * l1 g = q
      rw [show 2 * D * D = D * D + D * D by rw [Nat.mul_assoc]; omega, Nat.mul_add, Nat.add_mul, Nat.mul_assoc]
    rw [e3]
    have e4 : (-1 : Int).natAbs * l1 (layP (dY f) (dX g) k) = l1 (layP (dY f) (dX g) k) := Nat.one_mul _
    rw [e4]
    omega
end My
namespace My
open PySem PySem.Spec PyProof.Rows L2 Pr M00
section
variable {P : Program} {w : World} {K : PySem.W.Frag} {mg : Str → Option Value} {base : Heap}
def sp_product_rowL : Sp := fun vs H Q _ => ∃ (p q : Addr) (ns ms : List Int), vs = [.ref p, .ref q] ∧ H p = some (LI ns) ∧ H q = some (TI ms) ∧ 0 < ns.length ∧ 0 < ms.length ∧ ns.length < 1000 ∧ ms.length < 1000 ∧
  (∀ n ∈ ns, Wd n) ∧ (∀ n ∈ ms, Wd n) ∧ ∀ H' r, Same H H' → H r = none → H' r = some (TI (mulP ns ms)) → Q (.ref r) H'
theorem ok_product_rowL (T : Tx K mg) : FnOk P w K mg base CX0 1 T.f_product_row T.d_product_row p_product_row sp_product_rowL := by
  refine T.F_product_row.ok sc_product_row (fun vs H Q E h => ?_) (fun cdv A outer s H vs Q E hr h => ?_)
  · obtain ⟨p, q, ns, ms, rfl, _⟩ := h
    rfl
  · obtain ⟨p, q, ns, ms, rfl, hp, hq, h1, h2, h3, h4, b1, b2, k⟩ := h
    refine ⟨_, (pss_cons (ps_setLc (i := 2) (own := [("_", 7)]) (g := gName 7) (tt := tYes) rfl sc_product_row.nd rfl rfl (sw_true rfl rfl rfl (by decide +kernel)) (pi_range1 (by rfl) T.z_range (pa_cons (pe_op op_sub (pe_op op_add (pe_callB cr_len (by rfl) T.z_len PySem.boot_len (pa_cons (pv 0) pa_nil)) (pe_callB cr_len (by rfl) T.z_len PySem.boot_len (pa_cons (pv 1) pa_nil))) pe_int) pa_nil)) (blkOk_by (N := n_product_row) (sc := defScope s_product_row) (by decide +kernel)) (fun _ _ _ _ _ => (pg_name (i := 7) sc_product_row.nd rfl (by first | exact .inl rfl | exact .inr rfl))) (fun _ _ _ _ _ => pts_nil) (fun _ _ _ _ _ => pe_int))
      (pss_cons (ps_for PassesOwn.never rfl (pi_enum (by rfl) T.z_enumerate (pa_cons (pv 0) pa_nil)) (pg_tupH (n := 2) (by rfl) (pgs_cons (pg_name (i := 3) sc_product_row.nd rfl (by first | exact .inl rfl | exact .inr rfl)) (pgs_cons (pg_name (i := 4) sc_product_row.nd rfl (by first | exact .inl rfl | exact .inr rfl)) pgs_nil)))
      (pss_one (ps_for PassesOwn.never rfl (pi_enT (by rfl) T.z_enumerate (pa_cons (pv 1) pa_nil)) (pg_tupH (n := 2) (by rfl) (pgs_cons (pg_name (i := 5) sc_product_row.nd rfl (by first | exact .inl rfl | exact .inr rfl)) (pgs_cons (pg_name (i := 6) sc_product_row.nd rfl (by first | exact .inl rfl | exact .inr rfl)) pgs_nil)))
      (pss_one (ps_asg (pe_op op_add (pe_ix ix_LI (pv 2) (pe_op op_add (pv 3) (pv 5)) (fun _ _ => rfl)) (pe_op op_mulB (pv 4) (pv 6))) (pg_sub (pv 2) (pe_op op_add (pv 3) (pv 5)) set_LI))))))
      (pss_one (ps_ret (pe_callTy cr_tupL (by rfl) T.z_tuple (by decide +kernel) (pa_cons (pv 2) pa_nil)))))), ?_⟩
    rw [st_product_row]
    simp only [ap_seq, ap_next, ap_asg, ap_gName, ap_ret, ap_retN, ap_drop, ap_ifS, ap_break, ap_cont, ap_par, ap_aug, ap_ip, ap_gSub, ap_gTup, ap_gNil, ap_gCons, ap_var, ap_c, ap_op, ap_un, ap_if, ap_test, ap_B, ap_and, ap_or, ap_not, ap_andV, ap_orV, ap_notV, ap_nil, ap_cons, ap_tup, ap_lst, ap_cb, ap_bm, ap_call, ap_chain, ap_rI, ap_rI0, ap_rU, ap_rEq, ap_rNe, ap_revT, ap_sl, ap_part, ap_noPart, ap_ixLI, ap_ixTI, ap_ixLV, ap_ixTV, ap_len, ap_setLI, ap_setLV, ap_appI, ap_appV, ap_tupL, ap_listS, ap_sumLI, ap_sumTI, ap_repLI, ap_intI, ap_intB, ap_eqTI, ap_neTI, ap_eqLI, ap_neLI, ap_isi, ap_for, ap_rng1, ap_rng2, ap_iList, ap_iTup, ap_lc, ap_yes, ap_cut, ap_gTupH, ap_fmt, ap_jsn, ap_jsc, ap_gcd, ap_isqrt, ap_ixL, tyV_l, wipe_nil, wipe_cons, upd_same, ap_iEnT, ap_iEnL, ap_iZipA, ap_all, ap_tupT, ap_attF, ap_makeL, ap_att, ap_prop, ap_isO, ap_bin, ap_ne, ap_meth, ap_make, ins_inj, FE_inj, ap_slI, ap_catI, ap_perm, ap_lenO, ap_strO, ap_listO, ap_reprB, ap_iterT, ap_neT, ap_negO, ap_binI, ap_catL, ap_tM1, ap_repTI, ap_popN, ap_par3, ap_catTT, ap_repTA, ap_countT, ap_notInT, ap_repL1, ap_cm, ap_shl, ap_shr, ap_mask, ap_comb, ap_bits, ap_rng3, List.set_cons_zero, List.set_cons_succ, List.getElem?_cons_zero, List.getElem?_cons_succ, List.cons_append, List.nil_append, List.append_nil, Option.some.injEq, V.int.injEq, V.ref.injEq, V.bl.injEq, V.str.injEq, V.ty.injEq, Bool.not_true, Bool.not_false, HO.lst.injEq, HO.tup.injEq, reduceCtorEq, Int.reduceToNat, Int.reduceLT, Int.reduceLE, Nat.reduceAdd, Int.cast_ofNat_Int, gi_c0, gi_c1, gi_c2, gi_c3, Int.natCast_inj, map_int_inj, map_nil_iff, List.cons.injEq, exists_eq_left, exists_eq_left', exists_eq, exists_eq', exists_and_left, exists_and_right, exists_const, and_assoc, and_true, true_and, and_false, false_and, or_false, false_or, or_true, true_or, ite_true, ite_false, if_true, if_false, Bool.false_eq_true, own_cons, own_nil, le1, le2, le3, le4, me_cons, me_nil, List.length_map, List.length_cons, List.length_nil, ne_eq, not_false_eq_true, not_true_eq_false, decide_eq_true_eq, hp, hq]
    have eN : ((ns.length : Int) + (ms.length : Int) - 1).toNat = ns.length + ms.length - 1 := by omega
    rw [eN]
    refine ⟨by omega, by omega, lc_rangeI (fun _ => 0) (by omega) (fun x => rfl) (fun i G hi sm Q' k' => ?_) (fun f G nf sm ef => ?_)⟩
    · simp only [ap_seq, ap_next, ap_asg, ap_gName, ap_ret, ap_retN, ap_drop, ap_ifS, ap_break, ap_cont, ap_par, ap_aug, ap_ip, ap_gSub, ap_gTup, ap_gNil, ap_gCons, ap_var, ap_c, ap_op, ap_un, ap_if, ap_test, ap_B, ap_and, ap_or, ap_not, ap_andV, ap_orV, ap_notV, ap_nil, ap_cons, ap_tup, ap_lst, ap_cb, ap_bm, ap_call, ap_chain, ap_rI, ap_rI0, ap_rU, ap_rEq, ap_rNe, ap_revT, ap_sl, ap_part, ap_noPart, ap_ixLI, ap_ixTI, ap_ixLV, ap_ixTV, ap_len, ap_setLI, ap_setLV, ap_appI, ap_appV, ap_tupL, ap_listS, ap_sumLI, ap_sumTI, ap_repLI, ap_intI, ap_intB, ap_eqTI, ap_neTI, ap_eqLI, ap_neLI, ap_isi, ap_for, ap_rng1, ap_rng2, ap_iList, ap_iTup, ap_lc, ap_yes, ap_cut, ap_gTupH, ap_fmt, ap_jsn, ap_jsc, ap_gcd, ap_isqrt, ap_ixL, tyV_l, wipe_nil, wipe_cons, upd_same, ap_iEnT, ap_iEnL, ap_iZipA, ap_all, ap_tupT, ap_attF, ap_makeL, ap_att, ap_prop, ap_isO, ap_bin, ap_ne, ap_meth, ap_make, ins_inj, FE_inj, ap_slI, ap_catI, ap_perm, ap_lenO, ap_strO, ap_listO, ap_reprB, ap_iterT, ap_neT, ap_negO, ap_binI, ap_catL, ap_tM1, ap_repTI, ap_popN, ap_par3, ap_catTT, ap_repTA, ap_countT, ap_notInT, ap_repL1, ap_cm, ap_shl, ap_shr, ap_mask, ap_comb, ap_bits, ap_rng3, List.set_cons_zero, List.set_cons_succ, List.getElem?_cons_zero, List.getElem?_cons_succ, List.cons_append, List.nil_append, List.append_nil, Option.some.injEq, V.int.injEq, V.ref.injEq, V.bl.injEq, V.str.injEq, V.ty.injEq, Bool.not_true, Bool.not_false, HO.lst.injEq, HO.tup.injEq, reduceCtorEq, Int.reduceToNat, Int.reduceLT, Int.reduceLE, Nat.reduceAdd, Int.cast_ofNat_Int, gi_c0, gi_c1, gi_c2, gi_c3, Int.natCast_inj, map_int_inj, map_nil_iff, List.cons.injEq, exists_eq_left, exists_eq_left', exists_eq, exists_eq', exists_and_left, exists_and_right, exists_const, and_assoc, and_true, true_and, and_false, false_and, or_false, false_or, or_true, true_or, ite_true, ite_false, if_true, if_false, Bool.false_eq_true, own_cons, own_nil, le1, le2, le3, le4, me_cons, me_nil, List.length_map, List.length_cons, List.length_nil, ne_eq, not_false_eq_true, not_true_eq_false, decide_eq_true_eq]
      exact k' G (Same.refl G)
    · refine ⟨⟨_, sqL_of (sm _ _ hp)⟩, loop_pair gives_enL (fun i σ' H' => (∃ y1 y2 y3 y4 y9, σ' = [some (V.ref p), some (V.ref q), some (V.ref f), y1, y2, y3, y4, y9]) ∧ Same H H' ∧ H' f = some (LI ((List.range (ns.length + ms.length - 1)).map (cv ns ms i)))) ⟨⟨_, _, _, _, _, rfl⟩, sm, ef⟩ (fun i σ' H' hi hP => hP.2.1 _ _ hp) (fun i a b t σ' G1 hi hP nt r => ?_) (fun σ' G1 hP => ?_)⟩
      · obtain ⟨⟨y1, y2, y3, y4, y9, e⟩, sm1, ef1⟩ := hP
        obtain ⟨rfl, r⟩ := r
        obtain ⟨n, rfl, en⟩ := at_int r
        subst e
        have s2 := same_upd (o := HO.tup [V.int (i : Nat), V.int n]) nt
        have hq2 := s2 _ _ (sm1 _ _ hq)
        have ef2 := s2 _ _ ef1
        have bn := b1 n (List.mem_of_getElem? en)
        have li : i < ns.length := (List.getElem?_eq_some_iff.mp en).1
        rw [← cvj_zero] at ef2
        simp only [ap_seq, ap_next, ap_asg, ap_gName, ap_ret, ap_retN, ap_drop, ap_ifS, ap_break, ap_cont, ap_par, ap_aug, ap_ip, ap_gSub, ap_gTup, ap_gNil, ap_gCons, ap_var, ap_c, ap_op, ap_un, ap_if, ap_test, ap_B, ap_and, ap_or, ap_not, ap_andV, ap_orV, ap_notV, ap_nil, ap_cons, ap_tup, ap_lst, ap_cb, ap_bm, ap_call, ap_chain, ap_rI, ap_rI0, ap_rU, ap_rEq, ap_rNe, ap_revT, ap_sl, ap_part, ap_noPart, ap_ixLI, ap_ixTI, ap_ixLV, ap_ixTV, ap_len, ap_setLI, ap_setLV, ap_appI, ap_appV, ap_tupL, ap_listS, ap_sumLI, ap_sumTI, ap_repLI, ap_intI, ap_intB, ap_eqTI, ap_neTI, ap_eqLI, ap_neLI, ap_isi, ap_for, ap_rng1, ap_rng2, ap_iList, ap_iTup, ap_lc, ap_yes, ap_cut, ap_gTupH, ap_fmt, ap_jsn, ap_jsc, ap_gcd, ap_isqrt, ap_ixL, tyV_l, wipe_nil, wipe_cons, upd_same, ap_iEnT, ap_iEnL, ap_iZipA, ap_all, ap_tupT, ap_attF, ap_makeL, ap_att, ap_prop, ap_isO, ap_bin, ap_ne, ap_meth, ap_make, ins_inj, FE_inj, ap_slI, ap_catI, ap_perm, ap_lenO, ap_strO, ap_listO, ap_reprB, ap_iterT, ap_neT, ap_negO, ap_binI, ap_catL, ap_tM1, ap_repTI, ap_popN, ap_par3, ap_catTT, ap_repTA, ap_countT, ap_notInT, ap_repL1, ap_cm, ap_shl, ap_shr, ap_mask, ap_comb, ap_bits, ap_rng3, List.set_cons_zero, List.set_cons_succ, List.getElem?_cons_zero, List.getElem?_cons_succ, List.cons_append, List.nil_append, List.append_nil, Option.some.injEq, V.int.injEq, V.ref.injEq, V.bl.injEq, V.str.injEq, V.ty.injEq, Bool.not_true, Bool.not_false, HO.lst.injEq, HO.tup.injEq, reduceCtorEq, Int.reduceToNat, Int.reduceLT, Int.reduceLE, Nat.reduceAdd, Int.cast_ofNat_Int, gi_c0, gi_c1, gi_c2, gi_c3, Int.natCast_inj, map_int_inj, map_nil_iff, List.cons.injEq, exists_eq_left, exists_eq_left', exists_eq, exists_eq', exists_and_left, exists_and_right, exists_const, and_assoc, and_true, true_and, and_false, false_and, or_false, false_or, or_true, true_or, ite_true, ite_false, if_true, if_false, Bool.false_eq_true, own_cons, own_nil, le1, le2, le3, le4, me_cons, me_nil, List.length_map, List.length_cons, List.length_nil, ne_eq, not_false_eq_true, not_true_eq_false, decide_eq_true_eq]
        refine ⟨⟨_, sqT_of hq2⟩, loop_pair gives_en (fun j σ' H' => (∃ y5 y6, σ' = [some (V.ref p), some (V.ref q), some (V.ref f), some (V.int (i : Nat)), some (V.int n), y5, y6, y9]) ∧ Same H H' ∧ H' f = some (LI ((List.range (ns.length + ms.length - 1)).map (cvj ns ms i j)))) ⟨⟨_, _, rfl⟩, sm1.trans s2, ef2⟩ (fun j σ' H' hj hP => hP.2.1 _ _ hq) (fun j a b u σ' G2 hj hP nu r => ?_) (fun σ' G2 hP => ?_)⟩
        · obtain ⟨⟨y5, y6, e⟩, sm3, ef3⟩ := hP
          obtain ⟨rfl, r⟩ := r
          obtain ⟨m, rfl, em⟩ := at_int r
          subst e
          have s4 := same_upd (o := HO.tup [V.int (j : Nat), V.int m]) nu
          have ef4 := s4 _ _ ef3
          have bm := b2 m (List.mem_of_getElem? em)
          have lj : j < ms.length := (List.getElem?_eq_some_iff.mp em).1
          unfold Wd at bn bm
          simp only [ap_seq, ap_next, ap_asg, ap_gName, ap_ret, ap_retN, ap_drop, ap_ifS, ap_break, ap_cont, ap_par, ap_aug, ap_ip, ap_gSub, ap_gTup, ap_gNil, ap_gCons, ap_var, ap_c, ap_op, ap_un, ap_if, ap_test, ap_B, ap_and, ap_or, ap_not, ap_andV, ap_orV, ap_notV, ap_nil, ap_cons, ap_tup, ap_lst, ap_cb, ap_bm, ap_call, ap_chain, ap_rI, ap_rI0, ap_rU, ap_rEq, ap_rNe, ap_revT, ap_sl, ap_part, ap_noPart, ap_ixLI, ap_ixTI, ap_ixLV, ap_ixTV, ap_len, ap_setLI, ap_setLV, ap_appI, ap_appV, ap_tupL, ap_listS, ap_sumLI, ap_sumTI, ap_repLI, ap_intI, ap_intB, ap_eqTI, ap_neTI, ap_eqLI, ap_neLI, ap_isi, ap_for, ap_rng1, ap_rng2, ap_iList, ap_iTup, ap_lc, ap_yes, ap_cut, ap_gTupH, ap_fmt, ap_jsn, ap_jsc, ap_gcd, ap_isqrt, ap_ixL, tyV_l, wipe_nil, wipe_cons, upd_same, ap_iEnT, ap_iEnL, ap_iZipA, ap_all, ap_tupT, ap_attF, ap_makeL, ap_att, ap_prop, ap_isO, ap_bin, ap_ne, ap_meth, ap_make, ins_inj, FE_inj, ap_slI, ap_catI, ap_perm, ap_lenO, ap_strO, ap_listO, ap_reprB, ap_iterT, ap_neT, ap_negO, ap_binI, ap_catL, ap_tM1, ap_repTI, ap_popN, ap_par3, ap_catTT, ap_repTA, ap_countT, ap_notInT, ap_repL1, ap_cm, ap_shl, ap_shr, ap_mask, ap_comb, ap_bits, ap_rng3, List.set_cons_zero, List.set_cons_succ, List.getElem?_cons_zero, List.getElem?_cons_succ, List.cons_append, List.nil_append, List.append_nil, Option.some.injEq, V.int.injEq, V.ref.injEq, V.bl.injEq, V.str.injEq, V.ty.injEq, Bool.not_true, Bool.not_false, HO.lst.injEq, HO.tup.injEq, reduceCtorEq, Int.reduceToNat, Int.reduceLT, Int.reduceLE, Nat.reduceAdd, Int.cast_ofNat_Int, gi_c0, gi_c1, gi_c2, gi_c3, Int.natCast_inj, map_int_inj, map_nil_iff, List.cons.injEq, exists_eq_left, exists_eq_left', exists_eq, exists_eq', exists_and_left, exists_and_right, exists_const, and_assoc, and_true, true_and, and_false, false_and, or_false, false_or, or_true, true_or, ite_true, ite_false, if_true, if_false, Bool.false_eq_true, own_cons, own_nil, le1, le2, le3, le4, me_cons, me_nil, List.length_map, List.length_cons, List.length_nil, ne_eq, not_false_eq_true, not_true_eq_false, decide_eq_true_eq, CMu, ef4]
          have eij : (i : Int) + (j : Int) = ((i + j : Nat) : Int) := by omega
          rw [eij, Int.toNat_natCast, gi_range (by omega), range_set, cvj_step en em, List.length_range]
          refine ⟨by omega, by omega, by omega, by omega, by omega, by omega, by omega, by omega, same_mut (sm3.trans s4) nf, rfl⟩
        · obtain ⟨⟨y5, y6, e⟩, sm3, ef3⟩ := hP
          subst e
          rw [List.length_map, cvj_full] at ef3
          exact ⟨⟨_, _, _, _, _, rfl⟩, sm3, ef3⟩
      · obtain ⟨⟨y1, y2, y3, y4, y9, e⟩, sm1, ef1⟩ := hP
        subst e
        rw [List.length_map] at ef1
        simp only [ap_seq, ap_next, ap_asg, ap_gName, ap_ret, ap_retN, ap_drop, ap_ifS, ap_break, ap_cont, ap_par, ap_aug, ap_ip, ap_gSub, ap_gTup, ap_gNil, ap_gCons, ap_var, ap_c, ap_op, ap_un, ap_if, ap_test, ap_B, ap_and, ap_or, ap_not, ap_andV, ap_orV, ap_notV, ap_nil, ap_cons, ap_tup, ap_lst, ap_cb, ap_bm, ap_call, ap_chain, ap_rI, ap_rI0, ap_rU, ap_rEq, ap_rNe, ap_revT, ap_sl, ap_part, ap_noPart, ap_ixLI, ap_ixTI, ap_ixLV, ap_ixTV, ap_len, ap_setLI, ap_setLV, ap_appI, ap_appV, ap_tupL, ap_listS, ap_sumLI, ap_sumTI, ap_repLI, ap_intI, ap_intB, ap_eqTI, ap_neTI, ap_eqLI, ap_neLI, ap_isi, ap_for, ap_rng1, ap_rng2, ap_iList, ap_iTup, ap_lc, ap_yes, ap_cut, ap_gTupH, ap_fmt, ap_jsn, ap_jsc, ap_gcd, ap_isqrt, ap_ixL, tyV_l, wipe_nil, wipe_cons, upd_same, ap_iEnT, ap_iEnL, ap_iZipA, ap_all, ap_tupT, ap_attF, ap_makeL, ap_att, ap_prop, ap_isO, ap_bin, ap_ne, ap_meth, ap_make, ins_inj, FE_inj, ap_slI, ap_catI, ap_perm, ap_lenO, ap_strO, ap_listO, ap_reprB, ap_iterT, ap_neT, ap_negO, ap_binI, ap_catL, ap_tM1, ap_repTI, ap_popN, ap_par3, ap_catTT, ap_repTA, ap_countT, ap_notInT, ap_repL1, ap_cm, ap_shl, ap_shr, ap_mask, ap_comb, ap_bits, ap_rng3, List.set_cons_zero, List.set_cons_succ, List.getElem?_cons_zero, List.getElem?_cons_succ, List.cons_append, List.nil_append, List.append_nil, Option.some.injEq, V.int.injEq, V.ref.injEq, V.bl.injEq, V.str.injEq, V.ty.injEq, Bool.not_true, Bool.not_false, HO.lst.injEq, HO.tup.injEq, reduceCtorEq, Int.reduceToNat, Int.reduceLT, Int.reduceLE, Nat.reduceAdd, Int.cast_ofNat_Int, gi_c0, gi_c1, gi_c2, gi_c3, Int.natCast_inj, map_int_inj, map_nil_iff, List.cons.injEq, exists_eq_left, exists_eq_left', exists_eq, exists_eq', exists_and_left, exists_and_right, exists_const, and_assoc, and_true, true_and, and_false, false_and, or_false, false_or, or_true, true_or, ite_true, ite_false, if_true, if_false, Bool.false_eq_true, own_cons, own_nil, le1, le2, le3, le4, me_cons, me_nil, List.length_map, List.length_cons, List.length_nil, ne_eq, not_false_eq_true, not_true_eq_false, decide_eq_true_eq, ef1]
        exact fun l nl => k _ l (sm1.trans (same_upd nl)) (free_of sm1 nl) upd_same
/-- an entry that is not too long to be laid -/
abbrev Lg (ns : List Int) : Prop := ∀ n ∈ ns, n.natAbs ≤ 2 ^ 3000
theorem sg_abs (i : Nat) : sg i = 1 ∨ sg i = -1 := by
  unfold sg
  by_cases h : i % 2 = 0
  · rw [if_pos h]
    exact .inl rfl
  · rw [if_neg h]
    exact .inr rfl
theorem sgch_wd {k i : Nat} (hk : k ≤ 40) (hi : i ≤ k) : Wd (sg i * ch k i) := by
  refine wd_of (Nat.lt_of_le_of_lt (show _ ≤ 1 * 2 ^ 40 from ?_) (by decide +kernel))
  rw [Int.natAbs_mul]
  refine Nat.mul_le_mul ?_ (ch_bd hk hi)
  rcases sg_abs i with h | h <;> rw [h] <;> decide
theorem fac_wd {es : List Int} {k i p q : Nat} (h : es.length ≤ 41) (bs : Lg es) (hk : k ≤ 40) (hi : i ≤ k) : ∀ n ∈ sc (sg i * ch k i) (derP es p q), Wd n := fun n hn => by
  obtain ⟨m, hm, rfl⟩ := List.mem_map.mp hn
  have b := derP_bd h bs m hm
  refine wd_of (Nat.lt_of_le_of_lt (show _ ≤ 2 ^ 40 * (2 ^ 3000 * 41 ^ 41 * 41 ^ 41) from ?_) (by decide +kernel))
  rw [Int.natAbs_mul, Int.natAbs_mul]
  refine Nat.mul_le_mul ?_ b
  have := ch_bd hk hi
  rcases sg_abs i with h | h <;> rw [h]
  · show 1 * _ ≤ _; omega
  · show 1 * _ ≤ _; omega
/-- what stands behind i steps of the laying's loop -/
structure LayS (f g : List Int) (k i : Nat) (fs : List Int) : Prop where
  len : fs.length = f.length + g.length - 1 - 2 * k
  val : ∀ x y, My.val fs x y = sm (fun j => layT f g k j x y) i
theorem layS_zero {f g : List Int} {k : Nat} (n : Nat) (h : n = f.length + g.length - 1 - 2 * k) : LayS f g k 0 (List.replicate n 0) :=
  ⟨by rw [List.length_replicate, h], fun x y => val_rep n x y⟩
theorem layS_next {f g fs : List Int} {k i : Nat} (h1 : k < f.length) (h2 : k < g.length) (hi : i ≤ k) (h : LayS f g k i fs) :
    (mulP (sc (sg i * ch k i) (derP f (k - i) i)) (derP g i (k - i))).length = f.length + g.length - 1 - 2 * k ∧ LayS f g k (i + 1) (pl fs (mulP (sc (sg i * ch k i) (derP f (k - i) i)) (derP g i (k - i)))) := by
  have l1 : (derP f (k - i) i).length = f.length - k := by rw [derP_len]; omega
  have l2 : (derP g i (k - i)).length = g.length - k := by rw [derP_len]; omega
  have lm : (mulP (sc (sg i * ch k i) (derP f (k - i) i)) (derP g i (k - i))).length = f.length + g.length - 1 - 2 * k := by
    rw [mulP_len, sc_len, l1, l2]
    omega
  refine ⟨lm, by rw [pl_len (by rw [h.len, lm]), h.len], fun x y => ?_⟩
  rw [val_zip _ _ _ _ (by rw [h.len, lm]), h.val, val_mulP (by rw [sc_len, l1]; omega) (by rw [l2]; omega), val_map]
  show _ = sm _ i + sg i * ch k i * (val (derP f (k - i) i) x y * val (derP g i (k - i)) x y)
  rw [Int.mul_assoc (sg i * ch k i)]
theorem layS_end {f g fs : List Int} {k : Nat} (h1 : k < f.length) (h2 : k < g.length) (h : LayS f g k (k + 1) fs) : fs = layP f g k :=
  layP_eq h1 h2 h.len fun x y => by rw [h.val, layV_sum k f g x y h1 h2]
def sp_laid_row : Sp := fun vs H Q _ => ∃ (p q : Addr) (f g : List Int) (k : Nat), vs = [.ref p, .ref q, .int (k : Nat)] ∧ H p = some (TI f) ∧ H q = some (TI g) ∧ k < f.length ∧ k < g.length ∧ f.length ≤ 41 ∧ g.length ≤ 41 ∧ Lg f ∧ Lg g ∧
  ∀ H' r, Same H H' → H' r = some (TI (layP f g k)) → Q (.ref r) H'
theorem ok_laid_row (T : Tx K mg) : FnOk P w K mg base CX0 8 T.f_laid_row T.d_laid_row p_laid_row sp_laid_row := by
  refine T.F_laid_row.ok sc_laid_row (fun vs H Q E h => ?_) (fun cdv A outer s H vs Q E hr h => ?_)
  · obtain ⟨p, q, f, g, k, rfl, _⟩ := h
    rfl
  · obtain ⟨p, q, f, g, k, rfl, hp, hq, h1, h2, h3, h4, bf, bg, kk⟩ := h
    refine ⟨_, (pss_cons (ps_set (i := 3) sc_laid_row.nd rfl (Or.inl rfl) (pe_op op_repTA (pe_tup (pa_cons pe_int pa_nil)) (pe_op op_sub (pe_op op_sub (pe_op op_add (pe_callB cr_len (by rfl) T.z_len PySem.boot_len (pa_cons (pv 0) pa_nil)) (pe_callB cr_len (by rfl) T.z_len PySem.boot_len (pa_cons (pv 1) pa_nil))) (pe_op op_mulB pe_int (pv 2))) pe_int)))
      (pss_cons (ps_for PassesOwn.never rfl (pi_range1 (by rfl) T.z_range (pa_cons (pe_op op_add (pv 2) pe_int) pa_nil)) (pg_name (i := 4) sc_laid_row.nd rfl (by first | exact .inl rfl | exact .inr rfl))
      (pss_cons (ps_set (i := 5) sc_laid_row.nd rfl (Or.inl rfl) (pe_call (ok_derived_row T) (hr.mono (by decide)) (by rfl) T.m_derived_row T.F_derived_row.kp T.b_derived_row .nil pass0 (pa_cons (pv 0) (pa_cons (pe_op op_sub (pv 2) (pv 4)) (pa_cons (pv 4) pa_nil)))))
      (pss_cons (ps_set (i := 6) sc_laid_row.nd rfl (Or.inl rfl) (pe_call (ok_derived_row T) (hr.mono (by decide)) (by rfl) T.m_derived_row T.F_derived_row.kp T.b_derived_row .nil pass0 (pa_cons (pv 1) (pa_cons (pv 4) (pa_cons (pe_op op_sub (pv 2) (pv 4)) pa_nil)))))
      (pss_cons (ps_set (i := 7) sc_laid_row.nd rfl (Or.inl rfl) (pe_ifExp (pt_cmpR op_eq (pe_op op_mod (pv 4) pe_int) pe_int (nomark _)) pe_int (pe_un un_neg pe_int)))
      (pss_cons (ps_set (i := 8) sc_laid_row.nd rfl (Or.inr rfl) (pe_op op_mulB (pv 7) (pe_callBfun cr_comb (by rfl) T.i_comb (pa_cons (pv 2) (pa_cons (pv 4) pa_nil)))))
      (pss_one (ps_set (i := 3) sc_laid_row.nd rfl (Or.inl rfl) (pe_call (ok_sum_row T) (hr.mono (by decide)) (by rfl) T.m_sum_row T.F_sum_row.kp T.b_sum_row .nil pass0 (pa_cons (pv 3) (pa_cons (pe_call (ok_product_rowL T) (hr.mono (by decide)) (by rfl) T.m_product_row T.F_product_row.kp T.b_product_row .nil pass0 (pa_cons (pe_lc (own := [("entry", 9)]) (g := gName 9) (tt := tYes) rfl sc_laid_row.nd (pi_tup (pv 5)) (blkOk_by (N := n_laid_row) (sc := defScope s_laid_row) (by decide +kernel)) (fun _ _ _ _ _ => (pg_name (i := 9) sc_laid_row.nd rfl (by first | exact .inl rfl | exact .inr rfl))) (fun _ _ _ _ _ => pts_nil) (fun _ _ _ _ _ => (pe_op op_mulB (pv 8) (pv 9)))) (pa_cons (pv 6) pa_nil))) pa_nil))))))))))
      (pss_one (ps_ret (pv 3))))), ?_⟩
    rw [st_laid_row]
    simp only [ap_seq, ap_next, ap_asg, ap_gName, ap_ret, ap_retN, ap_drop, ap_ifS, ap_break, ap_cont, ap_par, ap_aug, ap_ip, ap_gSub, ap_gTup, ap_gNil, ap_gCons, ap_var, ap_c, ap_op, ap_un, ap_if, ap_test, ap_B, ap_and, ap_or, ap_not, ap_andV, ap_orV, ap_notV, ap_nil, ap_cons, ap_tup, ap_lst, ap_cb, ap_bm, ap_call, ap_chain, ap_rI, ap_rI0, ap_rU, ap_rEq, ap_rNe, ap_revT, ap_sl, ap_part, ap_noPart, ap_ixLI, ap_ixTI, ap_ixLV, ap_ixTV, ap_len, ap_setLI, ap_setLV, ap_appI, ap_appV, ap_tupL, ap_listS, ap_sumLI, ap_sumTI, ap_repLI, ap_intI, ap_intB, ap_eqTI, ap_neTI, ap_eqLI, ap_neLI, ap_isi, ap_for, ap_rng1, ap_rng2, ap_iList, ap_iTup, ap_lc, ap_yes, ap_cut, ap_gTupH, ap_fmt, ap_jsn, ap_jsc, ap_gcd, ap_isqrt, ap_ixL, tyV_l, wipe_nil, wipe_cons, upd_same, ap_iEnT, ap_iEnL, ap_iZipA, ap_all, ap_tupT, ap_attF, ap_makeL, ap_att, ap_prop, ap_isO, ap_bin, ap_ne, ap_meth, ap_make, ins_inj, FE_inj, ap_slI, ap_catI, ap_perm, ap_lenO, ap_strO, ap_listO, ap_reprB, ap_iterT, ap_neT, ap_negO, ap_binI, ap_catL, ap_tM1, ap_repTI, ap_popN, ap_par3, ap_catTT, ap_repTA, ap_countT, ap_notInT, ap_repL1, ap_cm, ap_shl, ap_shr, ap_mask, ap_comb, ap_bits, ap_rng3, List.set_cons_zero, List.set_cons_succ, List.getElem?_cons_zero, List.getElem?_cons_succ, List.cons_append, List.nil_append, List.append_nil, Option.some.injEq, V.int.injEq, V.ref.injEq, V.bl.injEq, V.str.injEq, V.ty.injEq, Bool.not_true, Bool.not_false, HO.lst.injEq, HO.tup.injEq, reduceCtorEq, Int.reduceToNat, Int.reduceLT, Int.reduceLE, Nat.reduceAdd, Int.cast_ofNat_Int, gi_c0, gi_c1, gi_c2, gi_c3, Int.natCast_inj, map_int_inj, map_nil_iff, List.cons.injEq, exists_eq_left, exists_eq_left', exists_eq, exists_eq', exists_and_left, exists_and_right, exists_const, and_assoc, and_true, true_and, and_false, false_and, or_false, false_or, or_true, true_or, ite_true, ite_false, if_true, if_false, Bool.false_eq_true, own_cons, own_nil, le1, le2, le3, le4, me_cons, me_nil, List.length_map, List.length_cons, List.length_nil, ne_eq, not_false_eq_true, not_true_eq_false, decide_eq_true_eq, hp, hq, CMu]
    refine ⟨by decide, fun u nu => ?_⟩
    have s0 := same_upd (o := TI [0]) nu
    have hp0 := s0 _ _ hp
    have hq0 := s0 _ _ hq
    have lf : (f.map V.int).length = f.length := List.length_map ..
    have lg : (g.map V.int).length = g.length := List.length_map ..
    refine ⟨_, .inr hp0, _, .inr hq0, by decide, by decide, by omega, by omega, by rw [lf, lg]; omega, by rw [lf, lg]; omega, fun t H1 s1 et => ⟨by omega, by omega, ?_⟩⟩
    rw [lf, lg] at et
    have S1 := s0.trans s1
    have eK : ((k : Int) + 1).toNat = k + 1 := by omega
    rw [eK]
    refine loop_range (fun i σ' H' => (∃ (r : Addr) (fs : List Int) (y4 y5 y6 y7 y8 y9 : Option V), σ' = [some (.ref p), some (.ref q), some (.int (k : Nat)), some (.ref r), y4, y5, y6, y7, y8, y9] ∧ H' r = some (TI fs) ∧ LayS f g k i fs) ∧ Same H H') ⟨⟨t, _, _, _, _, _, _, _, rfl, et, layS_zero _ (by omega)⟩, S1⟩ (fun i σ' H2 hi hP => ?_) (fun σ' H2 hP => ?_)
    · obtain ⟨⟨r, fs, y4, y5, y6, y7, y8, y9, e, er, ls⟩, sm2⟩ := hP
      subst e
      have hp2 := sm2 _ _ hp
      have hq2 := sm2 _ _ hq
      have ei : (k : Int) - (i : Nat) = ((k - i : Nat) : Int) := by omega
      simp only [ap_seq, ap_next, ap_asg, ap_gName, ap_ret, ap_retN, ap_drop, ap_ifS, ap_break, ap_cont, ap_par, ap_aug, ap_ip, ap_gSub, ap_gTup, ap_gNil, ap_gCons, ap_var, ap_c, ap_op, ap_un, ap_if, ap_test, ap_B, ap_and, ap_or, ap_not, ap_andV, ap_orV, ap_notV, ap_nil, ap_cons, ap_tup, ap_lst, ap_cb, ap_bm, ap_call, ap_chain, ap_rI, ap_rI0, ap_rU, ap_rEq, ap_rNe, ap_revT, ap_sl, ap_part, ap_noPart, ap_ixLI, ap_ixTI, ap_ixLV, ap_ixTV, ap_len, ap_setLI, ap_setLV, ap_appI, ap_appV, ap_tupL, ap_listS, ap_sumLI, ap_sumTI, ap_repLI, ap_intI, ap_intB, ap_eqTI, ap_neTI, ap_eqLI, ap_neLI, ap_isi, ap_for, ap_rng1, ap_rng2, ap_iList, ap_iTup, ap_lc, ap_yes, ap_cut, ap_gTupH, ap_fmt, ap_jsn, ap_jsc, ap_gcd, ap_isqrt, ap_ixL, tyV_l, wipe_nil, wipe_cons, upd_same, ap_iEnT, ap_iEnL, ap_iZipA, ap_all, ap_tupT, ap_attF, ap_makeL, ap_att, ap_prop, ap_isO, ap_bin, ap_ne, ap_meth, ap_make, ins_inj, FE_inj, ap_slI, ap_catI, ap_perm, ap_lenO, ap_strO, ap_listO, ap_reprB, ap_iterT, ap_neT, ap_negO, ap_binI, ap_catL, ap_tM1, ap_repTI, ap_popN, ap_par3, ap_catTT, ap_repTA, ap_countT, ap_notInT, ap_repL1, ap_cm, ap_shl, ap_shr, ap_mask, ap_comb, ap_bits, ap_rng3, List.set_cons_zero, List.set_cons_succ, List.getElem?_cons_zero, List.getElem?_cons_succ, List.cons_append, List.nil_append, List.append_nil, Option.some.injEq, V.int.injEq, V.ref.injEq, V.bl.injEq, V.str.injEq, V.ty.injEq, Bool.not_true, Bool.not_false, HO.lst.injEq, HO.tup.injEq, reduceCtorEq, Int.reduceToNat, Int.reduceLT, Int.reduceLE, Nat.reduceAdd, Int.cast_ofNat_Int, gi_c0, gi_c1, gi_c2, gi_c3, Int.natCast_inj, map_int_inj, map_nil_iff, List.cons.injEq, exists_eq_left, exists_eq_left', exists_eq, exists_eq', exists_and_left, exists_and_right, exists_const, and_assoc, and_true, true_and, and_false, false_and, or_false, false_or, or_true, true_or, ite_true, ite_false, if_true, if_false, Bool.false_eq_true, own_cons, own_nil, le1, le2, le3, le4, me_cons, me_nil, List.length_map, List.length_cons, List.length_nil, ne_eq, not_false_eq_true, not_true_eq_false, decide_eq_true_eq, ei, CMu, Int.zero_add]
      have nx := layS_next h1 h2 (show i ≤ k by omega) ls
      refine ⟨p, f, k - i, i, rfl, hp2, by omega, by omega, bf, fun H3 a s3 na ea => ?_⟩
      refine ⟨q, g, i, k - i, rfl, s3 _ _ hq2, by omega, by omega, bg, fun H4 b s4 nb eb => ?_⟩
      have ea : H3 a = some (TI (derP f (k - i) i)) := ea
      have eb : H4 b = some (TI (derP g i (k - i))) := eb
      have ea4 := s4 _ _ ea
      have cb := ch_bd (n := k) (k := i) (by omega) (by omega)
      have er4 := s4 _ _ (s3 _ _ er)
      refine ⟨rfl, ?_⟩
      have wc := big_of' (Nat.lt_of_le_of_lt cb (show 2 ^ 40 < 2 ^ 4000 by decide +kernel))
      refine iteC (fun c => ?_) (fun c => ?_)
      · have hz : ((1 : Int)) = sg i := by
          unfold sg
          rw [if_pos (by omega)]
        rw [comb_ch (by omega) (by omega)]
        refine ⟨by omega, by omega, by omega, by omega, by decide, by decide, wc.1, wc.2, a, rfl, ⟨_, sqT_of ea4⟩, ?_⟩
        rw [hz]
        refine lc_tupI (fun u => sg i * ch k i * (derP f (k - i) i).getD u 0) ea4 (by rw [List.length_map, derP_len]; omega) (fun x => rfl) (fun u x H5 hx s5 Q' k' => ?_) (fun A H5 nA s5 eA => ?_)
        · obtain ⟨n, rfl, en⟩ := at_int hx
          have b1 := derP_wd h3 bf n (List.mem_of_getElem? en)
          have b2 := sgch_wd (k := k) (i := i) (by omega) (by omega)
          unfold Wd at b1 b2
          simp only [ap_seq, ap_next, ap_asg, ap_gName, ap_ret, ap_retN, ap_drop, ap_ifS, ap_break, ap_cont, ap_par, ap_aug, ap_ip, ap_gSub, ap_gTup, ap_gNil, ap_gCons, ap_var, ap_c, ap_op, ap_un, ap_if, ap_test, ap_B, ap_and, ap_or, ap_not, ap_andV, ap_orV, ap_notV, ap_nil, ap_cons, ap_tup, ap_lst, ap_cb, ap_bm, ap_call, ap_chain, ap_rI, ap_rI0, ap_rU, ap_rEq, ap_rNe, ap_revT, ap_sl, ap_part, ap_noPart, ap_ixLI, ap_ixTI, ap_ixLV, ap_ixTV, ap_len, ap_setLI, ap_setLV, ap_appI, ap_appV, ap_tupL, ap_listS, ap_sumLI, ap_sumTI, ap_repLI, ap_intI, ap_intB, ap_eqTI, ap_neTI, ap_eqLI, ap_neLI, ap_isi, ap_for, ap_rng1, ap_rng2, ap_iList, ap_iTup, ap_lc, ap_yes, ap_cut, ap_gTupH, ap_fmt, ap_jsn, ap_jsc, ap_gcd, ap_isqrt, ap_ixL, tyV_l, wipe_nil, wipe_cons, upd_same, ap_iEnT, ap_iEnL, ap_iZipA, ap_all, ap_tupT, ap_attF, ap_makeL, ap_att, ap_prop, ap_isO, ap_bin, ap_ne, ap_meth, ap_make, ins_inj, FE_inj, ap_slI, ap_catI, ap_perm, ap_lenO, ap_strO, ap_listO, ap_reprB, ap_iterT, ap_neT, ap_negO, ap_binI, ap_catL, ap_tM1, ap_repTI, ap_popN, ap_par3, ap_catTT, ap_repTA, ap_countT, ap_notInT, ap_repL1, ap_cm, ap_shl, ap_shr, ap_mask, ap_comb, ap_bits, ap_rng3, List.set_cons_zero, List.set_cons_succ, List.getElem?_cons_zero, List.getElem?_cons_succ, List.cons_append, List.nil_append, List.append_nil, Option.some.injEq, V.int.injEq, V.ref.injEq, V.bl.injEq, V.str.injEq, V.ty.injEq, Bool.not_true, Bool.not_false, HO.lst.injEq, HO.tup.injEq, reduceCtorEq, Int.reduceToNat, Int.reduceLT, Int.reduceLE, Nat.reduceAdd, Int.cast_ofNat_Int, gi_c0, gi_c1, gi_c2, gi_c3, Int.natCast_inj, map_int_inj, map_nil_iff, List.cons.injEq, exists_eq_left, exists_eq_left', exists_eq, exists_eq', exists_and_left, exists_and_right, exists_const, and_assoc, and_true, true_and, and_false, false_and, or_false, false_or, or_true, true_or, ite_true, ite_false, if_true, if_false, Bool.false_eq_true, own_cons, own_nil, le1, le2, le3, le4, me_cons, me_nil, List.length_map, List.length_cons, List.length_nil, ne_eq, not_false_eq_true, not_true_eq_false, decide_eq_true_eq, CMu]
          rw [List.getD_eq_getElem?_getD, en] at k'
          exact ⟨b2.1, b2.2, b1.1, b1.2, k' _ (Same.refl _)⟩
        · have eA2 : H5 A = some (LI (sc (sg i * ch k i) (derP f (k - i) i))) := by
            rw [eA, List.length_map]
            have el : (sc (sg i * ch k i) (derP f (k - i) i)).length = (derP f (k - i) i).length := sc_len ..
            rw [← el]
            refine congrArg (fun z => some (HO.lst (List.map V.int z))) (range_map fun u n hn => ?_)
            rw [List.getElem?_map] at hn
            rw [List.getD_eq_getElem?_getD]
            rcases e1 : (derP f (k - i) i)[u]? with _ | m
            · rw [e1] at hn
              cases hn
            · rw [e1] at hn
              exact Option.some.inj hn
          have l1 : (derP f (k - i) i).length = f.length - k := by rw [derP_len]; omega
          have l2 : (derP g i (k - i)).length = g.length - k := by rw [derP_len]; omega
          refine ⟨A, b, _, _, rfl, eA2, s5 _ _ eb, by rw [sc_len]; omega, by omega, by rw [sc_len]; omega, by omega, fac_wd h3 bf (by omega) (by omega), derP_wd h4 bg, fun H6 m s6 nm em => ?_⟩
          refine ⟨r, m, _, _, rfl, s6 _ _ (s5 _ _ er4), em, by rw [ls.len, nx.1], by rw [ls.len]; omega, fun H7 t7 s7 nt7 et7 => ?_⟩
          exact ⟨⟨t7, rfl, _, et7, nx.2⟩, ((((sm2.trans s3).trans s4).trans s5).trans s6).trans s7⟩
      · have hz : ((-1 : Int)) = sg i := by
          unfold sg
          rw [if_neg (by omega)]
        rw [comb_ch (by omega) (by omega)]
        refine ⟨by omega, by omega, by omega, by omega, by decide, by decide, wc.1, wc.2, a, rfl, ⟨_, sqT_of ea4⟩, ?_⟩
        rw [hz]
        refine lc_tupI (fun u => sg i * ch k i * (derP f (k - i) i).getD u 0) ea4 (by rw [List.length_map, derP_len]; omega) (fun x => rfl) (fun u x H5 hx s5 Q' k' => ?_) (fun A H5 nA s5 eA => ?_)
        · obtain ⟨n, rfl, en⟩ := at_int hx
          have b1 := derP_wd h3 bf n (List.mem_of_getElem? en)
          have b2 := sgch_wd (k := k) (i := i) (by omega) (by omega)
          unfold Wd at b1 b2
          simp only [ap_seq, ap_next, ap_asg, ap_gName, ap_ret, ap_retN, ap_drop, ap_ifS, ap_break, ap_cont, ap_par, ap_aug, ap_ip, ap_gSub, ap_gTup, ap_gNil, ap_gCons, ap_var, ap_c, ap_op, ap_un, ap_if, ap_test, ap_B, ap_and, ap_or, ap_not, ap_andV, ap_orV, ap_notV, ap_nil, ap_cons, ap_tup, ap_lst, ap_cb, ap_bm, ap_call, ap_chain, ap_rI, ap_rI0, ap_rU, ap_rEq, ap_rNe, ap_revT, ap_sl, ap_part, ap_noPart, ap_ixLI, ap_ixTI, ap_ixLV, ap_ixTV, ap_len, ap_setLI, ap_setLV, ap_appI, ap_appV, ap_tupL, ap_listS, ap_sumLI, ap_sumTI, ap_repLI, ap_intI, ap_intB, ap_eqTI, ap_neTI, ap_eqLI, ap_neLI, ap_isi, ap_for, ap_rng1, ap_rng2, ap_iList, ap_iTup, ap_lc, ap_yes, ap_cut, ap_gTupH, ap_fmt, ap_jsn, ap_jsc, ap_gcd, ap_isqrt, ap_ixL, tyV_l, wipe_nil, wipe_cons, upd_same, ap_iEnT, ap_iEnL, ap_iZipA, ap_all, ap_tupT, ap_attF, ap_makeL, ap_att, ap_prop, ap_isO, ap_bin, ap_ne, ap_meth, ap_make, ins_inj, FE_inj, ap_slI, ap_catI, ap_perm, ap_lenO, ap_strO, ap_listO, ap_reprB, ap_iterT, ap_neT, ap_negO, ap_binI, ap_catL, ap_tM1, ap_repTI, ap_popN, ap_par3, ap_catTT, ap_repTA, ap_countT, ap_notInT, ap_repL1, ap_cm, ap_shl, ap_shr, ap_mask, ap_comb, ap_bits, ap_rng3, List.set_cons_zero, List.set_cons_succ, List.getElem?_cons_zero, List.getElem?_cons_succ, List.cons_append, List.nil_append, List.append_nil, Option.some.injEq, V.int.injEq, V.ref.injEq, V.bl.injEq, V.str.injEq, V.ty.injEq, Bool.not_true, Bool.not_false, HO.lst.injEq, HO.tup.injEq, reduceCtorEq, Int.reduceToNat, Int.reduceLT, Int.reduceLE, Nat.reduceAdd, Int.cast_ofNat_Int, gi_c0, gi_c1, gi_c2, gi_c3, Int.natCast_inj, map_int_inj, map_nil_iff, List.cons.injEq, exists_eq_left, exists_eq_left', exists_eq, exists_eq', exists_and_left, exists_and_right, exists_const, and_assoc, and_true, true_and, and_false, false_and, or_false, false_or, or_true, true_or, ite_true, ite_false, if_true, if_false, Bool.false_eq_true, own_cons, own_nil, le1, le2, le3, le4, me_cons, me_nil, List.length_map, List.length_cons, List.length_nil, ne_eq, not_false_eq_true, not_true_eq_false, decide_eq_true_eq, CMu]
          rw [List.getD_eq_getElem?_getD, en] at k'
          exact ⟨b2.1, b2.2, b1.1, b1.2, k' _ (Same.refl _)⟩
        · have eA2 : H5 A = some (LI (sc (sg i * ch k i) (derP f (k - i) i))) := by
            rw [eA, List.length_map]
            have el : (sc (sg i * ch k i) (derP f (k - i) i)).length = (derP f (k - i) i).length := sc_len ..
            rw [← el]
            refine congrArg (fun z => some (HO.lst (List.map V.int z))) (range_map fun u n hn => ?_)
            rw [List.getElem?_map] at hn
            rw [List.getD_eq_getElem?_getD]
            rcases e1 : (derP f (k - i) i)[u]? with _ | m
            · rw [e1] at hn
              cases hn
            · rw [e1] at hn
              exact Option.some.inj hn
          have l1 : (derP f (k - i) i).length = f.length - k := by rw [derP_len]; omega
          have l2 : (derP g i (k - i)).length = g.length - k := by rw [derP_len]; omega
          refine ⟨A, b, _, _, rfl, eA2, s5 _ _ eb, by rw [sc_len]; omega, by omega, by rw [sc_len]; omega, by omega, fac_wd h3 bf (by omega) (by omega), derP_wd h4 bg, fun H6 m s6 nm em => ?_⟩
          refine ⟨r, m, _, _, rfl, s6 _ _ (s5 _ _ er4), em, by rw [ls.len, nx.1], by rw [ls.len]; omega, fun H7 t7 s7 nt7 et7 => ?_⟩
          exact ⟨⟨t7, rfl, _, et7, nx.2⟩, ((((sm2.trans s3).trans s4).trans s5).trans s6).trans s7⟩
    · obtain ⟨⟨r, fs, y4, y5, y6, y7, y8, y9, e, er, ls⟩, sm2⟩ := hP
      subst e
      simp only [ap_seq, ap_next, ap_asg, ap_gName, ap_ret, ap_retN, ap_drop, ap_ifS, ap_break, ap_cont, ap_par, ap_aug, ap_ip, ap_gSub, ap_gTup, ap_gNil, ap_gCons, ap_var, ap_c, ap_op, ap_un, ap_if, ap_test, ap_B, ap_and, ap_or, ap_not, ap_andV, ap_orV, ap_notV, ap_nil, ap_cons, ap_tup, ap_lst, ap_cb, ap_bm, ap_call, ap_chain, ap_rI, ap_rI0, ap_rU, ap_rEq, ap_rNe, ap_revT, ap_sl, ap_part, ap_noPart, ap_ixLI, ap_ixTI, ap_ixLV, ap_ixTV, ap_len, ap_setLI, ap_setLV, ap_appI, ap_appV, ap_tupL, ap_listS, ap_sumLI, ap_sumTI, ap_repLI, ap_intI, ap_intB, ap_eqTI, ap_neTI, ap_eqLI, ap_neLI, ap_isi, ap_for, ap_rng1, ap_rng2, ap_iList, ap_iTup, ap_lc, ap_yes, ap_cut, ap_gTupH, ap_fmt, ap_jsn, ap_jsc, ap_gcd, ap_isqrt, ap_ixL, tyV_l, wipe_nil, wipe_cons, upd_same, ap_iEnT, ap_iEnL, ap_iZipA, ap_all, ap_tupT, ap_attF, ap_makeL, ap_att, ap_prop, ap_isO, ap_bin, ap_ne, ap_meth, ap_make, ins_inj, FE_inj, ap_slI, ap_catI, ap_perm, ap_lenO, ap_strO, ap_listO, ap_reprB, ap_iterT, ap_neT, ap_negO, ap_binI, ap_catL, ap_tM1, ap_repTI, ap_popN, ap_par3, ap_catTT, ap_repTA, ap_countT, ap_notInT, ap_repL1, ap_cm, ap_shl, ap_shr, ap_mask, ap_comb, ap_bits, ap_rng3, List.set_cons_zero, List.set_cons_succ, List.getElem?_cons_zero, List.getElem?_cons_succ, List.cons_append, List.nil_append, List.append_nil, Option.some.injEq, V.int.injEq, V.ref.injEq, V.bl.injEq, V.str.injEq, V.ty.injEq, Bool.not_true, Bool.not_false, HO.lst.injEq, HO.tup.injEq, reduceCtorEq, Int.reduceToNat, Int.reduceLT, Int.reduceLE, Nat.reduceAdd, Int.cast_ofNat_Int, gi_c0, gi_c1, gi_c2, gi_c3, Int.natCast_inj, map_int_inj, map_nil_iff, List.cons.injEq, exists_eq_left, exists_eq_left', exists_eq, exists_eq', exists_and_left, exists_and_right, exists_const, and_assoc, and_true, true_and, and_false, false_and, or_false, false_or, or_true, true_or, ite_true, ite_false, if_true, if_false, Bool.false_eq_true, own_cons, own_nil, le1, le2, le3, le4, me_cons, me_nil, List.length_map, List.length_cons, List.length_nil, ne_eq, not_false_eq_true, not_true_eq_false, decide_eq_true_eq]
      rw [layS_end h1 h2 ls] at er
      exact kk H2 r sm2 er
end
end My
namespace My
open PySem PySem.Spec PyProof.Rows L2 Pr M00
section
variable {P : Program} {w : World} {K : PySem.W.Frag} {mg : Str → Option Value} {base : Heap}
def sp_laid (C : Addr) : Sp := fun vs H Q _ => ∃ (p dx t p' dx' t' : Addr) (f g : List Int) (k : Nat), vs = [.ref p, .ref p', .int (k : Nat)] ∧ H p = some (.ins C dx (FEe t)) ∧ H t = some (TI f) ∧ H p' = some (.ins C dx' (FEe t')) ∧ H t' = some (TI g) ∧
  k < f.length ∧ k < g.length ∧ f.length ≤ 41 ∧ g.length ≤ 41 ∧ f.length + g.length ≤ 42 + 2 * k ∧ Lg f ∧ Lg g ∧
  ∀ H' r dr t, Same H H' → H r = none → H' r = some (.ins C dr (FEe t)) → H' t = some (TI (layP f g k)) → Q (.ref r) H'
theorem ok_laid (T : Tx K mg) : FnOk P w K mg base CX0 14 T.f_laid T.d_laid p_laid (sp_laid T.C_Form) := by
  refine T.F_laid.ok sc_laid (fun vs H Q E h => ?_) (fun cdv A outer s H vs Q E hr h => ?_)
  · obtain ⟨p, dx, t, p', dx', t', f, g, k, rfl, _⟩ := h
    rfl
  · obtain ⟨p, dx, t, p', dx', t', f, g, k, rfl, hp, ht, hp', ht', h1, h2, h3, h4, h5, bf, bg, kk⟩ := h
    refine ⟨_, (pss_cons (ps_expr (pe_call (ok_need_form T) (hr.mono (by decide)) (by rfl) T.m_need_form T.F_need_form.kp T.b_need_form .nil pass0 (pa_cons (pv 0) pa_nil)))
      (pss_cons (ps_expr (pe_call (ok_need_form T) (hr.mono (by decide)) (by rfl) T.m_need_form T.F_need_form.kp T.b_need_form .nil pass0 (pa_cons (pv 1) pa_nil)))
      (pss_cons (ps_expr (pe_call (ok_need_number T) (hr.mono (by decide)) (by rfl) T.m_need_number T.F_need_number.kp T.b_need_number .nil pass0 (pa_cons (pv 2) (pa_cons pe_int (pa_cons (pe_callB (call_min2 rfl) (by rfl) T.z_min (by decide +kernel) (pa_cons (pe_prop (pv 0) T.cl_Form T.pr_Form_degree (ok_Form_degree T) (hr.mono (by decide)) T.b_Form_degree .nil pass0 (by rfl)) (pa_cons (pe_prop (pv 1) T.cl_Form T.pr_Form_degree (ok_Form_degree T) (hr.mono (by decide)) T.b_Form_degree .nil pass0 (by rfl)) pa_nil))) pa_nil)))))
      (pss_cons (ps_if (pt_cmpR op_gt (pe_op op_sub (pe_op op_add (pe_prop (pv 0) T.cl_Form T.pr_Form_degree (ok_Form_degree T) (hr.mono (by decide)) T.b_Form_degree .nil pass0 (by rfl)) (pe_prop (pv 1) T.cl_Form T.pr_Form_degree (ok_Form_degree T) (hr.mono (by decide)) T.b_Form_degree .nil pass0 (by rfl))) (pe_op op_mulB pe_int (pv 2))) (pe_glob (v := .int 40) (by rfl) T.c_MAX_DEGREE ⟨_, rfl⟩) (nomark _)) (pss_one ps_never) pss_nil)
      (pss_one (ps_ret (pe_call (ok_made_form T) (hr.mono (by decide)) (by rfl) T.m_made_form T.F_made_form.kp T.b_made_form .nil pass0 (pa_cons (pe_call (ok_laid_row T) (hr.mono (by decide)) (by rfl) T.m_laid_row T.F_laid_row.kp T.b_laid_row .nil pass0 (pa_cons (pe_prop (pv 0) T.cl_Form T.pr_Form_entries (ok_Form_entries T) (hr.mono (by decide)) T.b_Form_entries .nil pass0 (by rfl)) (pa_cons (pe_prop (pv 1) T.cl_Form T.pr_Form_entries (ok_Form_entries T) (hr.mono (by decide)) T.b_Form_entries .nil pass0 (by rfl)) (pa_cons (pv 2) pa_nil)))) pa_nil)))))))), ?_⟩
    rw [st_laid]
    simp only [ap_seq, ap_next, ap_asg, ap_gName, ap_ret, ap_retN, ap_drop, ap_ifS, ap_break, ap_cont, ap_par, ap_aug, ap_ip, ap_gSub, ap_gTup, ap_gNil, ap_gCons, ap_var, ap_c, ap_op, ap_un, ap_if, ap_test, ap_B, ap_and, ap_or, ap_not, ap_andV, ap_orV, ap_notV, ap_nil, ap_cons, ap_tup, ap_lst, ap_cb, ap_bm, ap_call, ap_chain, ap_rI, ap_rI0, ap_rU, ap_rEq, ap_rNe, ap_revT, ap_sl, ap_part, ap_noPart, ap_ixLI, ap_ixTI, ap_ixLV, ap_ixTV, ap_len, ap_setLI, ap_setLV, ap_appI, ap_appV, ap_tupL, ap_listS, ap_sumLI, ap_sumTI, ap_repLI, ap_intI, ap_intB, ap_eqTI, ap_neTI, ap_eqLI, ap_neLI, ap_isi, ap_for, ap_rng1, ap_rng2, ap_iList, ap_iTup, ap_lc, ap_yes, ap_cut, ap_gTupH, ap_fmt, ap_jsn, ap_jsc, ap_gcd, ap_isqrt, ap_ixL, tyV_l, wipe_nil, wipe_cons, upd_same, ap_iEnT, ap_iEnL, ap_iZipA, ap_all, ap_tupT, ap_attF, ap_makeL, ap_att, ap_prop, ap_isO, ap_bin, ap_ne, ap_meth, ap_make, ins_inj, FE_inj, ap_slI, ap_catI, ap_perm, ap_lenO, ap_strO, ap_listO, ap_reprB, ap_iterT, ap_neT, ap_negO, ap_binI, ap_catL, ap_tM1, ap_repTI, ap_popN, ap_par3, ap_catTT, ap_repTA, ap_countT, ap_notInT, ap_repL1, ap_cm, ap_shl, ap_shr, ap_mask, ap_comb, ap_bits, ap_rng3, List.set_cons_zero, List.set_cons_succ, List.getElem?_cons_zero, List.getElem?_cons_succ, List.cons_append, List.nil_append, List.append_nil, Option.some.injEq, V.int.injEq, V.ref.injEq, V.bl.injEq, V.str.injEq, V.ty.injEq, Bool.not_true, Bool.not_false, HO.lst.injEq, HO.tup.injEq, reduceCtorEq, Int.reduceToNat, Int.reduceLT, Int.reduceLE, Nat.reduceAdd, Int.cast_ofNat_Int, gi_c0, gi_c1, gi_c2, gi_c3, Int.natCast_inj, map_int_inj, map_nil_iff, List.cons.injEq, exists_eq_left, exists_eq_left', exists_eq, exists_eq', exists_and_left, exists_and_right, exists_const, and_assoc, and_true, true_and, and_false, false_and, or_false, false_or, or_true, true_or, ite_true, ite_false, if_true, if_false, Bool.false_eq_true, own_cons, own_nil, le1, le2, le3, le4, me_cons, me_nil, List.length_map, List.length_cons, List.length_nil, ne_eq, not_false_eq_true, not_true_eq_false, decide_eq_true_eq, hp, ht, hp', ht', sp_need_form, sp_Form_degree, CMu]
    have em : (if (g.length : Int) - 1 < (f.length : Int) - 1 then (g.length : Int) - 1 else (f.length : Int) - 1) ≥ k := by
      by_cases c : (g.length : Int) - 1 < (f.length : Int) - 1
      · rw [if_pos c]; omega
      · rw [if_neg c]; omega
    refine ⟨k, 0, _, rfl, by omega, em, by unfold Sm; omega, ⟨_, _, hp⟩, _, _, hp, _, ht, ⟨_, _, hp'⟩, _, _, hp', _, ht', by decide, by decide, by omega, by omega, ?_⟩
    rw [if_neg (by omega)]
    refine ⟨⟨_, _, hp⟩, p, dx, t, rfl, hp, ⟨_, _, hp'⟩, p', dx', t', rfl, hp', t, t', f, g, k, rfl, ht, ht', h1, h2, h3, h4, bf, bg, fun H1 r s1 er => ?_⟩
    exact ⟨r, _, rfl, er, fun y dy H2 s2 ny hy => kk H2 y dy r (s1.trans s2) (free_of s1 ny) hy (s2 _ _ er)⟩
end
theorem l1_le {ns : List Int} {A : Nat} (h : ∀ n ∈ ns, n.natAbs ≤ A) : l1 ns ≤ ns.length * A := by
  induction ns with
  | nil => exact Nat.zero_le _
  | cons c cs ih =>
    have i1 := ih fun n hn => h n (List.mem_cons_of_mem _ hn)
    have i2 := h c (List.mem_cons_self ..)
    rw [l1_cons, List.length_cons, Nat.add_mul, Nat.one_mul]
    omega
theorem lay_bm {f g : List Int} {k : Nat} (h3 : f.length ≤ 41) (h4 : g.length ≤ 41) (bf : ∀ n ∈ f, n.natAbs ≤ 2 ^ 1000) (bg : ∀ n ∈ g, n.natAbs ≤ 2 ^ 1000) : ∀ i, i ≤ k → ∀ n ∈ mulP (derP f (k - i) i) (derP g i (k - i)), Wd n := fun i hi n hn => by
  have db : ∀ (es : List Int) (i j : Nat), es.length ≤ 41 → (∀ n ∈ es, n.natAbs ≤ 2 ^ 1000) → l1 (derP es i j) ≤ 41 * (2 ^ 1000 * 41 ^ 41 * 41 ^ 41) := fun es i j h bs => by
    have fb : ∀ m k, m ≤ 41 → k ≤ 41 → fall m k ≤ 41 ^ 41 := fun m k hm hk => Nat.le_trans (fall_le m k) (Nat.le_trans (Nat.pow_le_pow_left hm k) (Nat.pow_le_pow_right (by decide) hk))
    have e : ∀ n ∈ derP es i j, n.natAbs ≤ 2 ^ 1000 * 41 ^ 41 * 41 ^ 41 := fun n hn => by
      obtain ⟨u, hu, rfl⟩ := List.mem_map.mp hn
      rw [List.mem_range] at hu
      have f1 := fb (es.length - 1 - (j + u)) i (by omega) (by omega)
      have f2 := fb (j + u) j (by omega) (by omega)
      have hlt : j + u < es.length := by omega
      have be : (es.getD (j + u) 0).natAbs ≤ 2 ^ 1000 := by
        rw [List.getD_eq_getElem?_getD, List.getElem?_eq_getElem hlt]
        exact bs _ (List.getElem_mem hlt)
      rw [Int.natAbs_mul, Int.natAbs_mul, Int.natAbs_natCast, Int.natAbs_natCast]
      exact Nat.mul_le_mul (Nat.mul_le_mul be f1) f2
    refine Nat.le_trans (l1_le e) (Nat.mul_le_mul_right _ ?_)
    rw [derP_len]
    omega
  refine wd_of (Nat.lt_of_le_of_lt (Nat.le_trans (l1_mem hn) (Nat.le_trans (l1_mulP _ _) (Nat.mul_le_mul (db f _ _ h3 bf) (db g _ _ h4 bg)))) (by decide +kernel))
section
variable {P : Program} {w : World} {K : PySem.W.Frag} {mg : Str → Option Value} {base : Heap}
theorem layS_next' {f g fs : List Int} {k i : Nat} (h1 : k < f.length) (h2 : k < g.length) (hi : i ≤ k) (h : LayS f g k i fs) :
    LayS f g k (i + 1) (pl fs (sc (sg i * ch k i) (mulP (derP f (k - i) i) (derP g i (k - i))))) := by
  have l1 : (derP f (k - i) i).length = f.length - k := by rw [derP_len]; omega
  have l2 : (derP g i (k - i)).length = g.length - k := by rw [derP_len]; omega
  have lm : (sc (sg i * ch k i) (mulP (derP f (k - i) i) (derP g i (k - i)))).length = f.length + g.length - 1 - 2 * k := by
    rw [sc_len, mulP_len, l1, l2]
    omega
  refine ⟨by rw [pl_len (by rw [h.len, lm]), h.len], fun x y => ?_⟩
  rw [val_zip _ _ _ _ (by rw [h.len, lm]), h.val, val_map, val_mulP (by rw [l1]; omega) (by rw [l2]; omega)]
  rfl
def sp_law_laid : Sp := fun vs H Q _ => ∃ (p q : Addr) (f g : List Int) (k : Nat), vs = [.ref p, .ref q, .int (k : Nat)] ∧ H p = some (TI f) ∧ H q = some (TI g) ∧ k < f.length ∧ k < g.length ∧ f.length ≤ 41 ∧ g.length ≤ 41 ∧ Lg f ∧ Lg g ∧
  (∀ i, i ≤ k → ∀ n ∈ mulP (derP f (k - i) i) (derP g i (k - i)), Wd n) ∧
  ∀ H' r, Same H H' → H' r = some (TI (layP f g k)) → Q (.ref r) H'
theorem ok_law_laid (T : Tx K mg) : FnOk P w K mg base CX0 8 T.f_law_laid T.d_law_laid p_law_laid sp_law_laid := by
  refine T.F_law_laid.ok sc_law_laid (fun vs H Q E h => ?_) (fun cdv A outer s H vs Q E hr h => ?_)
  · obtain ⟨p, q, f, g, k, rfl, _⟩ := h
    rfl
  · obtain ⟨p, q, f, g, k, rfl, hp, hq, h1, h2, h3, h4, bf, bg, bm, kk⟩ := h
    refine ⟨_, (pss_cons (ps_set (i := 3) sc_law_laid.nd rfl (Or.inl rfl) (pe_callTy cr_tupL (by rfl) T.z_tuple (by decide +kernel) (pa_cons (pe_lc (own := [("_law_place", 7)]) (g := gName 7) (tt := tYes) rfl sc_law_laid.nd (pi_range1 (by rfl) T.z_range (pa_cons (pe_op op_sub (pe_op op_sub (pe_op op_add (pe_callB cr_len (by rfl) T.z_len PySem.boot_len (pa_cons (pv 0) pa_nil)) (pe_callB cr_len (by rfl) T.z_len PySem.boot_len (pa_cons (pv 1) pa_nil))) pe_int) (pe_op op_mulB pe_int (pv 2))) pa_nil)) (blkOk_by (N := n_law_laid) (sc := defScope s_law_laid) (by decide +kernel)) (fun _ _ _ _ _ => (pg_name (i := 7) sc_law_laid.nd rfl (by first | exact .inl rfl | exact .inr rfl))) (fun _ _ _ _ _ => pts_nil) (fun _ _ _ _ _ => pe_int)) pa_nil)))
      (pss_cons (ps_for PassesOwn.never rfl (pi_range1 (by rfl) T.z_range (pa_cons (pe_op op_add (pv 2) pe_int) pa_nil)) (pg_name (i := 4) sc_law_laid.nd rfl (by first | exact .inl rfl | exact .inr rfl))
      (pss_cons (ps_set (i := 5) sc_law_laid.nd rfl (Or.inl rfl) (pe_call (ok_law_product T) (hr.mono (by decide)) (by rfl) T.m_law_product T.F_law_product.kp T.b_law_product .nil pass0 (pa_cons (pe_call (ok_law_derived T) (hr.mono (by decide)) (by rfl) T.m_law_derived T.F_law_derived.kp T.b_law_derived .nil pass0 (pa_cons (pv 0) (pa_cons (pe_op op_sub (pv 2) (pv 4)) (pa_cons (pv 4) pa_nil)))) (pa_cons (pe_call (ok_law_derived T) (hr.mono (by decide)) (by rfl) T.m_law_derived T.F_law_derived.kp T.b_law_derived .nil pass0 (pa_cons (pv 1) (pa_cons (pv 4) (pa_cons (pe_op op_sub (pv 2) (pv 4)) pa_nil)))) pa_nil))))
      (pss_cons (ps_set (i := 6) sc_law_laid.nd rfl (Or.inl rfl) (pe_call (ok_law_choose T) (hr.mono (by decide)) (by rfl) T.m_law_choose T.F_law_choose.kp T.b_law_choose .nil pass0 (pa_cons (pv 2) (pa_cons (pv 4) pa_nil))))
      (pss_one (ps_set (i := 3) sc_law_laid.nd rfl (Or.inl rfl) (pe_call (ok_law_plus T) (hr.mono (by decide)) (by rfl) T.m_law_plus T.F_law_plus.kp T.b_law_plus .nil pass0 (pa_cons (pv 3) (pa_cons (pe_call (ok_law_scaled T) (hr.mono (by decide)) (by rfl) T.m_law_scaled T.F_law_scaled.kp T.b_law_scaled .nil pass0 (pa_cons (pv 5) (pa_cons (pe_ifExp (pt_cmpR op_eq (pe_op op_mod (pv 4) pe_int) pe_int (nomark _)) (pv 6) (pe_op op_sub pe_int (pv 6))) pa_nil))) pa_nil))))))))
      (pss_one (ps_ret (pv 3))))), ?_⟩
    rw [st_law_laid]
    simp only [ap_seq, ap_next, ap_asg, ap_gName, ap_ret, ap_retN, ap_drop, ap_ifS, ap_break, ap_cont, ap_par, ap_aug, ap_ip, ap_gSub, ap_gTup, ap_gNil, ap_gCons, ap_var, ap_c, ap_op, ap_un, ap_if, ap_test, ap_B, ap_and, ap_or, ap_not, ap_andV, ap_orV, ap_notV, ap_nil, ap_cons, ap_tup, ap_lst, ap_cb, ap_bm, ap_call, ap_chain, ap_rI, ap_rI0, ap_rU, ap_rEq, ap_rNe, ap_revT, ap_sl, ap_part, ap_noPart, ap_ixLI, ap_ixTI, ap_ixLV, ap_ixTV, ap_len, ap_setLI, ap_setLV, ap_appI, ap_appV, ap_tupL, ap_listS, ap_sumLI, ap_sumTI, ap_repLI, ap_intI, ap_intB, ap_eqTI, ap_neTI, ap_eqLI, ap_neLI, ap_isi, ap_for, ap_rng1, ap_rng2, ap_iList, ap_iTup, ap_lc, ap_yes, ap_cut, ap_gTupH, ap_fmt, ap_jsn, ap_jsc, ap_gcd, ap_isqrt, ap_ixL, tyV_l, wipe_nil, wipe_cons, upd_same, ap_iEnT, ap_iEnL, ap_iZipA, ap_all, ap_tupT, ap_attF, ap_makeL, ap_att, ap_prop, ap_isO, ap_bin, ap_ne, ap_meth, ap_make, ins_inj, FE_inj, ap_slI, ap_catI, ap_perm, ap_lenO, ap_strO, ap_listO, ap_reprB, ap_iterT, ap_neT, ap_negO, ap_binI, ap_catL, ap_tM1, ap_repTI, ap_popN, ap_par3, ap_catTT, ap_repTA, ap_countT, ap_notInT, ap_repL1, ap_cm, ap_shl, ap_shr, ap_mask, ap_comb, ap_bits, ap_rng3, List.set_cons_zero, List.set_cons_succ, List.getElem?_cons_zero, List.getElem?_cons_succ, List.cons_append, List.nil_append, List.append_nil, Option.some.injEq, V.int.injEq, V.ref.injEq, V.bl.injEq, V.str.injEq, V.ty.injEq, Bool.not_true, Bool.not_false, HO.lst.injEq, HO.tup.injEq, reduceCtorEq, Int.reduceToNat, Int.reduceLT, Int.reduceLE, Nat.reduceAdd, Int.cast_ofNat_Int, gi_c0, gi_c1, gi_c2, gi_c3, Int.natCast_inj, map_int_inj, map_nil_iff, List.cons.injEq, exists_eq_left, exists_eq_left', exists_eq, exists_eq', exists_and_left, exists_and_right, exists_const, and_assoc, and_true, true_and, and_false, false_and, or_false, false_or, or_true, true_or, ite_true, ite_false, if_true, if_false, Bool.false_eq_true, own_cons, own_nil, le1, le2, le3, le4, me_cons, me_nil, List.length_map, List.length_cons, List.length_nil, ne_eq, not_false_eq_true, not_true_eq_false, decide_eq_true_eq, hp, hq, CMu]
    have eN : ((f.length : Int) + g.length - 1 - 2 * (k : Int)).toNat = f.length + g.length - 1 - 2 * k := by omega
    rw [eN]
    have eK : ((k : Int) + 1).toNat = k + 1 := by omega
    rw [eK]
    refine ⟨by decide, by decide, by omega, by omega, by omega, by omega, lc_rangeI (fun _ => 0) (by omega) (fun x => rfl) (fun i G hi sm Q' k' => ?_) (fun a G na s1 ea => ?_)⟩
    · simp only [ap_seq, ap_next, ap_asg, ap_gName, ap_ret, ap_retN, ap_drop, ap_ifS, ap_break, ap_cont, ap_par, ap_aug, ap_ip, ap_gSub, ap_gTup, ap_gNil, ap_gCons, ap_var, ap_c, ap_op, ap_un, ap_if, ap_test, ap_B, ap_and, ap_or, ap_not, ap_andV, ap_orV, ap_notV, ap_nil, ap_cons, ap_tup, ap_lst, ap_cb, ap_bm, ap_call, ap_chain, ap_rI, ap_rI0, ap_rU, ap_rEq, ap_rNe, ap_revT, ap_sl, ap_part, ap_noPart, ap_ixLI, ap_ixTI, ap_ixLV, ap_ixTV, ap_len, ap_setLI, ap_setLV, ap_appI, ap_appV, ap_tupL, ap_listS, ap_sumLI, ap_sumTI, ap_repLI, ap_intI, ap_intB, ap_eqTI, ap_neTI, ap_eqLI, ap_neLI, ap_isi, ap_for, ap_rng1, ap_rng2, ap_iList, ap_iTup, ap_lc, ap_yes, ap_cut, ap_gTupH, ap_fmt, ap_jsn, ap_jsc, ap_gcd, ap_isqrt, ap_ixL, tyV_l, wipe_nil, wipe_cons, upd_same, ap_iEnT, ap_iEnL, ap_iZipA, ap_all, ap_tupT, ap_attF, ap_makeL, ap_att, ap_prop, ap_isO, ap_bin, ap_ne, ap_meth, ap_make, ins_inj, FE_inj, ap_slI, ap_catI, ap_perm, ap_lenO, ap_strO, ap_listO, ap_reprB, ap_iterT, ap_neT, ap_negO, ap_binI, ap_catL, ap_tM1, ap_repTI, ap_popN, ap_par3, ap_catTT, ap_repTA, ap_countT, ap_notInT, ap_repL1, ap_cm, ap_shl, ap_shr, ap_mask, ap_comb, ap_bits, ap_rng3, List.set_cons_zero, List.set_cons_succ, List.getElem?_cons_zero, List.getElem?_cons_succ, List.cons_append, List.nil_append, List.append_nil, Option.some.injEq, V.int.injEq, V.ref.injEq, V.bl.injEq, V.str.injEq, V.ty.injEq, Bool.not_true, Bool.not_false, HO.lst.injEq, HO.tup.injEq, reduceCtorEq, Int.reduceToNat, Int.reduceLT, Int.reduceLE, Nat.reduceAdd, Int.cast_ofNat_Int, gi_c0, gi_c1, gi_c2, gi_c3, Int.natCast_inj, map_int_inj, map_nil_iff, List.cons.injEq, exists_eq_left, exists_eq_left', exists_eq, exists_eq', exists_and_left, exists_and_right, exists_const, and_assoc, and_true, true_and, and_false, false_and, or_false, false_or, or_true, true_or, ite_true, ite_false, if_true, if_false, Bool.false_eq_true, own_cons, own_nil, le1, le2, le3, le4, me_cons, me_nil, List.length_map, List.length_cons, List.length_nil, ne_eq, not_false_eq_true, not_true_eq_false, decide_eq_true_eq]
      exact k' G (Same.refl G)
    · refine ⟨a, rfl, _, ea, fun l nl => ⟨by omega, by omega, ?_⟩⟩
      have er0 : (List.range (f.length + g.length - 1 - 2 * k)).map (fun _ => (0 : Int)) = List.replicate (f.length + g.length - 1 - 2 * k) 0 := by
        rw [List.map_const', List.length_range]
      rw [er0]
      have S1 := s1.trans (same_upd (o := TI (List.replicate (f.length + g.length - 1 - 2 * k) 0)) nl)
      refine loop_range (fun i σ' H' => (∃ (r : Addr) (fs : List Int) (y4 y5 y6 y7 : Option V), σ' = [some (.ref p), some (.ref q), some (.int (k : Nat)), some (.ref r), y4, y5, y6, y7] ∧ H' r = some (TI fs) ∧ LayS f g k i fs) ∧ Same H H') ⟨⟨l, _, _, _, _, _, rfl, upd_same, layS_zero _ rfl⟩, S1⟩ (fun i σ' H2 hi hP => ?_) (fun σ' H2 hP => ?_)
      · obtain ⟨⟨r, fs, y4, y5, y6, y7, e, er, ls⟩, sm2⟩ := hP
        subst e
        have hp2 := sm2 _ _ hp
        have hq2 := sm2 _ _ hq
        have ei : (k : Int) - (i : Nat) = ((k - i : Nat) : Int) := by omega
        simp only [ap_seq, ap_next, ap_asg, ap_gName, ap_ret, ap_retN, ap_drop, ap_ifS, ap_break, ap_cont, ap_par, ap_aug, ap_ip, ap_gSub, ap_gTup, ap_gNil, ap_gCons, ap_var, ap_c, ap_op, ap_un, ap_if, ap_test, ap_B, ap_and, ap_or, ap_not, ap_andV, ap_orV, ap_notV, ap_nil, ap_cons, ap_tup, ap_lst, ap_cb, ap_bm, ap_call, ap_chain, ap_rI, ap_rI0, ap_rU, ap_rEq, ap_rNe, ap_revT, ap_sl, ap_part, ap_noPart, ap_ixLI, ap_ixTI, ap_ixLV, ap_ixTV, ap_len, ap_setLI, ap_setLV, ap_appI, ap_appV, ap_tupL, ap_listS, ap_sumLI, ap_sumTI, ap_repLI, ap_intI, ap_intB, ap_eqTI, ap_neTI, ap_eqLI, ap_neLI, ap_isi, ap_for, ap_rng1, ap_rng2, ap_iList, ap_iTup, ap_lc, ap_yes, ap_cut, ap_gTupH, ap_fmt, ap_jsn, ap_jsc, ap_gcd, ap_isqrt, ap_ixL, tyV_l, wipe_nil, wipe_cons, upd_same, ap_iEnT, ap_iEnL, ap_iZipA, ap_all, ap_tupT, ap_attF, ap_makeL, ap_att, ap_prop, ap_isO, ap_bin, ap_ne, ap_meth, ap_make, ins_inj, FE_inj, ap_slI, ap_catI, ap_perm, ap_lenO, ap_strO, ap_listO, ap_reprB, ap_iterT, ap_neT, ap_negO, ap_binI, ap_catL, ap_tM1, ap_repTI, ap_popN, ap_par3, ap_catTT, ap_repTA, ap_countT, ap_notInT, ap_repL1, ap_cm, ap_shl, ap_shr, ap_mask, ap_comb, ap_bits, ap_rng3, List.set_cons_zero, List.set_cons_succ, List.getElem?_cons_zero, List.getElem?_cons_succ, List.cons_append, List.nil_append, List.append_nil, Option.some.injEq, V.int.injEq, V.ref.injEq, V.bl.injEq, V.str.injEq, V.ty.injEq, Bool.not_true, Bool.not_false, HO.lst.injEq, HO.tup.injEq, reduceCtorEq, Int.reduceToNat, Int.reduceLT, Int.reduceLE, Nat.reduceAdd, Int.cast_ofNat_Int, gi_c0, gi_c1, gi_c2, gi_c3, Int.natCast_inj, map_int_inj, map_nil_iff, List.cons.injEq, exists_eq_left, exists_eq_left', exists_eq, exists_eq', exists_and_left, exists_and_right, exists_const, and_assoc, and_true, true_and, and_false, false_and, or_false, false_or, or_true, true_or, ite_true, ite_false, if_true, if_false, Bool.false_eq_true, own_cons, own_nil, le1, le2, le3, le4, me_cons, me_nil, List.length_map, List.length_cons, List.length_nil, ne_eq, not_false_eq_true, not_true_eq_false, decide_eq_true_eq, ei, Int.zero_add, sp_law_choose]
        have l1 : (derP f (k - i) i).length = f.length - k := by rw [derP_len]; omega
        have l2 : (derP g i (k - i)).length = g.length - k := by rw [derP_len]; omega
        have lm : (mulP (derP f (k - i) i) (derP g i (k - i))).length = f.length + g.length - 1 - 2 * k := by rw [mulP_len, l1, l2]; omega
        refine ⟨p, f, k - i, i, rfl, hp2, by omega, by omega, bf, fun H3 a s3 ea => ?_⟩
        refine ⟨q, g, i, k - i, rfl, s3 _ _ hq2, by omega, by omega, bg, fun H4 b s4 eb => ?_⟩
        refine ⟨a, b, _, _, rfl, s4 _ _ ea, eb, by omega, by omega, by omega, by omega, derP_wd h3 bf, derP_wd h4 bg, fun H5 m s5 nm em => ?_⟩
        have nx := layS_next' h1 h2 (show i ≤ k by omega) ls
        refine ⟨by omega, by omega, rfl, iteC (fun c => ?_) (fun c => ?_)⟩
        · have hz : ch k i = sg i * ch k i := by
            unfold sg
            rw [if_pos (by omega), Int.one_mul]
          rw [hz]
          refine ⟨m, _, _, rfl, em, by omega, bm i (by omega), sgch_wd (by omega) (by omega), fun H6 t s6 nt et => ?_⟩
          refine ⟨r, t, _, _, rfl, s6 _ _ (s5 _ _ (s4 _ _ (s3 _ _ er))), et, by rw [ls.len, sc_len, lm], by rw [ls.len]; omega, fun H7 z s7 nz ez => ?_⟩
          exact ⟨⟨z, rfl, _, ez, nx⟩, ((((sm2.trans s3).trans s4).trans s5).trans s6).trans s7⟩
        · have hz : 0 - ch k i = sg i * ch k i := by
            unfold sg
            rw [if_neg (by omega)]
            omega
          rw [hz]
          refine ⟨m, _, _, rfl, em, by omega, bm i (by omega), sgch_wd (by omega) (by omega), fun H6 t s6 nt et => ?_⟩
          refine ⟨r, t, _, _, rfl, s6 _ _ (s5 _ _ (s4 _ _ (s3 _ _ er))), et, by rw [ls.len, sc_len, lm], by rw [ls.len]; omega, fun H7 z s7 nz ez => ?_⟩
          exact ⟨⟨z, rfl, _, ez, nx⟩, ((((sm2.trans s3).trans s4).trans s5).trans s6).trans s7⟩
      · obtain ⟨⟨r, fs, y4, y5, y6, y7, e, er, ls⟩, sm2⟩ := hP
        subst e
        simp only [ap_seq, ap_next, ap_asg, ap_gName, ap_ret, ap_retN, ap_drop, ap_ifS, ap_break, ap_cont, ap_par, ap_aug, ap_ip, ap_gSub, ap_gTup, ap_gNil, ap_gCons, ap_var, ap_c, ap_op, ap_un, ap_if, ap_test, ap_B, ap_and, ap_or, ap_not, ap_andV, ap_orV, ap_notV, ap_nil, ap_cons, ap_tup, ap_lst, ap_cb, ap_bm, ap_call, ap_chain, ap_rI, ap_rI0, ap_rU, ap_rEq, ap_rNe, ap_revT, ap_sl, ap_part, ap_noPart, ap_ixLI, ap_ixTI, ap_ixLV, ap_ixTV, ap_len, ap_setLI, ap_setLV, ap_appI, ap_appV, ap_tupL, ap_listS, ap_sumLI, ap_sumTI, ap_repLI, ap_intI, ap_intB, ap_eqTI, ap_neTI, ap_eqLI, ap_neLI, ap_isi, ap_for, ap_rng1, ap_rng2, ap_iList, ap_iTup, ap_lc, ap_yes, ap_cut, ap_gTupH, ap_fmt, ap_jsn, ap_jsc, ap_gcd, ap_isqrt, ap_ixL, tyV_l, wipe_nil, wipe_cons, upd_same, ap_iEnT, ap_iEnL, ap_iZipA, ap_all, ap_tupT, ap_attF, ap_makeL, ap_att, ap_prop, ap_isO, ap_bin, ap_ne, ap_meth, ap_make, ins_inj, FE_inj, ap_slI, ap_catI, ap_perm, ap_lenO, ap_strO, ap_listO, ap_reprB, ap_iterT, ap_neT, ap_negO, ap_binI, ap_catL, ap_tM1, ap_repTI, ap_popN, ap_par3, ap_catTT, ap_repTA, ap_countT, ap_notInT, ap_repL1, ap_cm, ap_shl, ap_shr, ap_mask, ap_comb, ap_bits, ap_rng3, List.set_cons_zero, List.set_cons_succ, List.getElem?_cons_zero, List.getElem?_cons_succ, List.cons_append, List.nil_append, List.append_nil, Option.some.injEq, V.int.injEq, V.ref.injEq, V.bl.injEq, V.str.injEq, V.ty.injEq, Bool.not_true, Bool.not_false, HO.lst.injEq, HO.tup.injEq, reduceCtorEq, Int.reduceToNat, Int.reduceLT, Int.reduceLE, Nat.reduceAdd, Int.cast_ofNat_Int, gi_c0, gi_c1, gi_c2, gi_c3, Int.natCast_inj, map_int_inj, map_nil_iff, List.cons.injEq, exists_eq_left, exists_eq_left', exists_eq, exists_eq', exists_and_left, exists_and_right, exists_const, and_assoc, and_true, true_and, and_false, false_and, or_false, false_or, or_true, true_or, ite_true, ite_false, if_true, if_false, Bool.false_eq_true, own_cons, own_nil, le1, le2, le3, le4, me_cons, me_nil, List.length_map, List.length_cons, List.length_nil, ne_eq, not_false_eq_true, not_true_eq_false, decide_eq_true_eq]
        rw [layS_end h1 h2 ls] at er
        exact kk H2 r sm2 er
end
end My
namespace My
open PySem PySem.Spec PyProof.Rows L2 Pr M00
theorem neg_pow : ∀ k : Nat, (-1 : Int) ^ k = sg k
  | 0 => rfl
  | k + 1 => by
    rw [Int.pow_succ, neg_pow k, sg_succ]
    omega
theorem lay_swap {f g : List Int} {k : Nat} (h1 : k < f.length) (h2 : k < g.length) : sc (sg k) (layP f g k) = layP g f k :=
  layP_eq h2 h1 (by rw [sc_len, layP_len k f g h1 h2]; omega) fun x y => by rw [val_map, layP_val k f g x y h1 h2, layV_swap k f g, neg_pow]
theorem lay_ch {f g : List Int} {k : Nat} {a b c d : Int} (h1 : k < f.length) (h2 : k < g.length) : sc ((a * d - b * c) ^ k) (chP [a, b] [c, d] (layP f g k)) = layP (chP [a, b] [c, d] f) (chP [a, b] [c, d] g) k := by
  have e1 := layP_len k f g h1 h2
  have e2 : (chP [a, b] [c, d] f).length = f.length := chP_len rfl rfl (by omega)
  have e3 : (chP [a, b] [c, d] g).length = g.length := chP_len rfl rfl (by omega)
  have pos : 0 < (layP f g k).length := by omega
  refine layP_eq (by omega) (by omega) (by rw [sc_len, chP_len rfl rfl pos, e1, e2, e3]) fun x y => ?_
  rw [val_map, chP_val rfl rfl pos, layP_val k f g _ _ h1 h2, layV_ch k f g x y h1 h2]
/-- sizes of drawn forms' layings -/
theorem drawn_abs {n : Nat} {f : List Int} (d : Drawn n f) : ∀ x ∈ f, x.natAbs ≤ 10 ^ 13 := fun x hx => by have := d.2 x hx; omega
end My
namespace My
open PySem PySem.Spec PyProof.Rows L2 Pr
theorem md_derP {p : Int} {a a' : List Int} (h : md p a = md p a') (i j : Nat) : md p (derP a i j) = md p (derP a' i j) := by
  unfold derP
  rw [md_lenE h]
  unfold md
  rw [List.map_map, List.map_map]
  refine List.map_congr_left fun u _ => ?_
  show (a.getD (j + u) 0 * _ * _) % p = (a'.getD (j + u) 0 * _ * _) % p
  exact mu_mod (mu_mod (md_get h (j + u)) rfl) rfl
theorem md_scL {p c c' : Int} {a a' : List Int} (h : md p a = md p a') (hc : c % p = c' % p) : md p (sc c a) = md p (sc c' a') := by
  have e : ∀ (l : List Int) (z : Int), sc z l = l.map (· * z) := fun l z => List.map_congr_left fun x _ => Int.mul_comm _ _
  rw [e, e]
  exact md_sc h hc
theorem md_lay {p : Int} : ∀ (k : Nat) {a a' b b' : List Int}, md p a = md p a' → md p b = md p b' → md p (layP a b k) = md p (layP a' b' k)
  | 0, _, _, _, _, h, g => md_mulP h g
  | k + 1, a, a', b, b', h, g => by
    show md p (pl (layP (dX a) (dY b) k) (sc (-1) (layP (dY a) (dX b) k))) = md p (pl (layP (dX a') (dY b') k) (sc (-1) (layP (dY a') (dX b') k)))
    exact md_zip (md_lay k (md_derP h 1 0) (md_derP g 0 1)) (md_scL (md_lay k (md_derP h 0 1) (md_derP g 1 0)) rfl)
theorem lay_plR {f a b : List Int} {k : Nat} (hl : a.length = b.length) (h1 : k < f.length) (h2 : k < a.length) : layP f (pl a b) k = pl (layP f a k) (layP f b k) := by
  have e1 := layP_len k f a h1 h2
  have e2 := layP_len k f b h1 (by omega)
  have e3 : (pl a b).length = a.length := pl_len hl
  refine (layP_eq h1 (by omega) (by rw [pl_len (by omega), e1, e3]) fun x y => ?_).symm
  rw [val_zip _ _ _ _ (by omega), layP_val k f a x y h1 h2, layP_val k f b x y h1 (by omega), layV_plR k f a b x y hl]
theorem pw_md {p x : Int} : ∀ k : Nat, (x % p) ^ k % p = x ^ k % p
  | 0 => by rw [Int.pow_zero, Int.pow_zero]
  | k + 1 => by
    rw [Int.pow_succ, Int.pow_succ]
    exact mu_mod (pw_md k) (Int.emod_emod_of_dvd _ (Int.dvd_refl p))
section
variable {P : Program} {w : World} {K : PySem.W.Frag} {mg : Str → Option Value} {base : Heap}
def sp_PrimeForm_laid (C : Addr) : Sp := fun vs H Q _ => ∃ (f g : Addr) (p : Int) (es fs : List Int) (k : Nat), vs = [.ref f, .ref g, .int (k : Nat)] ∧ PFAt C H f p es ∧ PFAt C H g p fs ∧ p ∈ primes ∧ k < es.length ∧ k < fs.length ∧ es.length ≤ 13 ∧ fs.length ≤ 13 ∧ es.length + fs.length ≤ 14 + 2 * k ∧ md p es = es ∧ md p fs = fs ∧
  ∀ H' r, Same H H' → H r = none → PFAt C H' r p (md p (layP es fs k)) → Q (.ref r) H'
theorem ok_PrimeForm_laid (T : Tx K mg) : FnOk P w K mg base CX0 16 T.f_PrimeForm_laid T.d_PrimeForm_laid p_PrimeForm_laid (sp_PrimeForm_laid T.C_PrimeForm) := by
  refine T.F_PrimeForm_laid.ok sc_PrimeForm_laid (fun vs H Q E h => ?_) (fun cdv A outer s H vs Q E hr h => ?_)
  · obtain ⟨f, g, p, es, fs, k, rfl, _⟩ := h
    rfl
  · obtain ⟨f, g, p, es, fs, k, rfl, ⟨dx, t, hf, ht⟩, ⟨dy, u, hg, hu⟩, pp, ln1, ln2, ln3, ln4, ln5, m1, m2, q⟩ := h
    refine ⟨_, (pss_cons (ps_expr (pe_call (ok_need_like T) (hr.mono (by decide)) (by rfl) T.m_need_like T.F_need_like.kp T.b_need_like .nil pass0 (pa_cons (pv 0) (pa_cons (pv 1) pa_nil))))
      (pss_cons (ps_expr (pe_call (ok_need_number T) (hr.mono (by decide)) (by rfl) T.m_need_number T.F_need_number.kp T.b_need_number .nil pass0 (pa_cons (pv 2) (pa_cons pe_int (pa_cons (pe_callB (call_min2 rfl) (by rfl) T.z_min (by decide +kernel) (pa_cons (pe_prop (pv 0) T.cl_PrimeForm T.pr_PrimeForm_degree (ok_PrimeForm_degree T) (hr.mono (by decide)) T.b_PrimeForm_degree .nil pass0 (by rfl)) (pa_cons (pe_prop (pv 1) T.cl_PrimeForm T.pr_PrimeForm_degree (ok_PrimeForm_degree T) (hr.mono (by decide)) T.b_PrimeForm_degree .nil pass0 (by rfl)) pa_nil))) pa_nil)))))
      (pss_cons (ps_if (pt_cmpR op_gt (pe_op op_sub (pe_op op_add (pe_prop (pv 0) T.cl_PrimeForm T.pr_PrimeForm_degree (ok_PrimeForm_degree T) (hr.mono (by decide)) T.b_PrimeForm_degree .nil pass0 (by rfl)) (pe_prop (pv 1) T.cl_PrimeForm T.pr_PrimeForm_degree (ok_PrimeForm_degree T) (hr.mono (by decide)) T.b_PrimeForm_degree .nil pass0 (by rfl))) (pe_op op_mulB pe_int (pv 2))) (pe_glob (v := .int 12) (by rfl) T.c_MOST_DEGREE ⟨_, rfl⟩) (nomark _)) (pss_one ps_never) pss_nil)
      (pss_one (ps_ret (pe_make T.mk_PrimeForm (ok_PrimeForm___init__ T) (hr.mono (by decide)) (by rfl) T.mg_PrimeForm T.b_PrimeForm___init__ .nil pass0 (pa_cons (pe_attF (pe_fld (pv 0) rfl) mono_var T.cl_PrimeForm T.no_PrimeForm_prime) (pa_cons (pe_call (ok_modulo T) (hr.mono (by decide)) (by rfl) T.m_modulo T.F_modulo.kp T.b_modulo .nil pass0 (pa_cons (pe_call (ok_laid_row T) (hr.mono (by decide)) (by rfl) T.m_laid_row T.F_laid_row.kp T.b_laid_row .nil pass0 (pa_cons (pe_attF (pe_fld (pv 0) rfl) mono_var T.cl_PrimeForm T.no_PrimeForm_entries) (pa_cons (pe_prop (pv 1) T.cl_PrimeForm T.pr_PrimeForm_entries (ok_PrimeForm_entries T) (hr.mono (by decide)) T.b_PrimeForm_entries .nil pass0 (by rfl)) (pa_cons (pv 2) pa_nil)))) (pa_cons (pe_attF (pe_fld (pv 0) rfl) mono_var T.cl_PrimeForm T.no_PrimeForm_prime) pa_nil))) pa_nil)))))))), ?_⟩
    rw [st_PrimeForm_laid]
    have pb := primes_bd pp
    simp only [ap_seq, ap_next, ap_asg, ap_gName, ap_ret, ap_retN, ap_drop, ap_ifS, ap_break, ap_cont, ap_par, ap_aug, ap_ip, ap_gSub, ap_gTup, ap_gNil, ap_gCons, ap_var, ap_c, ap_op, ap_un, ap_if, ap_test, ap_B, ap_and, ap_or, ap_not, ap_andV, ap_orV, ap_notV, ap_nil, ap_cons, ap_tup, ap_lst, ap_cb, ap_bm, ap_call, ap_chain, ap_rI, ap_rI0, ap_rU, ap_rEq, ap_rNe, ap_revT, ap_sl, ap_part, ap_noPart, ap_ixLI, ap_ixTI, ap_ixLV, ap_ixTV, ap_len, ap_setLI, ap_setLV, ap_appI, ap_appV, ap_tupL, ap_listS, ap_sumLI, ap_sumTI, ap_repLI, ap_intI, ap_intB, ap_eqTI, ap_neTI, ap_eqLI, ap_neLI, ap_isi, ap_for, ap_rng1, ap_rng2, ap_iList, ap_iTup, ap_lc, ap_yes, ap_cut, ap_gTupH, ap_fmt, ap_jsn, ap_jsc, ap_gcd, ap_isqrt, ap_ixL, tyV_l, wipe_nil, wipe_cons, upd_same, ap_iEnT, ap_iEnL, ap_iZipA, ap_all, ap_tupT, ap_attF, ap_makeL, ap_att, ap_prop, ap_isO, ap_bin, ap_ne, ap_meth, ap_make, ins_inj, FE_inj, ap_slI, ap_catI, ap_perm, ap_lenO, ap_strO, ap_listO, ap_reprB, ap_iterT, ap_neT, ap_negO, ap_binI, ap_catL, ap_tM1, ap_repTI, ap_popN, ap_par3, ap_catTT, ap_repTA, ap_countT, ap_notInT, ap_repL1, ap_cm, ap_shl, ap_shr, ap_mask, ap_comb, ap_bits, ap_rng3, List.set_cons_zero, List.set_cons_succ, List.getElem?_cons_zero, List.getElem?_cons_succ, List.cons_append, List.nil_append, List.append_nil, Option.some.injEq, V.int.injEq, V.ref.injEq, V.bl.injEq, V.str.injEq, V.ty.injEq, Bool.not_true, Bool.not_false, HO.lst.injEq, HO.tup.injEq, reduceCtorEq, Int.reduceToNat, Int.reduceLT, Int.reduceLE, Nat.reduceAdd, Int.cast_ofNat_Int, gi_c0, gi_c1, gi_c2, gi_c3, Int.natCast_inj, map_int_inj, map_nil_iff, List.cons.injEq, exists_eq_left, exists_eq_left', exists_eq, exists_eq', exists_and_left, exists_and_right, exists_const, and_assoc, and_true, true_and, and_false, false_and, or_false, false_or, or_true, true_or, ite_true, ite_false, if_true, if_false, Bool.false_eq_true, own_cons, own_nil, le1, le2, le3, le4, me_cons, me_nil, List.length_map, List.length_cons, List.length_nil, ne_eq, not_false_eq_true, not_true_eq_false, decide_eq_true_eq, hf, hg, PF_p, PF_e, sp_PrimeForm_degree, sp_PrimeForm_entries]
    refine ⟨f, g, p, es, fs, rfl, ⟨dx, t, hf, ht⟩, ⟨dy, u, hg, hu⟩, ?_⟩
    have rg : ∀ {l : List Int}, md p l = l → ∀ n ∈ l, n.natAbs ≤ 101 := fun {l} h n hn => by
      rw [← h] at hn
      have := md_rg (p := p) (by omega) l n hn
      omega
    have lgs : ∀ {l : List Int}, md p l = l → Lg l := fun {l} h n hn => Nat.le_trans (rg h n hn) (by decide +kernel)
    have em : (if (fs.length : Int) - 1 < (es.length : Int) - 1 then (fs.length : Int) - 1 else (es.length : Int) - 1) ≥ k := by
      by_cases c : (fs.length : Int) - 1 < (es.length : Int) - 1
      · rw [if_pos c]; omega
      · rw [if_neg c]; omega
    have ln := layP_len k es fs ln1 ln2
    have bm : ∀ n ∈ layP es fs k, Wd n := fun n hn => by
      have b : ∀ {l : List Int}, l.length ≤ 13 → md p l = l → l1 l ≤ 13 * 101 := fun {l} hl h => Nat.le_trans (l1_le (rg h)) (Nat.mul_le_mul_right _ hl)
      have h := l1_lay (D := 13) k es fs ln3 ln4
      exact wd_of (Nat.lt_of_le_of_lt (Nat.le_trans (l1_mem hn) (Nat.le_trans h (Nat.mul_le_mul (Nat.pow_le_pow_right (by decide) (show k ≤ 13 by omega)) (Nat.mul_le_mul (b ln3 m1) (b ln4 m2))))) (by decide +kernel))
    refine ⟨⟨_, _, hf⟩, dx, t, ⟨p, hf⟩, es, ht, ⟨_, _, hg⟩, dy, u, ⟨p, hg⟩, fs, hu, k, 0, _, rfl, by omega, em, by unfold Sm; omega, ⟨_, _, hf⟩, dx, t, ⟨p, hf⟩, es, ht, ⟨_, _, hg⟩, dy, u, ⟨p, hg⟩, fs, hu, ⟨⟨by decide, by decide⟩, ?_, ?_⟩, ?_⟩
    · have b250 : (1000 : Int) < (2 ^ 250) ^ 16 := by decide +kernel
      omega
    · have b250 : (1000 : Int) < (2 ^ 250) ^ 16 := by decide +kernel
      omega
    rw [if_neg (by omega)]
    refine ⟨dx, _, hf, _, PF_p, dx, _, hf, _, PF_e, ⟨_, _, hg⟩, dy, u, ⟨p, hg⟩, t, u, es, fs, k, rfl, ht, hu, ln1, ln2, by omega, by omega, lgs m1, lgs m2, fun H1 r s1 er => ?_⟩
    refine ⟨dx, _, s1 _ _ hf, _, PF_p, r, _, p, rfl, .inr er, by omega, bm, by omega, by omega, fun H2 r2 s2 n2 e2 => ?_⟩
    have lmd : (List.map (fun x => x % p) (layP es fs k)).length = (layP es fs k).length := List.length_map ..
    refine newP_ok e2 pp ⟨by omega, by omega, fun n hn => by have := md_rg (p := p) (by omega) _ n hn; unfold Sm; omega⟩ fun z H3 s3 nz hz => ?_
    rw [md_md] at hz
    exact q H3 z ((s1.trans s2).trans s3) (free_of (s1.trans s2) nz) hz
end
end My
namespace My
open PySem PySem.Spec PyProof.Rows L2 Pr
theorem PFAt.exc {C d a : Addr} {H H' : Hp} {p : Int} {es : List Int} (D : Dc H d) (ex : Exc d H H') (h : PFAt C H a p es) : PFAt C H' a p es := by
  obtain ⟨dx, t, h1, h2⟩ := h
  exact ⟨dx, t, exI D ex h1, exT D ex h2⟩
theorem zip_abs {A B : Nat} {ns ms : List Int} (h1 : ∀ x ∈ ns, x.natAbs ≤ A) (h2 : ∀ x ∈ ms, x.natAbs ≤ B) : ∀ x ∈ pl ns ms, x.natAbs ≤ A + B := fun x hx => by
  have := zip_bd (A := A) (B := B) (fun n hn => by have := h1 n hn; constructor <;> omega) (fun n hn => by have := h2 n hn; constructor <;> omega) x hx
  omega
section
variable {P : Program} {w : World} {K : PySem.W.Frag} {mg : Str → Option Value} {base : Heap}
def sp_law_right : Sp := fun vs H Q _ => ∃ (d : Addr), vs = [.ref d] ∧ Dc H d ∧ ∀ H', Exc d H H' → Dc H' d → Q (.bl true) H'
theorem ok_law_right (T : Tx K mg) : FnOk P w K mg base CX0 24 T.f_law_right T.d_law_right p_law_right sp_law_right := by
  refine T.F_law_right.ok sc_law_right (fun vs H Q E h => ?_) (fun cdv A outer s H vs Q E hr h => ?_)
  · obtain ⟨d, rfl, _⟩ := h
    rfl
  · obtain ⟨d, rfl, hD, kk⟩ := h
    refine ⟨_, (pss_cons (ps_par3 (i := 1) (j := 2) (l := 3) (by rfl) sc_law_right.nd rfl rfl rfl (by decide) (by decide) (by decide) rfl rfl rfl (pa_cons (pe_call (ok_law_some_prime T) (hr.mono (by decide)) (by rfl) T.m_law_some_prime T.F_law_some_prime.kp T.b_law_some_prime .nil pass0 (pa_cons (pv 0) pa_nil)) (pa_cons (pe_call (ok_law_roll T) (hr.mono (by decide)) (by rfl) T.m_law_roll T.F_law_roll.kp T.b_law_roll .nil pass0 (pa_cons (pv 0) (pa_cons pe_int pa_nil))) (pa_cons (pe_call (ok_law_roll T) (hr.mono (by decide)) (by rfl) T.m_law_roll T.F_law_roll.kp T.b_law_roll .nil pass0 (pa_cons (pv 0) (pa_cons pe_int pa_nil))) pa_nil))) (by rfl))
      (pss_cons (ps_par3 (i := 4) (j := 5) (l := 6) (by rfl) sc_law_right.nd rfl rfl rfl (by decide) (by decide) (by decide) rfl rfl rfl (pa_cons (pe_call (ok_law_form T) (hr.mono (by decide)) (by rfl) T.m_law_form T.F_law_form.kp T.b_law_form .nil pass0 (pa_cons (pv 0) (pa_cons (pv 2) pa_nil))) (pa_cons (pe_call (ok_law_form T) (hr.mono (by decide)) (by rfl) T.m_law_form T.F_law_form.kp T.b_law_form .nil pass0 (pa_cons (pv 0) (pa_cons (pv 3) pa_nil))) (pa_cons (pe_call (ok_law_form T) (hr.mono (by decide)) (by rfl) T.m_law_form T.F_law_form.kp T.b_law_form .nil pass0 (pa_cons (pv 0) (pa_cons (pv 3) pa_nil))) pa_nil))) (by rfl))
      (pss_cons (ps_set (i := 7) sc_law_right.nd rfl (Or.inl rfl) (pe_call (ok_law_roll T) (hr.mono (by decide)) (by rfl) T.m_law_roll T.F_law_roll.kp T.b_law_roll .nil pass0 (pa_cons (pv 0) (pa_cons (pe_op op_add (pe_callB (call_min2 rfl) (by rfl) T.z_min (by decide +kernel) (pa_cons (pv 2) (pa_cons (pv 3) pa_nil))) pe_int) pa_nil))))
      (pss_cons (ps_par (i := 8) (j := 9) (by rfl) sc_law_right.nd rfl rfl (by decide) rfl rfl (pa_cons (pe_make T.mk_PrimeForm (ok_PrimeForm___init__ T) (hr.mono (by decide)) (by rfl) T.mg_PrimeForm T.b_PrimeForm___init__ .nil pass0 (pa_cons (pv 1) (pa_cons (pv 4) pa_nil))) (pa_cons (pe_make T.mk_PrimeForm (ok_PrimeForm___init__ T) (hr.mono (by decide)) (by rfl) T.mg_PrimeForm T.b_PrimeForm___init__ .nil pass0 (pa_cons (pv 1) (pa_cons (pv 5) pa_nil))) pa_nil)) (by rfl))
      (pss_cons (ps_set (i := 10) sc_law_right.nd rfl (Or.inl rfl) (pe_meth (pv 8) T.cl_PrimeForm T.me_PrimeForm_laid (ok_PrimeForm_laid T) (hr.mono (by decide)) T.b_PrimeForm_laid .nil pass0 (pa_cons (pv 9) (pa_cons (pv 7) pa_nil))))
      (pss_cons (ps_if (PW.pt (pw_or (pt_cmpR (op_neOwn T.nf_PrimeForm T.px_obj T.px_ne T.me_PrimeForm___eq__.at_ T.me_PrimeForm___eq__.fn (ok_PrimeForm___eq__ T) (hr.mono (by decide)) T.b_PrimeForm___eq__ pass0) (pv 10) (pe_make T.mk_PrimeForm (ok_PrimeForm___init__ T) (hr.mono (by decide)) (by rfl) T.mg_PrimeForm T.b_PrimeForm___init__ .nil pass0 (pa_cons (pv 1) (pa_cons (pe_call (ok_law_laid T) (hr.mono (by decide)) (by rfl) T.m_law_laid T.F_law_laid.kp T.b_law_laid .nil pass0 (pa_cons (pv 4) (pa_cons (pv 5) (pa_cons (pv 7) pa_nil)))) pa_nil))) (nomark _)) (pw_or1 (pt_cmpR op_ne (pe_prop (pv 10) T.cl_PrimeForm T.pr_PrimeForm_degree (ok_PrimeForm_degree T) (hr.mono (by decide)) T.b_PrimeForm_degree .nil pass0 (by rfl)) (pe_op op_sub (pe_op op_add (pv 2) (pv 3)) (pe_op op_mulB pe_int (pv 7))) (nomark _))))) (pss_one (ps_ret pe_bl)) pss_nil)
      (pss_cons (ps_if (pt_cmpR (op_neOwn T.nf_PrimeForm T.px_obj T.px_ne T.me_PrimeForm___eq__.at_ T.me_PrimeForm___eq__.fn (ok_PrimeForm___eq__ T) (hr.mono (by decide)) T.b_PrimeForm___eq__ pass0) (pv 10) (ClX.pe_cmeth (pe_glob (v := .ref T.C_PrimeForm) (by rfl) T.mg_PrimeForm rfl) T.cr_PrimeForm T.cm_PrimeForm_of_form ((ok_PrimeForm_of_form T).rawN T.b_PrimeForm_of_form) (hr.mono (by decide)) pass0 (pa_cons (pe_call (ok_laid T) (hr.mono (by decide)) (by rfl) T.m_laid T.F_laid.kp T.b_laid .nil pass0 (pa_cons (pe_make T.mk_Form (ok_Form___init__ T) (hr.mono (by decide)) (by rfl) T.mg_Form T.b_Form___init__ .nil pass0 (pa_cons (pv 4) pa_nil)) (pa_cons (pe_make T.mk_Form (ok_Form___init__ T) (hr.mono (by decide)) (by rfl) T.mg_Form T.b_Form___init__ .nil pass0 (pa_cons (pv 5) pa_nil)) (pa_cons (pv 7) pa_nil)))) (pa_cons (pv 1) pa_nil))) (nomark _)) (pss_one (ps_ret pe_bl)) pss_nil)
      (Evl.pss_cut (ps_set (i := 11) sc_law_right.nd rfl (Or.inl rfl) (pe_ifExp (pt_cmpR op_eq (pe_op op_mod (pv 7) pe_int) pe_int (nomark _)) pe_int (pe_un un_neg pe_int)))
      (pss_cons (ps_if (pt_cmpR (op_neOwn T.nf_PrimeForm T.px_obj T.px_ne T.me_PrimeForm___eq__.at_ T.me_PrimeForm___eq__.fn (ok_PrimeForm___eq__ T) (hr.mono (by decide)) T.b_PrimeForm___eq__ pass0) (pe_meth (pv 9) T.cl_PrimeForm T.me_PrimeForm_laid (ok_PrimeForm_laid T) (hr.mono (by decide)) T.b_PrimeForm_laid .nil pass0 (pa_cons (pv 8) (pa_cons (pv 7) pa_nil))) (pe_make T.mk_PrimeForm (ok_PrimeForm___init__ T) (hr.mono (by decide)) (by rfl) T.mg_PrimeForm T.b_PrimeForm___init__ .nil pass0 (pa_cons (pv 1) (pa_cons (pe_call (ok_law_scaled T) (hr.mono (by decide)) (by rfl) T.m_law_scaled T.F_law_scaled.kp T.b_law_scaled .nil pass0 (pa_cons (pe_prop (pv 10) T.cl_PrimeForm T.pr_PrimeForm_entries (ok_PrimeForm_entries T) (hr.mono (by decide)) T.b_PrimeForm_entries .nil pass0 (by rfl)) (pa_cons (pv 11) pa_nil))) pa_nil))) (nomark _)) (pss_one (ps_ret pe_bl)) pss_nil)
      (pss_cons (ps_set (i := 12) sc_law_right.nd rfl (Or.inl rfl) (pe_call (ok_law_prime_table T) (hr.mono (by decide)) (by rfl) T.m_law_prime_table T.F_law_prime_table.kp T.b_law_prime_table .nil pass0 (pa_cons (pv 0) (pa_cons (pv 1) pa_nil))))
      (pss_cons (ps_set (i := 13) sc_law_right.nd rfl (Or.inl rfl) (pe_call (ok_law_raised T) (hr.mono (by decide)) (by rfl) T.m_law_raised T.F_law_raised.kp T.b_law_raised .nil pass0 (pa_cons (pe_op op_mod (pe_callTy cr_intI (by rfl) T.z_int (by decide +kernel) (pa_cons (pe_call (ok_law_det T) (hr.mono (by decide)) (by rfl) T.m_law_det T.F_law_det.kp T.b_law_det .nil pass0 (pa_cons (pv 12) pa_nil)) pa_nil)) (pv 1)) (pa_cons (pv 7) pa_nil))))
      (pss_cons (ps_if (pt_cmpR (op_neOwn T.nf_PrimeForm T.px_obj T.px_ne T.me_PrimeForm___eq__.at_ T.me_PrimeForm___eq__.fn (ok_PrimeForm___eq__ T) (hr.mono (by decide)) T.b_PrimeForm___eq__ pass0) (pe_meth (pe_meth (pv 8) T.cl_PrimeForm T.me_PrimeForm_changed (ok_PrimeForm_changed T) (hr.mono (by decide)) T.b_PrimeForm_changed .nil pass0 (pa_cons (pv 12) pa_nil)) T.cl_PrimeForm T.me_PrimeForm_laid (ok_PrimeForm_laid T) (hr.mono (by decide)) T.b_PrimeForm_laid .nil pass0 (pa_cons (pe_meth (pv 9) T.cl_PrimeForm T.me_PrimeForm_changed (ok_PrimeForm_changed T) (hr.mono (by decide)) T.b_PrimeForm_changed .nil pass0 (pa_cons (pv 12) pa_nil)) (pa_cons (pv 7) pa_nil))) (pe_make T.mk_PrimeForm (ok_PrimeForm___init__ T) (hr.mono (by decide)) (by rfl) T.mg_PrimeForm T.b_PrimeForm___init__ .nil pass0 (pa_cons (pv 1) (pa_cons (pe_call (ok_law_scaled T) (hr.mono (by decide)) (by rfl) T.m_law_scaled T.F_law_scaled.kp T.b_law_scaled .nil pass0 (pa_cons (pe_prop (pe_meth (pv 10) T.cl_PrimeForm T.me_PrimeForm_changed (ok_PrimeForm_changed T) (hr.mono (by decide)) T.b_PrimeForm_changed .nil pass0 (pa_cons (pv 12) pa_nil)) T.cl_PrimeForm T.pr_PrimeForm_entries (ok_PrimeForm_entries T) (hr.mono (by decide)) T.b_PrimeForm_entries .nil pass0 (by rfl)) (pa_cons (pv 13) pa_nil))) pa_nil))) (nomark _)) (pss_one (ps_ret pe_bl)) pss_nil)
      (pss_cons (ps_set (i := 14) sc_law_right.nd rfl (Or.inl rfl) (pe_meth (pv 8) T.cl_PrimeForm T.me_PrimeForm_laid (ok_PrimeForm_laid T) (hr.mono (by decide)) T.b_PrimeForm_laid .nil pass0 (pa_cons (pe_make T.mk_PrimeForm (ok_PrimeForm___init__ T) (hr.mono (by decide)) (by rfl) T.mg_PrimeForm T.b_PrimeForm___init__ .nil pass0 (pa_cons (pv 1) (pa_cons (pe_call (ok_law_plus T) (hr.mono (by decide)) (by rfl) T.m_law_plus T.F_law_plus.kp T.b_law_plus .nil pass0 (pa_cons (pv 5) (pa_cons (pv 6) pa_nil))) pa_nil))) (pa_cons (pv 7) pa_nil))))
      (pss_one (ps_ret (pe_cmpR (op_eqOwn (fun _ _ => rfl) T.nf_PrimeForm T.me_PrimeForm___eq__.at_ T.me_PrimeForm___eq__.fn (ok_PrimeForm___eq__ T) (hr.mono (by decide)) T.b_PrimeForm___eq__ pass0) (pv 14) (pe_make T.mk_PrimeForm (ok_PrimeForm___init__ T) (hr.mono (by decide)) (by rfl) T.mg_PrimeForm T.b_PrimeForm___init__ .nil pass0 (pa_cons (pv 1) (pa_cons (pe_call (ok_law_plus T) (hr.mono (by decide)) (by rfl) T.m_law_plus T.F_law_plus.kp T.b_law_plus .nil pass0 (pa_cons (pe_prop (pv 10) T.cl_PrimeForm T.pr_PrimeForm_entries (ok_PrimeForm_entries T) (hr.mono (by decide)) T.b_PrimeForm_entries .nil pass0 (by rfl)) (pa_cons (pe_prop (pe_meth (pv 8) T.cl_PrimeForm T.me_PrimeForm_laid (ok_PrimeForm_laid T) (hr.mono (by decide)) T.b_PrimeForm_laid .nil pass0 (pa_cons (pe_make T.mk_PrimeForm (ok_PrimeForm___init__ T) (hr.mono (by decide)) (by rfl) T.mg_PrimeForm T.b_PrimeForm___init__ .nil pass0 (pa_cons (pv 1) (pa_cons (pv 6) pa_nil))) (pa_cons (pv 7) pa_nil))) T.cl_PrimeForm T.pr_PrimeForm_entries (ok_PrimeForm_entries T) (hr.mono (by decide)) T.b_PrimeForm_entries .nil pass0 (by rfl)) pa_nil))) pa_nil))) (nomark _))))))))))))))))), ?_⟩
    rw [st_law_right]
    simp only [ap_seq, ap_next, ap_asg, ap_gName, ap_ret, ap_retN, ap_drop, ap_ifS, ap_break, ap_cont, ap_par, ap_aug, ap_ip, ap_gSub, ap_gTup, ap_gNil, ap_gCons, ap_var, ap_c, ap_op, ap_un, ap_if, ap_test, ap_B, ap_and, ap_or, ap_not, ap_andV, ap_orV, ap_notV, ap_nil, ap_cons, ap_tup, ap_lst, ap_cb, ap_bm, ap_call, ap_chain, ap_rI, ap_rI0, ap_rU, ap_rEq, ap_rNe, ap_revT, ap_sl, ap_part, ap_noPart, ap_ixLI, ap_ixTI, ap_ixLV, ap_ixTV, ap_len, ap_setLI, ap_setLV, ap_appI, ap_appV, ap_tupL, ap_listS, ap_sumLI, ap_sumTI, ap_repLI, ap_intI, ap_intB, ap_eqTI, ap_neTI, ap_eqLI, ap_neLI, ap_isi, ap_for, ap_rng1, ap_rng2, ap_iList, ap_iTup, ap_lc, ap_yes, ap_cut, ap_gTupH, ap_fmt, ap_jsn, ap_jsc, ap_gcd, ap_isqrt, ap_ixL, tyV_l, wipe_nil, wipe_cons, upd_same, ap_iEnT, ap_iEnL, ap_iZipA, ap_all, ap_tupT, ap_attF, ap_makeL, ap_att, ap_prop, ap_isO, ap_bin, ap_ne, ap_meth, ap_make, ins_inj, FE_inj, ap_slI, ap_catI, ap_perm, ap_lenO, ap_strO, ap_listO, ap_reprB, ap_iterT, ap_neT, ap_negO, ap_binI, ap_catL, ap_tM1, ap_repTI, ap_popN, ap_par3, ap_catTT, ap_repTA, ap_countT, ap_notInT, ap_repL1, ap_cm, ap_shl, ap_shr, ap_mask, ap_comb, ap_bits, ap_rng3, List.set_cons_zero, List.set_cons_succ, List.getElem?_cons_zero, List.getElem?_cons_succ, List.cons_append, List.nil_append, List.append_nil, Option.some.injEq, V.int.injEq, V.ref.injEq, V.bl.injEq, V.str.injEq, V.ty.injEq, Bool.not_true, Bool.not_false, HO.lst.injEq, HO.tup.injEq, reduceCtorEq, Int.reduceToNat, Int.reduceLT, Int.reduceLE, Nat.reduceAdd, Int.cast_ofNat_Int, gi_c0, gi_c1, gi_c2, gi_c3, Int.natCast_inj, map_int_inj, map_nil_iff, List.cons.injEq, exists_eq_left, exists_eq_left', exists_eq, exists_eq', exists_and_left, exists_and_right, exists_const, and_assoc, and_true, true_and, and_false, false_and, or_false, false_or, or_true, true_or, ite_true, ite_false, if_true, if_false, Bool.false_eq_true, own_cons, own_nil, le1, le2, le3, le4, me_cons, me_nil, List.length_map, List.length_cons, List.length_nil, ne_eq, not_false_eq_true, not_true_eq_false, decide_eq_true_eq]
    refine ⟨d, rfl, hD, fun H1 p ex1 D1 pp => ?_⟩
    have pb := primes_bd pp
    simp only [ap_seq, ap_next, ap_asg, ap_gName, ap_ret, ap_retN, ap_drop, ap_ifS, ap_break, ap_cont, ap_par, ap_aug, ap_ip, ap_gSub, ap_gTup, ap_gNil, ap_gCons, ap_var, ap_c, ap_op, ap_un, ap_if, ap_test, ap_B, ap_and, ap_or, ap_not, ap_andV, ap_orV, ap_notV, ap_nil, ap_cons, ap_tup, ap_lst, ap_cb, ap_bm, ap_call, ap_chain, ap_rI, ap_rI0, ap_rU, ap_rEq, ap_rNe, ap_revT, ap_sl, ap_part, ap_noPart, ap_ixLI, ap_ixTI, ap_ixLV, ap_ixTV, ap_len, ap_setLI, ap_setLV, ap_appI, ap_appV, ap_tupL, ap_listS, ap_sumLI, ap_sumTI, ap_repLI, ap_intI, ap_intB, ap_eqTI, ap_neTI, ap_eqLI, ap_neLI, ap_isi, ap_for, ap_rng1, ap_rng2, ap_iList, ap_iTup, ap_lc, ap_yes, ap_cut, ap_gTupH, ap_fmt, ap_jsn, ap_jsc, ap_gcd, ap_isqrt, ap_ixL, tyV_l, wipe_nil, wipe_cons, upd_same, ap_iEnT, ap_iEnL, ap_iZipA, ap_all, ap_tupT, ap_attF, ap_makeL, ap_att, ap_prop, ap_isO, ap_bin, ap_ne, ap_meth, ap_make, ins_inj, FE_inj, ap_slI, ap_catI, ap_perm, ap_lenO, ap_strO, ap_listO, ap_reprB, ap_iterT, ap_neT, ap_negO, ap_binI, ap_catL, ap_tM1, ap_repTI, ap_popN, ap_par3, ap_catTT, ap_repTA, ap_countT, ap_notInT, ap_repL1, ap_cm, ap_shl, ap_shr, ap_mask, ap_comb, ap_bits, ap_rng3, List.set_cons_zero, List.set_cons_succ, List.getElem?_cons_zero, List.getElem?_cons_succ, List.cons_append, List.nil_append, List.append_nil, Option.some.injEq, V.int.injEq, V.ref.injEq, V.bl.injEq, V.str.injEq, V.ty.injEq, Bool.not_true, Bool.not_false, HO.lst.injEq, HO.tup.injEq, reduceCtorEq, Int.reduceToNat, Int.reduceLT, Int.reduceLE, Nat.reduceAdd, Int.cast_ofNat_Int, gi_c0, gi_c1, gi_c2, gi_c3, Int.natCast_inj, map_int_inj, map_nil_iff, List.cons.injEq, exists_eq_left, exists_eq_left', exists_eq, exists_eq', exists_and_left, exists_and_right, exists_const, and_assoc, and_true, true_and, and_false, false_and, or_false, false_or, or_true, true_or, ite_true, ite_false, if_true, if_false, Bool.false_eq_true, own_cons, own_nil, le1, le2, le3, le4, me_cons, me_nil, List.length_map, List.length_cons, List.length_nil, ne_eq, not_false_eq_true, not_true_eq_false, decide_eq_true_eq]
    refine ⟨d, 8, rfl, D1, by omega, by omega, fun H2 n0 ex2 D2 a0 a1 => ?_⟩
    obtain ⟨n, rfl⟩ := Int.eq_ofNat_of_zero_le a0
    refine ⟨d, 6, rfl, D2, by omega, by omega, fun H3 m0 ex3 D3 b0 b1 => ?_⟩
    obtain ⟨m, rfl⟩ := Int.eq_ofNat_of_zero_le b0
    refine ⟨d, n, rfl, D3, by omega, fun H4 o one ex4 D4 no do1 ho => ?_⟩
    refine ⟨d, m, rfl, D4, by omega, fun H5 q oth ex5 D5 nq do2 hq => ?_⟩
    refine ⟨d, m, rfl, D5, by omega, fun H6 q3 thi ex6 D6 nq3 do3 hq3 => ?_⟩
    have q1 := do1.1
    have q2 := do2.1
    have q3' := do3.1
    have B1 := drawn_abs do1
    have B2 := drawn_abs do2
    have B3 := drawn_abs do3
    obtain ⟨tt, ht, t1, t2⟩ : ∃ tt : Int, (if (m : Int) < (n : Int) then (m : Int) else (n : Int)) + 1 = tt ∧ 1 ≤ tt ∧ (tt ≤ (n : Int) + 1 ∧ tt ≤ (m : Int) + 1) :=
      ⟨_, rfl, by split <;> omega, by split <;> constructor <;> omega⟩
    refine ⟨n, rfl, m, rfl, ?_⟩
    rw [ht]
    refine ⟨d, tt, rfl, D6, by omega, by omega, fun H7 k0 ex7 D7 c0 c1 => ?_⟩
    obtain ⟨k, rfl⟩ := Int.eq_ofNat_of_zero_le c0
    have hk1 : k < one.length := by omega
    have hk2 : k < oth.length := by omega
    have hk3 : k < thi.length := by omega
    have ho7 := exT D4 ((ex5.trans ex6).trans ex7) ho
    have hq7 := exT D5 (ex6.trans ex7) hq
    have h37 := exT D6 ex7 hq3
    have EX7 := (((((ex1.trans ex2).trans ex3).trans ex4).trans ex5).trans ex6).trans ex7
    have smA : ∀ {ns : List Int} {A : Nat}, A < 10 ^ 60 → (∀ n ∈ ns, n.natAbs ≤ A) → ∀ n ∈ ns, Sm n := fun hA hb n hn => by have := hb n hn; unfold Sm; omega
    have lay_b : ∀ {f g : List Int} {A B : Nat}, f.length ≤ 8 → g.length ≤ 8 → (∀ n ∈ f, n.natAbs ≤ A) → (∀ n ∈ g, n.natAbs ≤ B) → ∀ n ∈ layP f g k, n.natAbs ≤ 128 ^ 5 * (8 * A * (8 * B)) := fun {f g A B} hf hg bf bg n hn => by
      have b1 : l1 f ≤ 8 * A := Nat.le_trans (l1_le bf) (Nat.mul_le_mul_right _ hf)
      have b2 : l1 g ≤ 8 * B := Nat.le_trans (l1_le bg) (Nat.mul_le_mul_right _ hg)
      exact Nat.le_trans (l1_mem hn) (Nat.le_trans (l1_lay (D := 8) k f g hf hg) (Nat.mul_le_mul (Nat.pow_le_pow_right (by decide) (show k ≤ 5 by omega)) (Nat.mul_le_mul b1 b2)))
    have ln := layP_len k one oth hk1 hk2
    have ln3 := layP_len k one thi hk1 hk3
    have ln2 := layP_len k oth one hk2 hk1
    have lm1 := md_len p one
    have lm2 := md_len p oth
    have lm3 := md_len p thi
    have bL := lay_b (by omega) (by omega) B1 B2
    have sL := smA (by decide +kernel) bL
    have lg : ∀ {l : List Int}, (∀ n ∈ l, n.natAbs ≤ 10 ^ 13) → Lg l := fun h n hn => Nat.le_trans (h n hn) (by decide +kernel)
    refine newP_ok ho7 pp ⟨by omega, by omega, smA (by decide) B1⟩ fun F H8 s8 nF hF => ?_
    refine newP_ok (s8 _ _ hq7) pp ⟨by omega, by omega, smA (by decide) B2⟩ fun G H9 s9 nG hG => ?_
    have hF9 := hF.same s9
    obtain ⟨d1, t1', a1', b1'⟩ := id hF9
    refine ⟨F, rfl, d1, _, a1', PF_no (by decide +kernel) (by decide +kernel), F, G, p, _, _, k, rfl, hF9, hG, pp, by omega, by omega, by omega, by omega, by omega, md_md p _, md_md p _, fun H10 TT s10 nT hT => ?_⟩
    rw [md_lay k (md_md p one) (md_md p oth)] at hT
    have S10 := (s8.trans s9).trans s10
    refine ⟨o, q, one, oth, k, rfl, S10 _ _ ho7, S10 _ _ hq7, hk1, hk2, by omega, by omega, lg B1, lg B2, lay_bm (by omega) (by omega) (fun n hn => Nat.le_trans (B1 n hn) (by decide +kernel)) (fun n hn => Nat.le_trans (B2 n hn) (by decide +kernel)), fun H11 w1 s11 hw1 => ?_⟩
    refine newP_ok hw1 pp ⟨by omega, by omega, sL⟩ fun U H12 s12 nU hU => ?_
    have hT12 := hT.same (s11.trans s12)
    obtain ⟨d2, t2', a2', b2'⟩ := id hT12
    obtain ⟨d3, t3', a3', b3'⟩ := id hU
    have lmT := md_len p (layP one oth k)
    refine ⟨TT, rfl, d2, _, U, rfl, a2', ⟨_, _, a3'⟩, TT, U, p, p, _, _, rfl, hT12, hU, by omega, by omega, true, by rw [decide_eq_true ⟨rfl, rfl⟩], ?_⟩
    rw [if_neg (by simp)]
    refine ⟨TT, rfl, ⟨_, _, a2'⟩, TT, d2, t2', p, _, rfl, a2', b2', n, rfl, m, rfl, k, rfl, ⟨⟨by decide, by decide⟩, ?_, ?_⟩, rfl, ?_⟩
    · have b250 : (1000 : Int) < (2 ^ 250) ^ 16 := by decide +kernel
      omega
    · have b250 : (1000 : Int) < (2 ^ 250) ^ 16 := by decide +kernel
      omega
    have eln : ((md p (layP one oth k)).length : Int) - 1 = (n : Int) + m - 2 * k := by omega
    rw [eln, decide_eq_true rfl, if_neg (by simp)]
    have S12 := (S10.trans s11).trans s12
    refine new_ok (S12 _ _ ho7) ⟨by omega, by omega, smA (by decide) B1⟩ fun Fo dFo H13 s13 nFo hFo => ?_
    refine new_ok (s13 _ _ (S12 _ _ hq7)) ⟨by omega, by omega, smA (by decide) B2⟩ fun Go dGo H14 s14 nGo hGo => ?_
    have S14 := (S12.trans s13).trans s14
    refine ⟨Fo, dFo, o, Go, dGo, q, one, oth, k, rfl, s14 _ _ hFo, S14 _ _ ho7, hGo, S14 _ _ hq7, hk1, hk2, by omega, by omega, by omega, lg B1, lg B2, fun H15 L dL tL s15 nL hL htL => ?_⟩
    refine ⟨L, dL, tL, p, layP one oth k, rfl, hL, htL, pp, by omega, by omega, fun n hn => (sL n hn).wd, fun H16 VV s16 nV hV => ?_⟩
    have S16 := (S14.trans s15).trans s16
    have hT16 := hT12.same (((s13.trans s14).trans s15).trans s16)
    obtain ⟨d4, t4', a4', b4'⟩ := id hT16
    obtain ⟨d5, t5', a5', b5'⟩ := id hV
    refine ⟨TT, rfl, d4, _, VV, rfl, a4', ⟨_, _, a5'⟩, TT, VV, p, p, _, _, rfl, hT16, hV, by omega, by omega, true, by rw [decide_eq_true ⟨rfl, rfl⟩], ?_⟩
    rw [if_neg (by simp)]
    refine ⟨fun σ' H' => H' = H16 ∧ σ' = [some (.ref d), some (.int p), some (.int n), some (.int m), some (.ref o), some (.ref q), some (.ref q3), some (.int k), some (.ref F), some (.ref G), some (.ref TT), some (.int (sg k)), none, none, none], ?_, fun σ' HX hP => ?_⟩
    · refine ⟨k, rfl, rfl, iteC (fun c0 => ?_) (fun c0 => ?_)⟩
      · refine ⟨rfl, ?_⟩
        have : sg k = 1 := if_pos (by omega)
        rw [this]
      · refine ⟨rfl, ?_⟩
        have : sg k = -1 := if_neg (by omega)
        rw [this]
    obtain ⟨rfl, e0⟩ := hP
    subst e0
    simp only [ap_seq, ap_next, ap_asg, ap_gName, ap_ret, ap_retN, ap_drop, ap_ifS, ap_break, ap_cont, ap_par, ap_aug, ap_ip, ap_gSub, ap_gTup, ap_gNil, ap_gCons, ap_var, ap_c, ap_op, ap_un, ap_if, ap_test, ap_B, ap_and, ap_or, ap_not, ap_andV, ap_orV, ap_notV, ap_nil, ap_cons, ap_tup, ap_lst, ap_cb, ap_bm, ap_call, ap_chain, ap_rI, ap_rI0, ap_rU, ap_rEq, ap_rNe, ap_revT, ap_sl, ap_part, ap_noPart, ap_ixLI, ap_ixTI, ap_ixLV, ap_ixTV, ap_len, ap_setLI, ap_setLV, ap_appI, ap_appV, ap_tupL, ap_listS, ap_sumLI, ap_sumTI, ap_repLI, ap_intI, ap_intB, ap_eqTI, ap_neTI, ap_eqLI, ap_neLI, ap_isi, ap_for, ap_rng1, ap_rng2, ap_iList, ap_iTup, ap_lc, ap_yes, ap_cut, ap_gTupH, ap_fmt, ap_jsn, ap_jsc, ap_gcd, ap_isqrt, ap_ixL, tyV_l, wipe_nil, wipe_cons, upd_same, ap_iEnT, ap_iEnL, ap_iZipA, ap_all, ap_tupT, ap_attF, ap_makeL, ap_att, ap_prop, ap_isO, ap_bin, ap_ne, ap_meth, ap_make, ins_inj, FE_inj, ap_slI, ap_catI, ap_perm, ap_lenO, ap_strO, ap_listO, ap_reprB, ap_iterT, ap_neT, ap_negO, ap_binI, ap_catL, ap_tM1, ap_repTI, ap_popN, ap_par3, ap_catTT, ap_repTA, ap_countT, ap_notInT, ap_repL1, ap_cm, ap_shl, ap_shr, ap_mask, ap_comb, ap_bits, ap_rng3, List.set_cons_zero, List.set_cons_succ, List.getElem?_cons_zero, List.getElem?_cons_succ, List.cons_append, List.nil_append, List.append_nil, Option.some.injEq, V.int.injEq, V.ref.injEq, V.bl.injEq, V.str.injEq, V.ty.injEq, Bool.not_true, Bool.not_false, HO.lst.injEq, HO.tup.injEq, reduceCtorEq, Int.reduceToNat, Int.reduceLT, Int.reduceLE, Nat.reduceAdd, Int.cast_ofNat_Int, gi_c0, gi_c1, gi_c2, gi_c3, Int.natCast_inj, map_int_inj, map_nil_iff, List.cons.injEq, exists_eq_left, exists_eq_left', exists_eq, exists_eq', exists_and_left, exists_and_right, exists_const, and_assoc, and_true, true_and, and_false, false_and, or_false, false_or, or_true, true_or, ite_true, ite_false, if_true, if_false, Bool.false_eq_true, own_cons, own_nil, le1, le2, le3, le4, me_cons, me_nil, List.length_map, List.length_cons, List.length_nil, ne_eq, not_false_eq_true, not_true_eq_false, decide_eq_true_eq]
    have hF16 := hF9.same (s10.trans ((s11.trans s12).trans (((s13.trans s14).trans s15).trans s16)))
    have hG16 := hG.same (s10.trans ((s11.trans s12).trans (((s13.trans s14).trans s15).trans s16)))
    have ho16 := S16 _ _ ho7
    have hq16 := S16 _ _ hq7
    have h316 := S16 _ _ h37
    have D16 := D7.same S16
    have mb : ∀ l : List Int, ∀ n ∈ md p l, n.natAbs ≤ 101 := fun l n hn => by have := md_rg (p := p) (by omega) l n hn; omega
    have nl : ∀ {t : Addr}, (PFe p t).lookup (Str.ofString "laid") = none := fun {t} => PF_no (by decide +kernel) (by decide +kernel)
    obtain ⟨d6, t6', a6', b6'⟩ := id hG16
    refine ⟨d6, _, a6', nl, G, F, p, _, _, k, rfl, hG16, hF16, pp, by omega, by omega, by omega, by omega, by omega, md_md p _, md_md p _, fun H17 W1 s17 nW hW => ?_⟩
    rw [md_lay k (md_md p oth) (md_md p one)] at hW
    have hT17 := hT16.same s17
    obtain ⟨d7, t7', a7', b7'⟩ := id hT17
    have sg1 : (sg k).natAbs ≤ 1 := by rcases sg_abs k with h | h <;> rw [h] <;> decide
    refine ⟨⟨_, _, a7'⟩, TT, d7, t7', p, rfl, a7', t7', _, sg k, rfl, b7', by omega, fun n hn => by have := mb _ n hn; exact Sm.wd (by unfold Sm; omega), Sm.wd (by unfold Sm; omega), fun H18 w2 s18 nw2 hw2 => ?_⟩
    have lsc := sc_len (sg k) (md p (layP one oth k))
    refine newP_ok hw2 pp ⟨by rw [List.length_map]; omega, by rw [List.length_map]; omega, fun n hn => by
      obtain ⟨y, hy, rfl⟩ := List.mem_map.mp hn
      have := mb _ y hy
      have e := Int.natAbs_mul (sg k) y
      have : (sg k).natAbs * y.natAbs ≤ 1 * 101 := Nat.mul_le_mul sg1 this
      unfold Sm
      omega⟩ fun U2 H19 s19 nU2 hU2 => ?_
    have e1 : md p ((md p (layP one oth k)).map (sg k * ·)) = md p (layP oth one k) := by
      show md p (sc (sg k) (md p (layP one oth k))) = _
      rw [md_scL (md_md p (layP one oth k)) rfl, lay_swap hk1 hk2]
    rw [e1] at hU2
    have hW19 := hW.same (s18.trans s19)
    obtain ⟨d8, t8', a8', b8'⟩ := id hW19
    obtain ⟨d9, t9', a9', b9'⟩ := id hU2
    have lmW := md_len p (layP oth one k)
    refine ⟨W1, rfl, d8, _, U2, rfl, a8', ⟨_, _, a9'⟩, W1, U2, p, p, _, _, rfl, hW19, hU2, by omega, by omega, true, by rw [decide_eq_true ⟨rfl, rfl⟩], ?_⟩
    rw [if_neg (by simp)]
    have S19 := (s17.trans s18).trans s19
    refine ⟨d, p, rfl, D16.same S19, pp, fun H20 r a b c e ex20 D20 tab bd hd => ?_⟩
    have D19 := D16.same S19
    have TB : Tb (10 ^ 20) a b c e := ⟨bd _ (by simp), bd _ (by simp), bd _ (by simp), bd _ (by simp)⟩
    have T4o : T4 a b c e := by
      obtain ⟨h1, h2, h3, h4⟩ := TB
      exact ⟨by unfold Tn; omega, by unfold Tn; omega, by unfold Tn; omega, by unfold Tn; omega⟩
    refine ⟨r, a, b, c, e, rfl, tab, T4o.a.sm, T4o.b.sm, T4o.c.sm, T4o.d.sm, _, rfl, by omega, ?_⟩
    have x0 := Int.emod_nonneg (a * e - b * c) (show p ≠ 0 by omega)
    have x1 := Int.emod_lt_of_pos (a * e - b * c) (show 0 < p by omega)
    refine ⟨_, k, rfl, by omega, by omega, ?_⟩
    have nc : ∀ {t : Addr}, (PFe p t).lookup (Str.ofString "changed") = none := fun {t} => PF_no (by decide +kernel) (by decide +kernel)
    have emc : ∀ {a b c e : Int} (l : List Int), md p (chP [a, b] [c, e] (md p l)) = md p (chP [a, b] [c, e] l) := fun l => md_chP rfl rfl (md_md p l)
    have lch : ∀ {a b c e : Int} (l : List Int), 0 < l.length → (chP [a, b] [c, e] l).length = l.length := fun l h => chP_len rfl rfl h
    have hF20 := (hF16.same S19).exc D19 ex20
    have hG20 := (hG16.same S19).exc D19 ex20
    have hT20 := (hT16.same S19).exc D19 ex20
    have ho20 := exT D19 ex20 (S19 _ _ ho16)
    have hq20 := exT D19 ex20 (S19 _ _ hq16)
    have h320 := exT D19 ex20 (S19 _ _ h316)
    have lc1 := lch (a := a) (b := b) (c := c) (e := e) one (by omega)
    have lc2 := lch (a := a) (b := b) (c := c) (e := e) oth (by omega)
    have lcL := lch (a := a) (b := b) (c := c) (e := e) (layP one oth k) (by omega)
    have lmc1 := md_len p (chP [a, b] [c, e] one)
    have lmc2 := md_len p (chP [a, b] [c, e] oth)
    have lmcL := md_len p (chP [a, b] [c, e] (layP one oth k))
    obtain ⟨f1, f2, f3, f4⟩ := id hF20
    refine ⟨f1, _, f3, nc, F, r, _, a, b, c, e, p, rfl, hF20, tab, T4o, hd, pp, by omega, by omega, md_md p one, fun H21 F1 s21 nF1 hF1 => ?_⟩
    rw [emc] at hF1
    have hG21 := hG20.same s21
    obtain ⟨g1, g2, g3, g4⟩ := id hG21
    obtain ⟨f5, f6, f7, f8⟩ := id hF1
    refine ⟨F1, rfl, f5, _, f7, nl, g1, _, g3, nc, G, r, _, a, b, c, e, p, rfl, hG21, tab.same s21, T4o, hd, pp, by omega, by omega, md_md p oth, fun H22 G1 s22 nG1 hG1 => ?_⟩
    rw [emc] at hG1
    have hF122 := hF1.same s22
    refine ⟨F1, G1, p, _, _, k, rfl, hF122, hG1, pp, by omega, by omega, by omega, by omega, by omega, md_md p _, md_md p _, fun H23 W3 s23 nW3 hW3 => ?_⟩
    rw [md_lay k (md_md p (chP [a, b] [c, e] one)) (md_md p (chP [a, b] [c, e] oth)), ← lay_ch hk1 hk2] at hW3
    have S23 := (s21.trans s22).trans s23
    have hT23 := hT20.same S23
    obtain ⟨u1, u2, u3, u4⟩ := id hT23
    refine ⟨u1, _, u3, nc, TT, r, _, a, b, c, e, p, rfl, hT23, tab.same S23, T4o, hd, pp, by omega, by omega, md_md p _, fun H24 W4 s24 nW4 hW4 => ?_⟩
    rw [emc] at hW4
    obtain ⟨u5, u6, u7, u8⟩ := id hW4
    have xk : (((a * e - b * c) % p) ^ k).natAbs ≤ 101 ^ 5 := by
      have : ((a * e - b * c) % p).natAbs ≤ 101 := by omega
      exact Nat.le_trans (abs_pow _ this k) (Nat.pow_le_pow_right (by decide) (show k ≤ 5 by omega))
    refine ⟨W4, rfl, ⟨_, _, u7⟩, W4, u5, u6, p, rfl, u7, u6, _, ((a * e - b * c) % p) ^ k, rfl, u8, by omega, fun n hn => by have := mb _ n hn; exact Sm.wd (by unfold Sm; omega), Sm.wd (by unfold Sm; omega), fun H25 w5 s25 nw5 hw5 => ?_⟩
    refine newP_ok hw5 pp ⟨by rw [List.length_map]; omega, by rw [List.length_map]; omega, fun n hn => by
      obtain ⟨y, hy, rfl⟩ := List.mem_map.mp hn
      have := mb _ y hy
      have ee := Int.natAbs_mul (((a * e - b * c) % p) ^ k) y
      have : (((a * e - b * c) % p) ^ k).natAbs * y.natAbs ≤ 101 ^ 5 * 101 := Nat.mul_le_mul xk this
      unfold Sm
      omega⟩ fun U6 H26 s26 nU6 hU6 => ?_
    have e2 : md p ((md p (chP [a, b] [c, e] (layP one oth k))).map (((a * e - b * c) % p) ^ k * ·)) = md p (sc ((a * e - b * c) ^ k) (chP [a, b] [c, e] (layP one oth k))) :=
      md_scL (md_md p _) (pw_md k)
    rw [e2] at hU6
    have hW326 := hW3.same ((s24.trans s25).trans s26)
    obtain ⟨u9, u10, u11, u12⟩ := id hW326
    obtain ⟨u13, u14, u15, u16⟩ := id hU6
    have lms := md_len p (sc ((a * e - b * c) ^ k) (chP [a, b] [c, e] (layP one oth k)))
    have lms2 := sc_len ((a * e - b * c) ^ k) (chP [a, b] [c, e] (layP one oth k))
    refine ⟨W3, rfl, u9, _, U6, rfl, u11, ⟨_, _, u15⟩, W3, U6, p, p, _, _, rfl, hW326, hU6, by omega, by omega, true, by rw [decide_eq_true ⟨rfl, rfl⟩], ?_⟩
    rw [if_neg (by simp)]
    have S26 := ((S23.trans s24).trans s25).trans s26
    have hF26 := hF20.same S26
    have hq26 := S26 _ _ hq20
    have h326 := S26 _ _ h320
    obtain ⟨z1, z2, z3, z4⟩ := id hF26
    refine ⟨z1, _, z3, nl, q, q3, oth, thi, rfl, hq26, h326, by omega, by omega, fun H27 w6 s27 nw6 hw6 => ?_⟩
    have lpl : (pl oth thi).length = oth.length := pl_len (by omega)
    have bpl : ∀ n ∈ pl oth thi, n.natAbs ≤ 10 ^ 13 + 10 ^ 13 := zip_abs B2 B3
    refine newP_ok (es := pl oth thi) hw6 pp ⟨by omega, by omega, smA (by decide) bpl⟩ fun Y1 H28 s28 nY1 hY1 => ?_
    have lmp := md_len p (pl oth thi)
    refine ⟨F, Y1, p, _, _, k, rfl, (hF26.same s27).same s28, hY1, pp, by omega, by omega, by omega, by omega, by omega, md_md p _, md_md p _, fun H29 Y2 s29 nY2 hY2 => ?_⟩
    rw [md_lay k (md_md p one) (md_md p (pl oth thi)), lay_plR (by omega) hk1 hk2] at hY2
    have S29 := ((S26.trans s27).trans s28).trans s29
    have hT29 := hT20.same S29
    have hF29 := hF20.same S29
    obtain ⟨y1, y2, y3, y4⟩ := id hT29
    obtain ⟨x5, x6, x7, x8⟩ := id hF29
    refine ⟨⟨_, _, y3⟩, TT, y1, y2, p, rfl, y3, x5, _, x7, nl, ?_⟩
    refine newP_ok (S29 _ _ h320) pp ⟨by omega, by omega, smA (by decide) B3⟩ fun Y3 H30 s30 nY3 hY3 => ?_
    refine ⟨F, Y3, p, _, _, k, rfl, hF29.same s30, hY3, pp, by omega, by omega, by omega, by omega, by omega, md_md p _, md_md p _, fun H31 Y4 s31 nY4 hY4 => ?_⟩
    rw [md_lay k (md_md p one) (md_md p thi)] at hY4
    obtain ⟨y5, y6, y7, y8⟩ := id hY4
    have lm9 := md_len p (layP one thi k)
    refine ⟨Y4, rfl, ⟨_, _, y7⟩, Y4, y5, y6, p, rfl, y7, y2, y6, _, _, rfl, s31 _ _ (s30 _ _ y4), y8, by omega, by omega, fun H32 w7 s32 nw7 hw7 => ?_⟩
    have lpm : (pl (md p (layP one oth k)) (md p (layP one thi k))).length = (md p (layP one oth k)).length := pl_len (by omega)
    refine newP_ok (es := pl (md p (layP one oth k)) (md p (layP one thi k))) hw7 pp ⟨by omega, by omega, smA (A := 101 + 101) (by decide) (zip_abs (mb _) (mb _))⟩ fun Y5 H33 s33 nY5 hY5 => ?_
    have e3 : md p (pl (md p (layP one oth k)) (md p (layP one thi k))) = md p (pl (layP one oth k) (layP one thi k)) := md_zip (md_md p _) (md_md p _)
    rw [e3] at hY5
    have hY233 := hY2.same (((s30.trans s31).trans s32).trans s33)
    obtain ⟨v1, v2, v3, v4⟩ := id hY233
    obtain ⟨v5, v6, v7, v8⟩ := id hY5
    have lma := md_len p (pl (layP one oth k) (layP one thi k))
    have lmb : (pl (layP one oth k) (layP one thi k)).length = (layP one oth k).length := pl_len (by omega)
    refine ⟨Y2, rfl, v1, _, Y5, rfl, v3, ⟨_, _, v7⟩, Y2, Y5, p, p, _, _, rfl, hY233, hY5, by omega, by omega, ?_⟩
    rw [decide_eq_true ⟨rfl, rfl⟩]
    have SE := (((S29.trans s30).trans s31).trans s32).trans s33
    exact kk H33 (((EX7.trans (.same S16)).trans (.same S19)).trans ((ex20).trans (.same SE))) (D20.same SE)
end
end My
namespace My
open PySem PySem.Spec PyProof.Rows L2 Pr
section
variable {P : Program} {w : World} {K : PySem.W.Frag} {mg : Str → Option Value} {base : Heap}
def sp_law (K : PySem.W.Frag) : Sp := fun vs H Q _ => ∃ (a : Addr) (ns : List Int), vs = [.ref a] ∧ SqL K H a (ns.map V.int) ∧ ns.length ≤ 63 ∧ ∀ H', Q (.bl true) H'
theorem ok_law (T : Tx K mg) : FnOk P w K mg base CX0 28 T.f_law T.d_law p_law (sp_law K) := by
  refine T.F_law.ok sc_law (fun vs H Q E h => ?_) (fun cdv A outer s H vs Q E hr h => ?_)
  · obtain ⟨a, ns, rfl, _⟩ := h
    rfl
  · obtain ⟨a, ns, rfl, hS, hl, q⟩ := h
    refine ⟨_, (pss_cons (ps_for PassesOwn.never rfl (pi_range1 (by rfl) T.z_range (pa_cons (pe_callB (call_max2 rfl) (by rfl) T.z_max (by decide +kernel) (pa_cons pe_int (pa_cons (pe_callB (call_min2 rfl) (by rfl) T.z_min (by decide +kernel) (pa_cons pe_int (pa_cons (pe_callB call_len_seq (by rfl) T.z_len PySem.boot_len (pa_cons (pv 0) pa_nil)) pa_nil))) pa_nil))) pa_nil)) (pg_name (i := 1) sc_law.nd rfl (by first | exact .inl rfl | exact .inr rfl))
      (pss_cons (ps_set (i := 2) sc_law.nd rfl (Or.inl rfl) (pe_call (ok_law_dice T) (hr.mono (by decide)) (by rfl) T.m_law_dice T.F_law_dice.kp T.b_law_dice .nil pass0 (pa_cons (pv 0) (pa_cons (pv 1) pa_nil))))
      (pss_one (ps_if (PW.pt (pw_or (pt_not (pt_val (pe_call (ok_law_right T) (hr.mono (by decide)) (by rfl) T.m_law_right T.F_law_right.kp T.b_law_right .nil pass0 (pa_cons (pv 2) pa_nil)))) (pw_or1 (pt_not (pt_val (pe_call (ok_law_right T) (hr.mono (by decide)) (by rfl) T.m_law_right T.F_law_right.kp T.b_law_right .nil pass0 (pa_cons (pv 2) pa_nil))))))) (pss_one (ps_ret pe_bl)) pss_nil))))
      (pss_cons (ps_set (i := 3) sc_law.nd rfl (Or.inl rfl) (ClX.pe_cmeth (pe_glob (v := .ref T.C_PrimeForm) (by rfl) T.mg_PrimeForm rfl) T.cr_PrimeForm T.cm_PrimeForm_of_form ((ok_PrimeForm_of_form T).rawN T.b_PrimeForm_of_form) (hr.mono (by decide)) pass0 (pa_cons (pe_make T.mk_Form (ok_Form___init__ T) (hr.mono (by decide)) (by rfl) T.mg_Form T.b_Form___init__ .nil pass0 (pa_cons (pe_tup (pa_cons pe_int (pa_cons pe_int (pa_cons (pe_un un_neg pe_int) (pa_cons pe_int pa_nil))))) pa_nil)) (pa_cons pe_int pa_nil))))
      (pss_cons (ps_set (i := 4) sc_law.nd rfl (Or.inl rfl) (pe_meth (pv 3) T.cl_PrimeForm T.me_PrimeForm_laid (ok_PrimeForm_laid T) (hr.mono (by decide)) T.b_PrimeForm_laid .nil pass0 (pa_cons (pv 3) (pa_cons pe_int pa_nil))))
      (pss_cons (ps_if (PW.pt (pw_or (pt_cmpR (op_neTI hr.units) (pe_prop (pv 4) T.cl_PrimeForm T.pr_PrimeForm_entries (ok_PrimeForm_entries T) (hr.mono (by decide)) T.b_PrimeForm_entries .nil pass0 (by rfl)) (pe_tup (pa_cons pe_int (pa_cons pe_int (pa_cons pe_int pa_nil)))) (nomark _)) (pw_or (pt_cmpR op_isNotB (pe_prop (pe_meth (pv 3) T.cl_PrimeForm T.me_PrimeForm_laid (ok_PrimeForm_laid T) (hr.mono (by decide)) T.b_PrimeForm_laid .nil pass0 (pa_cons (pv 3) (pa_cons pe_int pa_nil))) T.cl_PrimeForm T.pr_PrimeForm_is_zero (ok_PrimeForm_is_zero T) (hr.mono (by decide)) T.b_PrimeForm_is_zero .nil pass0 (by rfl)) pe_bl (nomark _)) (pw_or1 (pt_cmpR (op_neOwn T.nf_PrimeForm T.px_obj T.px_ne T.me_PrimeForm___eq__.at_ T.me_PrimeForm___eq__.fn (ok_PrimeForm___eq__ T) (hr.mono (by decide)) T.b_PrimeForm___eq__ pass0) (pe_meth (pv 3) T.cl_PrimeForm T.me_PrimeForm_laid (ok_PrimeForm_laid T) (hr.mono (by decide)) T.b_PrimeForm_laid .nil pass0 (pa_cons (pv 3) (pa_cons pe_int pa_nil))) (pe_op (op_bin T.sf_PrimeForm T.me_PrimeForm___mul__.at_ T.me_PrimeForm___mul__.fn (ok_PrimeForm___mul__ T) (hr.mono (by decide)) T.b_PrimeForm___mul__ pass0) (pv 3) (pv 3)) (nomark _)))))) (pss_one (ps_ret pe_bl)) pss_nil)
      (pss_cons (ps_set (i := 5) sc_law.nd rfl (Or.inl rfl) (pe_make T.mk_PrimeForm (ok_PrimeForm___init__ T) (hr.mono (by decide)) (by rfl) T.mg_PrimeForm T.b_PrimeForm___init__ .nil pass0 (pa_cons pe_int (pa_cons (pe_op op_repTA (pe_tup (pa_cons pe_int pa_nil)) pe_int) pa_nil))))
      (pss_one (ps_ret (pe_and (pe_cmpR op_eq (pe_prop (pe_meth (pv 5) T.cl_PrimeForm T.me_PrimeForm_laid (ok_PrimeForm_laid T) (hr.mono (by decide)) T.b_PrimeForm_laid .nil pass0 (pa_cons (pv 5) (pa_cons pe_int pa_nil))) T.cl_PrimeForm T.pr_PrimeForm_degree (ok_PrimeForm_degree T) (hr.mono (by decide)) T.b_PrimeForm_degree .nil pass0 (by rfl)) pe_int (nomark _)) (pe_one (pe_cmpR op_eq (pe_prop (pe_meth (pv 5) T.cl_PrimeForm T.me_PrimeForm_laid (ok_PrimeForm_laid T) (hr.mono (by decide)) T.b_PrimeForm_laid .nil pass0 (pa_cons (pv 5) (pa_cons pe_int pa_nil))) T.cl_PrimeForm T.pr_PrimeForm_degree (ok_PrimeForm_degree T) (hr.mono (by decide)) T.b_PrimeForm_degree .nil pass0 (by rfl)) pe_int (nomark _))))))))))), ?_⟩
    rw [st_law]
    simp only [ap_seq, ap_next, ap_asg, ap_gName, ap_ret, ap_retN, ap_drop, ap_ifS, ap_break, ap_cont, ap_par, ap_aug, ap_ip, ap_gSub, ap_gTup, ap_gNil, ap_gCons, ap_var, ap_c, ap_op, ap_un, ap_if, ap_test, ap_B, ap_and, ap_or, ap_not, ap_andV, ap_orV, ap_notV, ap_nil, ap_cons, ap_tup, ap_lst, ap_cb, ap_bm, ap_call, ap_chain, ap_rI, ap_rI0, ap_rU, ap_rEq, ap_rNe, ap_revT, ap_sl, ap_part, ap_noPart, ap_ixLI, ap_ixTI, ap_ixLV, ap_ixTV, ap_len, ap_setLI, ap_setLV, ap_appI, ap_appV, ap_tupL, ap_listS, ap_sumLI, ap_sumTI, ap_repLI, ap_intI, ap_intB, ap_eqTI, ap_neTI, ap_eqLI, ap_neLI, ap_isi, ap_for, ap_rng1, ap_rng2, ap_iList, ap_iTup, ap_lc, ap_yes, ap_cut, ap_gTupH, ap_fmt, ap_jsn, ap_jsc, ap_gcd, ap_isqrt, ap_ixL, tyV_l, wipe_nil, wipe_cons, upd_same, ap_iEnT, ap_iEnL, ap_iZipA, ap_all, ap_tupT, ap_attF, ap_makeL, ap_att, ap_prop, ap_isO, ap_bin, ap_ne, ap_meth, ap_make, ins_inj, FE_inj, ap_slI, ap_catI, ap_perm, ap_lenO, ap_strO, ap_listO, ap_reprB, ap_iterT, ap_neT, ap_negO, ap_binI, ap_catL, ap_tM1, ap_repTI, ap_popN, ap_par3, ap_catTT, ap_repTA, ap_countT, ap_notInT, ap_repL1, ap_cm, ap_shl, ap_shr, ap_mask, ap_comb, ap_bits, ap_rng3, List.set_cons_zero, List.set_cons_succ, List.getElem?_cons_zero, List.getElem?_cons_succ, List.cons_append, List.nil_append, List.append_nil, Option.some.injEq, V.int.injEq, V.ref.injEq, V.bl.injEq, V.str.injEq, V.ty.injEq, Bool.not_true, Bool.not_false, HO.lst.injEq, HO.tup.injEq, reduceCtorEq, Int.reduceToNat, Int.reduceLT, Int.reduceLE, Nat.reduceAdd, Int.cast_ofNat_Int, gi_c0, gi_c1, gi_c2, gi_c3, Int.natCast_inj, map_int_inj, map_nil_iff, List.cons.injEq, exists_eq_left, exists_eq_left', exists_eq, exists_eq', exists_and_left, exists_and_right, exists_const, and_assoc, and_true, true_and, and_false, false_and, or_false, false_or, or_true, true_or, ite_true, ite_false, if_true, if_false, Bool.false_eq_true, own_cons, own_nil, le1, le2, le3, le4, me_cons, me_nil, List.length_map, List.length_cons, List.length_nil, ne_eq, not_false_eq_true, not_true_eq_false, decide_eq_true_eq]
    refine ⟨_, .inl hS, ?_⟩
    have ln : (ns.map V.int).length = ns.length := List.length_map ..
    rw [ln]
    obtain ⟨n, hn, n1, n4⟩ : ∃ n : Int, (if (if (ns.length : Int) < 4 then (ns.length : Int) else 4) > 1 then if (ns.length : Int) < 4 then (ns.length : Int) else 4 else 1) = n ∧ 1 ≤ n ∧ n ≤ 4 :=
      ⟨_, rfl, by split <;> split <;> omega, by split <;> split <;> omega⟩
    simp only [hn]
    refine ⟨by omega, by omega, ?_⟩
    refine loop_range (fun i σ' H' => Same H H' ∧ ∃ y1 y2, σ' = [some (.ref a), y1, y2, none, none, none]) ⟨Same.refl H, _, _, rfl⟩ (fun i σ' H1 hi hP => ?_) (fun σ' H1 hP => ?_)
    · obtain ⟨sm, y1, y2, e⟩ := hP
      subst e
      simp only [ap_seq, ap_next, ap_asg, ap_gName, ap_ret, ap_retN, ap_drop, ap_ifS, ap_break, ap_cont, ap_par, ap_aug, ap_ip, ap_gSub, ap_gTup, ap_gNil, ap_gCons, ap_var, ap_c, ap_op, ap_un, ap_if, ap_test, ap_B, ap_and, ap_or, ap_not, ap_andV, ap_orV, ap_notV, ap_nil, ap_cons, ap_tup, ap_lst, ap_cb, ap_bm, ap_call, ap_chain, ap_rI, ap_rI0, ap_rU, ap_rEq, ap_rNe, ap_revT, ap_sl, ap_part, ap_noPart, ap_ixLI, ap_ixTI, ap_ixLV, ap_ixTV, ap_len, ap_setLI, ap_setLV, ap_appI, ap_appV, ap_tupL, ap_listS, ap_sumLI, ap_sumTI, ap_repLI, ap_intI, ap_intB, ap_eqTI, ap_neTI, ap_eqLI, ap_neLI, ap_isi, ap_for, ap_rng1, ap_rng2, ap_iList, ap_iTup, ap_lc, ap_yes, ap_cut, ap_gTupH, ap_fmt, ap_jsn, ap_jsc, ap_gcd, ap_isqrt, ap_ixL, tyV_l, wipe_nil, wipe_cons, upd_same, ap_iEnT, ap_iEnL, ap_iZipA, ap_all, ap_tupT, ap_attF, ap_makeL, ap_att, ap_prop, ap_isO, ap_bin, ap_ne, ap_meth, ap_make, ins_inj, FE_inj, ap_slI, ap_catI, ap_perm, ap_lenO, ap_strO, ap_listO, ap_reprB, ap_iterT, ap_neT, ap_negO, ap_binI, ap_catL, ap_tM1, ap_repTI, ap_popN, ap_par3, ap_catTT, ap_repTA, ap_countT, ap_notInT, ap_repL1, ap_cm, ap_shl, ap_shr, ap_mask, ap_comb, ap_bits, ap_rng3, List.set_cons_zero, List.set_cons_succ, List.getElem?_cons_zero, List.getElem?_cons_succ, List.cons_append, List.nil_append, List.append_nil, Option.some.injEq, V.int.injEq, V.ref.injEq, V.bl.injEq, V.str.injEq, V.ty.injEq, Bool.not_true, Bool.not_false, HO.lst.injEq, HO.tup.injEq, reduceCtorEq, Int.reduceToNat, Int.reduceLT, Int.reduceLE, Nat.reduceAdd, Int.cast_ofNat_Int, gi_c0, gi_c1, gi_c2, gi_c3, Int.natCast_inj, map_int_inj, map_nil_iff, List.cons.injEq, exists_eq_left, exists_eq_left', exists_eq, exists_eq', exists_and_left, exists_and_right, exists_const, and_assoc, and_true, true_and, and_false, false_and, or_false, false_or, or_true, true_or, ite_true, ite_false, if_true, if_false, Bool.false_eq_true, own_cons, own_nil, le1, le2, le3, le4, me_cons, me_nil, List.length_map, List.length_cons, List.length_nil, ne_eq, not_false_eq_true, not_true_eq_false, decide_eq_true_eq]
      refine ⟨a, ns, i, by rw [Int.zero_add], sm.seq hS, by omega, fun H2 p s2 np D2 => ?_⟩
      simp only [ap_seq, ap_next, ap_asg, ap_gName, ap_ret, ap_retN, ap_drop, ap_ifS, ap_break, ap_cont, ap_par, ap_aug, ap_ip, ap_gSub, ap_gTup, ap_gNil, ap_gCons, ap_var, ap_c, ap_op, ap_un, ap_if, ap_test, ap_B, ap_and, ap_or, ap_not, ap_andV, ap_orV, ap_notV, ap_nil, ap_cons, ap_tup, ap_lst, ap_cb, ap_bm, ap_call, ap_chain, ap_rI, ap_rI0, ap_rU, ap_rEq, ap_rNe, ap_revT, ap_sl, ap_part, ap_noPart, ap_ixLI, ap_ixTI, ap_ixLV, ap_ixTV, ap_len, ap_setLI, ap_setLV, ap_appI, ap_appV, ap_tupL, ap_listS, ap_sumLI, ap_sumTI, ap_repLI, ap_intI, ap_intB, ap_eqTI, ap_neTI, ap_eqLI, ap_neLI, ap_isi, ap_for, ap_rng1, ap_rng2, ap_iList, ap_iTup, ap_lc, ap_yes, ap_cut, ap_gTupH, ap_fmt, ap_jsn, ap_jsc, ap_gcd, ap_isqrt, ap_ixL, tyV_l, wipe_nil, wipe_cons, upd_same, ap_iEnT, ap_iEnL, ap_iZipA, ap_all, ap_tupT, ap_attF, ap_makeL, ap_att, ap_prop, ap_isO, ap_bin, ap_ne, ap_meth, ap_make, ins_inj, FE_inj, ap_slI, ap_catI, ap_perm, ap_lenO, ap_strO, ap_listO, ap_reprB, ap_iterT, ap_neT, ap_negO, ap_binI, ap_catL, ap_tM1, ap_repTI, ap_popN, ap_par3, ap_catTT, ap_repTA, ap_countT, ap_notInT, ap_repL1, ap_cm, ap_shl, ap_shr, ap_mask, ap_comb, ap_bits, ap_rng3, List.set_cons_zero, List.set_cons_succ, List.getElem?_cons_zero, List.getElem?_cons_succ, List.cons_append, List.nil_append, List.append_nil, Option.some.injEq, V.int.injEq, V.ref.injEq, V.bl.injEq, V.str.injEq, V.ty.injEq, Bool.not_true, Bool.not_false, HO.lst.injEq, HO.tup.injEq, reduceCtorEq, Int.reduceToNat, Int.reduceLT, Int.reduceLE, Nat.reduceAdd, Int.cast_ofNat_Int, gi_c0, gi_c1, gi_c2, gi_c3, Int.natCast_inj, map_int_inj, map_nil_iff, List.cons.injEq, exists_eq_left, exists_eq_left', exists_eq, exists_eq', exists_and_left, exists_and_right, exists_const, and_assoc, and_true, true_and, and_false, false_and, or_false, false_or, or_true, true_or, ite_true, ite_false, if_true, if_false, Bool.false_eq_true, own_cons, own_nil, le1, le2, le3, le4, me_cons, me_nil, List.length_map, List.length_cons, List.length_nil, ne_eq, not_false_eq_true, not_true_eq_false, decide_eq_true_eq]
      refine ⟨p, rfl, D2, fun H3 x3 D3 => ?_⟩
      simp only [ap_seq, ap_next, ap_asg, ap_gName, ap_ret, ap_retN, ap_drop, ap_ifS, ap_break, ap_cont, ap_par, ap_aug, ap_ip, ap_gSub, ap_gTup, ap_gNil, ap_gCons, ap_var, ap_c, ap_op, ap_un, ap_if, ap_test, ap_B, ap_and, ap_or, ap_not, ap_andV, ap_orV, ap_notV, ap_nil, ap_cons, ap_tup, ap_lst, ap_cb, ap_bm, ap_call, ap_chain, ap_rI, ap_rI0, ap_rU, ap_rEq, ap_rNe, ap_revT, ap_sl, ap_part, ap_noPart, ap_ixLI, ap_ixTI, ap_ixLV, ap_ixTV, ap_len, ap_setLI, ap_setLV, ap_appI, ap_appV, ap_tupL, ap_listS, ap_sumLI, ap_sumTI, ap_repLI, ap_intI, ap_intB, ap_eqTI, ap_neTI, ap_eqLI, ap_neLI, ap_isi, ap_for, ap_rng1, ap_rng2, ap_iList, ap_iTup, ap_lc, ap_yes, ap_cut, ap_gTupH, ap_fmt, ap_jsn, ap_jsc, ap_gcd, ap_isqrt, ap_ixL, tyV_l, wipe_nil, wipe_cons, upd_same, ap_iEnT, ap_iEnL, ap_iZipA, ap_all, ap_tupT, ap_attF, ap_makeL, ap_att, ap_prop, ap_isO, ap_bin, ap_ne, ap_meth, ap_make, ins_inj, FE_inj, ap_slI, ap_catI, ap_perm, ap_lenO, ap_strO, ap_listO, ap_reprB, ap_iterT, ap_neT, ap_negO, ap_binI, ap_catL, ap_tM1, ap_repTI, ap_popN, ap_par3, ap_catTT, ap_repTA, ap_countT, ap_notInT, ap_repL1, ap_cm, ap_shl, ap_shr, ap_mask, ap_comb, ap_bits, ap_rng3, List.set_cons_zero, List.set_cons_succ, List.getElem?_cons_zero, List.getElem?_cons_succ, List.cons_append, List.nil_append, List.append_nil, Option.some.injEq, V.int.injEq, V.ref.injEq, V.bl.injEq, V.str.injEq, V.ty.injEq, Bool.not_true, Bool.not_false, HO.lst.injEq, HO.tup.injEq, reduceCtorEq, Int.reduceToNat, Int.reduceLT, Int.reduceLE, Nat.reduceAdd, Int.cast_ofNat_Int, gi_c0, gi_c1, gi_c2, gi_c3, Int.natCast_inj, map_int_inj, map_nil_iff, List.cons.injEq, exists_eq_left, exists_eq_left', exists_eq, exists_eq', exists_and_left, exists_and_right, exists_const, and_assoc, and_true, true_and, and_false, false_and, or_false, false_or, or_true, true_or, ite_true, ite_false, if_true, if_false, Bool.false_eq_true, own_cons, own_nil, le1, le2, le3, le4, me_cons, me_nil, List.length_map, List.length_cons, List.length_nil, ne_eq, not_false_eq_true, not_true_eq_false, decide_eq_true_eq]
      refine ⟨p, rfl, D3, fun H4 x4 D4 => ?_⟩
      simp only [ap_seq, ap_next, ap_asg, ap_gName, ap_ret, ap_retN, ap_drop, ap_ifS, ap_break, ap_cont, ap_par, ap_aug, ap_ip, ap_gSub, ap_gTup, ap_gNil, ap_gCons, ap_var, ap_c, ap_op, ap_un, ap_if, ap_test, ap_B, ap_and, ap_or, ap_not, ap_andV, ap_orV, ap_notV, ap_nil, ap_cons, ap_tup, ap_lst, ap_cb, ap_bm, ap_call, ap_chain, ap_rI, ap_rI0, ap_rU, ap_rEq, ap_rNe, ap_revT, ap_sl, ap_part, ap_noPart, ap_ixLI, ap_ixTI, ap_ixLV, ap_ixTV, ap_len, ap_setLI, ap_setLV, ap_appI, ap_appV, ap_tupL, ap_listS, ap_sumLI, ap_sumTI, ap_repLI, ap_intI, ap_intB, ap_eqTI, ap_neTI, ap_eqLI, ap_neLI, ap_isi, ap_for, ap_rng1, ap_rng2, ap_iList, ap_iTup, ap_lc, ap_yes, ap_cut, ap_gTupH, ap_fmt, ap_jsn, ap_jsc, ap_gcd, ap_isqrt, ap_ixL, tyV_l, wipe_nil, wipe_cons, upd_same, ap_iEnT, ap_iEnL, ap_iZipA, ap_all, ap_tupT, ap_attF, ap_makeL, ap_att, ap_prop, ap_isO, ap_bin, ap_ne, ap_meth, ap_make, ins_inj, FE_inj, ap_slI, ap_catI, ap_perm, ap_lenO, ap_strO, ap_listO, ap_reprB, ap_iterT, ap_neT, ap_negO, ap_binI, ap_catL, ap_tM1, ap_repTI, ap_popN, ap_par3, ap_catTT, ap_repTA, ap_countT, ap_notInT, ap_repL1, ap_cm, ap_shl, ap_shr, ap_mask, ap_comb, ap_bits, ap_rng3, List.set_cons_zero, List.set_cons_succ, List.getElem?_cons_zero, List.getElem?_cons_succ, List.cons_append, List.nil_append, List.append_nil, Option.some.injEq, V.int.injEq, V.ref.injEq, V.bl.injEq, V.str.injEq, V.ty.injEq, Bool.not_true, Bool.not_false, HO.lst.injEq, HO.tup.injEq, reduceCtorEq, Int.reduceToNat, Int.reduceLT, Int.reduceLE, Nat.reduceAdd, Int.cast_ofNat_Int, gi_c0, gi_c1, gi_c2, gi_c3, Int.natCast_inj, map_int_inj, map_nil_iff, List.cons.injEq, exists_eq_left, exists_eq_left', exists_eq, exists_eq', exists_and_left, exists_and_right, exists_const, and_assoc, and_true, true_and, and_false, false_and, or_false, false_or, or_true, true_or, ite_true, ite_false, if_true, if_false, Bool.false_eq_true, own_cons, own_nil, le1, le2, le3, le4, me_cons, me_nil, List.length_map, List.length_cons, List.length_nil, ne_eq, not_false_eq_true, not_true_eq_false, decide_eq_true_eq]
      exact fun b o hb => x4 b o (ne_of_none hb (sm.free np)) (x3 b o (ne_of_none hb (sm.free np)) (s2 _ _ (sm _ _ hb)))
    · obtain ⟨sm, y1, y2, e⟩ := hP
      subst e
      simp only [ap_seq, ap_next, ap_asg, ap_gName, ap_ret, ap_retN, ap_drop, ap_ifS, ap_break, ap_cont, ap_par, ap_aug, ap_ip, ap_gSub, ap_gTup, ap_gNil, ap_gCons, ap_var, ap_c, ap_op, ap_un, ap_if, ap_test, ap_B, ap_and, ap_or, ap_not, ap_andV, ap_orV, ap_notV, ap_nil, ap_cons, ap_tup, ap_lst, ap_cb, ap_bm, ap_call, ap_chain, ap_rI, ap_rI0, ap_rU, ap_rEq, ap_rNe, ap_revT, ap_sl, ap_part, ap_noPart, ap_ixLI, ap_ixTI, ap_ixLV, ap_ixTV, ap_len, ap_setLI, ap_setLV, ap_appI, ap_appV, ap_tupL, ap_listS, ap_sumLI, ap_sumTI, ap_repLI, ap_intI, ap_intB, ap_eqTI, ap_neTI, ap_eqLI, ap_neLI, ap_isi, ap_for, ap_rng1, ap_rng2, ap_iList, ap_iTup, ap_lc, ap_yes, ap_cut, ap_gTupH, ap_fmt, ap_jsn, ap_jsc, ap_gcd, ap_isqrt, ap_ixL, tyV_l, wipe_nil, wipe_cons, upd_same, ap_iEnT, ap_iEnL, ap_iZipA, ap_all, ap_tupT, ap_attF, ap_makeL, ap_att, ap_prop, ap_isO, ap_bin, ap_ne, ap_meth, ap_make, ins_inj, FE_inj, ap_slI, ap_catI, ap_perm, ap_lenO, ap_strO, ap_listO, ap_reprB, ap_iterT, ap_neT, ap_negO, ap_binI, ap_catL, ap_tM1, ap_repTI, ap_popN, ap_par3, ap_catTT, ap_repTA, ap_countT, ap_notInT, ap_repL1, ap_cm, ap_shl, ap_shr, ap_mask, ap_comb, ap_bits, ap_rng3, List.set_cons_zero, List.set_cons_succ, List.getElem?_cons_zero, List.getElem?_cons_succ, List.cons_append, List.nil_append, List.append_nil, Option.some.injEq, V.int.injEq, V.ref.injEq, V.bl.injEq, V.str.injEq, V.ty.injEq, Bool.not_true, Bool.not_false, HO.lst.injEq, HO.tup.injEq, reduceCtorEq, Int.reduceToNat, Int.reduceLT, Int.reduceLE, Nat.reduceAdd, Int.cast_ofNat_Int, gi_c0, gi_c1, gi_c2, gi_c3, Int.natCast_inj, map_int_inj, map_nil_iff, List.cons.injEq, exists_eq_left, exists_eq_left', exists_eq, exists_eq', exists_and_left, exists_and_right, exists_const, and_assoc, and_true, true_and, and_false, false_and, or_false, false_or, or_true, true_or, ite_true, ite_false, if_true, if_false, Bool.false_eq_true, own_cons, own_nil, le1, le2, le3, le4, me_cons, me_nil, List.length_map, List.length_cons, List.length_nil, ne_eq, not_false_eq_true, not_true_eq_false, decide_eq_true_eq]
      have nl : ∀ {p : Int} {t : Addr}, (PFe p t).lookup (Str.ofString "laid") = none := fun {p t} => PF_no (by decide +kernel) (by decide +kernel)
      have sm1 : ∀ n ∈ ([1, 0, -3, 1] : List Int), Sm n := sm_small (by decide)
      refine ⟨by decide, fun u1 nu1 => new_ok (es := [1, 0, -3, 1]) upd_same ⟨by decide, by decide, sm1⟩ fun a1 d1 G1 s1 na1 ha1 => ?_⟩
      have t1 := s1 _ _ (upd_same (o := TI [1, 0, -3, 1]) (H := H1) (a := u1))
      refine ⟨a1, d1, u1, 17, [1, 0, -3, 1], rfl, ha1, t1, by decide, by decide, by decide, fun n hn => (sm1 n hn).wd, fun G2 F s2 nF hF => ?_⟩
      have e1 : md 17 [1, 0, -3, 1] = [1, 0, 14, 1] := by decide +kernel
      rw [e1] at hF
      have m1 : md 17 [1, 0, 14, 1] = [1, 0, 14, 1] := by decide +kernel
      obtain ⟨f1, f2, f3, f4⟩ := id hF
      have e2 : md 17 (layP [1, 0, 14, 1] [1, 0, 14, 1] 2) = [13, 4, 13] := by decide +kernel
      have e3 : md 17 (layP [1, 0, 14, 1] [1, 0, 14, 1] 1) = [0, 0, 0, 0, 0] := by decide +kernel
      have e4 : layP [1, 0, 14, 1] [1, 0, 14, 1] 0 = mulP [1, 0, 14, 1] [1, 0, 14, 1] := rfl
      refine ⟨F, rfl, f1, _, f3, nl, F, F, 17, _, _, 2, rfl, hF, hF, by decide, by decide, by decide, by decide, by decide, by decide, m1, m1, fun G3 B s3 nB hB => ?_⟩
      rw [e2] at hB
      obtain ⟨b1, b2, b3, b4⟩ := id hB
      refine ⟨B, rfl, ⟨_, _, b3⟩, B, b1, b2, 17, rfl, b3, by decide, fun u2 nu2 => ⟨b2, rfl, _, same_upd nu2 _ _ b4, ?_⟩⟩
      rw [if_neg (by simp)]
      have z2 := same_upd (o := TI [13, 4, 13]) nu2
      have hF3 := (hF.same s3).same z2
      obtain ⟨f5, f6, f7, f8⟩ := id hF3
      refine ⟨F, rfl, f5, _, f7, nl, F, F, 17, _, _, 1, rfl, hF3, hF3, by decide, by decide, by decide, by decide, by decide, by decide, m1, m1, fun G4 L s4 nL hL => ?_⟩
      rw [e3] at hL
      obtain ⟨l1, l2, l3, l4⟩ := id hL
      refine ⟨L, rfl, ⟨_, _, l3⟩, L, 17, _, rfl, hL, fun G5 s5 => ?_⟩
      have lz : leadV [0, 0, 0, 0, 0] = .non := by decide +kernel
      refine ⟨_, rfl, ?_⟩
      rw [lz, decide_eq_true rfl, if_neg (by simp)]
      have hF5 := (hF3.same s4).same s5
      obtain ⟨f9, f10, f11, f12⟩ := id hF5
      refine ⟨F, rfl, f9, _, f11, nl, F, F, 17, _, _, 0, rfl, hF5, hF5, by decide, by decide, by decide, by decide, by decide, by decide, m1, m1, fun G6 M s6 nM hM => ?_⟩
      rw [e4] at hM
      have hF6 := hF5.same s6
      obtain ⟨f13, f14, f15, f16⟩ := id hF6
      refine ⟨F, rfl, f13, _, F, rfl, f15, ⟨_, _, f15⟩, F, F, 17, _, _, rfl, hF6, hF6, by decide, by decide, by decide, by decide, m1, m1, fun G7 N s7 nN hN => ?_⟩
      have hM7 := hM.same s7
      obtain ⟨n5, n6, n7, n8⟩ := id hM7
      obtain ⟨n9, n10, n11, n12⟩ := id hN
      refine ⟨M, rfl, n5, _, N, rfl, n7, ⟨_, _, n11⟩, M, N, 17, 17, _, _, rfl, hM7, hN, by decide +kernel, by decide +kernel, true, by rw [decide_eq_true ⟨rfl, rfl⟩], ?_⟩
      rw [if_neg (by simp)]
      have sm13 : ∀ n ∈ (List.replicate 13 1 : List Int), Sm n := sm_small (by decide)
      refine ⟨by decide, fun k0 nk0 k1 K1 sK1 hk1 => newP_ok (es := List.replicate 13 1) hk1 (by decide) ⟨by decide, by decide, sm13⟩ fun c1 K2 sK2 nc1 hc1 => ?_⟩
      have m13 : md 101 (List.replicate 13 1) = List.replicate 13 1 := by decide +kernel
      rw [m13] at hc1
      obtain ⟨g1, g2, g3, g4⟩ := id hc1
      have ll : ∀ k, k < 13 → (md 101 (layP (List.replicate 13 1) (List.replicate 13 1) k)).length = 25 - 2 * k := fun k hk => by
        rw [md_len, layP_len k _ _ (by rw [List.length_replicate]; exact hk) (by rw [List.length_replicate]; exact hk), List.length_replicate]
      refine ⟨c1, rfl, g1, _, g3, nl, c1, c1, 101, _, _, 12, rfl, hc1, hc1, by decide, by decide, by decide, by decide, by decide, by decide, m13, m13, fun K3 c2 sK3 nc2 hc2 => ?_⟩
      have l12 := ll 12 (by decide)
      obtain ⟨g5, g6, g7, g8⟩ := id hc2
      have d0 : (((md 101 (layP (List.replicate 13 1) (List.replicate 13 1) 12)).length : Nat) : Int) - 1 = 0 := by rw [l12]; rfl
      refine ⟨c2, rfl, ⟨_, _, g7⟩, c2, g5, g6, 101, _, rfl, g7, g8, rfl, ?_⟩
      rw [d0, if_pos rfl]
      have hc13 := hc1.same sK3
      obtain ⟨g9, g10, g11, g12⟩ := id hc13
      refine ⟨c1, rfl, g9, _, g11, nl, c1, c1, 101, _, _, 6, rfl, hc13, hc13, by decide, by decide, by decide, by decide, by decide, by decide, m13, m13, fun K4 c3 sK4 nc3 hc3 => ?_⟩
      have l6 := ll 6 (by decide)
      obtain ⟨g13, g14, g15, g16⟩ := id hc3
      have d1' : (((md 101 (layP (List.replicate 13 1) (List.replicate 13 1) 6)).length : Nat) : Int) - 1 = 12 := by rw [l6]; rfl
      refine ⟨c3, rfl, ⟨_, _, g15⟩, c3, g13, g14, 101, _, rfl, g15, g16, rfl, ?_⟩
      rw [d1', decide_eq_true rfl]
      exact q _
end
end My
namespace My
open PySem PySem.Spec PyProof.Rows L2 Pr
theorem us1 {α : Type} {us : List α} (hl : us.length = 1) : ∃ a0, us = [a0] := by
  match us, hl with
  | [a0], _ => exact ⟨a0, rfl⟩
theorem us2 {α : Type} {us : List α} (hl : us.length = 2) : ∃ a0 a1, us = [a0, a1] := by
  match us, hl with
  | [a0, a1], _ => exact ⟨a0, a1, rfl⟩
theorem us3 {α : Type} {us : List α} (hl : us.length = 3) : ∃ a0 a1 a2, us = [a0, a1, a2] := by
  match us, hl with
  | [a0, a1, a2], _ => exact ⟨a0, a1, a2, rfl⟩
theorem us4 {α : Type} {us : List α} (hl : us.length = 4) : ∃ a0 a1 a2 a3, us = [a0, a1, a2, a3] := by
  match us, hl with
  | [a0, a1, a2, a3], _ => exact ⟨a0, a1, a2, a3, rfl⟩
theorem all_mk {l : PySem.W.OpenLaw} {w : World} {K : PySem.W.Frag} {h : Heap} {mg : Str → Option Value} {fa : Addr} (X : K.In h) (G : h.Ns mainGlobals mg) (hfa : mg "law" = some (.ref fa))
    {C_Form : Addr}
    {C_PrimeForm : Addr}
    {f0 : Addr} {od0 an0 : Option Addr} {sl0 : Array (Option Value)} {oc0 kV0 dc0 pm0 cd0 ct0 : Value}
    (a0 : PySem.W.nsIn K mainGlobals "_wall" = some (some (.ref f0)))
    (l0 : K.lookup f0 = some ⟨oc0, od0, .func (PySem.W.fnOf "_wall" "_wall" (defArgs s_wall) (defBody s_wall) (defScope s_wall) .none kV0 dc0 pm0 an0 cd0 ct0), sl0⟩) (c0 : PySem.W.codeIn K cd0 "_wall" = true) (k0 : PySem.W.keepIn K (.ref f0) = true)
    {f1 : Addr} {od1 an1 : Option Addr} {sl1 : Array (Option Value)} {oc1 kV1 dc1 pm1 cd1 ct1 : Value}
    (a1 : PySem.W.nsIn K mainGlobals "is_integer" = some (some (.ref f1)))
    (l1 : K.lookup f1 = some ⟨oc1, od1, .func (PySem.W.fnOf "is_integer" "is_integer" (defArgs s_is_integer) (defBody s_is_integer) (defScope s_is_integer) .none kV1 dc1 pm1 an1 cd1 ct1), sl1⟩) (c1 : PySem.W.codeIn K cd1 "is_integer" = true) (k1 : PySem.W.keepIn K (.ref f1) = true)
    {f2 : Addr} {od2 an2 : Option Addr} {sl2 : Array (Option Value)} {oc2 kV2 dc2 pm2 cd2 ct2 : Value}
    (a2 : PySem.W.nsIn K mainGlobals "is_within" = some (some (.ref f2)))
    (l2 : K.lookup f2 = some ⟨oc2, od2, .func (PySem.W.fnOf "is_within" "is_within" (defArgs s_is_within) (defBody s_is_within) (defScope s_is_within) .none kV2 dc2 pm2 an2 cd2 ct2), sl2⟩) (c2 : PySem.W.codeIn K cd2 "is_within" = true) (k2 : PySem.W.keepIn K (.ref f2) = true)
    {f3 : Addr} {od3 an3 : Option Addr} {sl3 : Array (Option Value)} {oc3 kV3 dc3 pm3 cd3 ct3 : Value}
    (a3 : PySem.W.nsIn K mainGlobals "need_number" = some (some (.ref f3)))
    (l3 : K.lookup f3 = some ⟨oc3, od3, .func (PySem.W.fnOf "need_number" "need_number" (defArgs s_need_number) (defBody s_need_number) (defScope s_need_number) .none kV3 dc3 pm3 an3 cd3 ct3), sl3⟩) (c3 : PySem.W.codeIn K cd3 "need_number" = true) (k3 : PySem.W.keepIn K (.ref f3) = true)
    {f4 : Addr} {od4 an4 : Option Addr} {sl4 : Array (Option Value)} {oc4 kV4 dc4 pm4 cd4 ct4 : Value}
    (a4 : PySem.W.nsIn K mainGlobals "is_row" = some (some (.ref f4)))
    (l4 : K.lookup f4 = some ⟨oc4, od4, .func (PySem.W.fnOf "is_row" "is_row" (defArgs s_is_row) (defBody s_is_row) (defScope s_is_row) .none kV4 dc4 pm4 an4 cd4 ct4), sl4⟩) (c4 : PySem.W.codeIn K cd4 "is_row" = true) (k4 : PySem.W.keepIn K (.ref f4) = true)
    {f5 : Addr} {od5 an5 : Option Addr} {sl5 : Array (Option Value)} {oc5 kV5 dc5 pm5 cd5 ct5 : Value}
    (a5 : PySem.W.nsIn K mainGlobals "is_pair" = some (some (.ref f5)))
    (l5 : K.lookup f5 = some ⟨oc5, od5, .func (PySem.W.fnOf "is_pair" "is_pair" (defArgs s_is_pair) (defBody s_is_pair) (defScope s_is_pair) .none kV5 dc5 pm5 an5 cd5 ct5), sl5⟩) (c5 : PySem.W.codeIn K cd5 "is_pair" = true) (k5 : PySem.W.keepIn K (.ref f5) = true)
    {f6 : Addr} {od6 an6 : Option Addr} {sl6 : Array (Option Value)} {oc6 kV6 dc6 pm6 cd6 ct6 : Value}
    (a6 : PySem.W.nsIn K mainGlobals "is_change" = some (some (.ref f6)))
    (l6 : K.lookup f6 = some ⟨oc6, od6, .func (PySem.W.fnOf "is_change" "is_change" (defArgs s_is_change) (defBody s_is_change) (defScope s_is_change) .none kV6 dc6 pm6 an6 cd6 ct6), sl6⟩) (c6 : PySem.W.codeIn K cd6 "is_change" = true) (k6 : PySem.W.keepIn K (.ref f6) = true)
    {f7 : Addr} {od7 an7 : Option Addr} {sl7 : Array (Option Value)} {oc7 kV7 dc7 pm7 cd7 ct7 : Value}
    (a7 : PySem.W.nsIn K mainGlobals "lead_of" = some (some (.ref f7)))
    (l7 : K.lookup f7 = some ⟨oc7, od7, .func (PySem.W.fnOf "lead_of" "lead_of" (defArgs s_lead_of) (defBody s_lead_of) (defScope s_lead_of) .none kV7 dc7 pm7 an7 cd7 ct7), sl7⟩) (c7 : PySem.W.codeIn K cd7 "lead_of" = true) (k7 : PySem.W.keepIn K (.ref f7) = true)
    {f8 : Addr} {od8 an8 : Option Addr} {sl8 : Array (Option Value)} {oc8 kV8 dc8 pm8 cd8 ct8 : Value}
    (a8 : PySem.W.nsIn K mainGlobals "powers_of" = some (some (.ref f8)))
    (l8 : K.lookup f8 = some ⟨oc8, od8, .func (PySem.W.fnOf "powers_of" "powers_of" (defArgs s_powers_of) (defBody s_powers_of) (defScope s_powers_of) .none kV8 dc8 pm8 an8 cd8 ct8), sl8⟩) (c8 : PySem.W.codeIn K cd8 "powers_of" = true) (k8 : PySem.W.keepIn K (.ref f8) = true)
    {f9 : Addr} {od9 an9 : Option Addr} {sl9 : Array (Option Value)} {oc9 kV9 dc9 pm9 cd9 ct9 : Value}
    (a9 : PySem.W.nsIn K mainGlobals "need_form" = some (some (.ref f9)))
    (l9 : K.lookup f9 = some ⟨oc9, od9, .func (PySem.W.fnOf "need_form" "need_form" (defArgs s_need_form) (defBody s_need_form) (defScope s_need_form) .none kV9 dc9 pm9 an9 cd9 ct9), sl9⟩) (c9 : PySem.W.codeIn K cd9 "need_form" = true) (k9 : PySem.W.keepIn K (.ref f9) = true)
    {f10 : Addr} {od10 an10 : Option Addr} {sl10 : Array (Option Value)} {oc10 kV10 dc10 pm10 cd10 ct10 : Value}
    (a10 : PySem.W.nsIn K mainGlobals "product_row" = some (some (.ref f10)))
    (l10 : K.lookup f10 = some ⟨oc10, od10, .func (PySem.W.fnOf "product_row" "product_row" (defArgs s_product_row) (defBody s_product_row) (defScope s_product_row) .none kV10 dc10 pm10 an10 cd10 ct10), sl10⟩) (c10 : PySem.W.codeIn K cd10 "product_row" = true) (k10 : PySem.W.keepIn K (.ref f10) = true)
    {f11 : Addr} {od11 an11 : Option Addr} {sl11 : Array (Option Value)} {oc11 kV11 dc11 pm11 cd11 ct11 : Value}
    (a11 : PySem.W.nsIn K mainGlobals "sum_row" = some (some (.ref f11)))
    (l11 : K.lookup f11 = some ⟨oc11, od11, .func (PySem.W.fnOf "sum_row" "sum_row" (defArgs s_sum_row) (defBody s_sum_row) (defScope s_sum_row) .none kV11 dc11 pm11 an11 cd11 ct11), sl11⟩) (c11 : PySem.W.codeIn K cd11 "sum_row" = true) (k11 : PySem.W.keepIn K (.ref f11) = true)
    {f12 : Addr} {od12 an12 : Option Addr} {sl12 : Array (Option Value)} {oc12 kV12 dc12 pm12 cd12 ct12 : Value}
    (a12 : PySem.W.nsIn K mainGlobals "multiple_row" = some (some (.ref f12)))
    (l12 : K.lookup f12 = some ⟨oc12, od12, .func (PySem.W.fnOf "multiple_row" "multiple_row" (defArgs s_multiple_row) (defBody s_multiple_row) (defScope s_multiple_row) .none kV12 dc12 pm12 an12 cd12 ct12), sl12⟩) (c12 : PySem.W.codeIn K cd12 "multiple_row" = true) (k12 : PySem.W.keepIn K (.ref f12) = true)
    {f13 : Addr} {od13 an13 : Option Addr} {sl13 : Array (Option Value)} {oc13 kV13 dc13 pm13 cd13 ct13 : Value}
    (a13 : PySem.W.nsIn K mainGlobals "derived_row" = some (some (.ref f13)))
    (l13 : K.lookup f13 = some ⟨oc13, od13, .func (PySem.W.fnOf "derived_row" "derived_row" (defArgs s_derived_row) (defBody s_derived_row) (defScope s_derived_row) .none kV13 dc13 pm13 an13 cd13 ct13), sl13⟩) (c13 : PySem.W.codeIn K cd13 "derived_row" = true) (k13 : PySem.W.keepIn K (.ref f13) = true)
    {f14 : Addr} {od14 an14 : Option Addr} {sl14 : Array (Option Value)} {oc14 kV14 dc14 pm14 cd14 ct14 : Value}
    (a14 : PySem.W.nsIn K mainGlobals "changed_row" = some (some (.ref f14)))
    (l14 : K.lookup f14 = some ⟨oc14, od14, .func (PySem.W.fnOf "changed_row" "changed_row" (defArgs s_changed_row) (defBody s_changed_row) (defScope s_changed_row) .none kV14 dc14 pm14 an14 cd14 ct14), sl14⟩) (c14 : PySem.W.codeIn K cd14 "changed_row" = true) (k14 : PySem.W.keepIn K (.ref f14) = true)
    {f15 : Addr} {od15 an15 : Option Addr} {sl15 : Array (Option Value)} {oc15 kV15 dc15 pm15 cd15 ct15 : Value}
    (a15 : PySem.W.nsIn K mainGlobals "power_row" = some (some (.ref f15)))
    (l15 : K.lookup f15 = some ⟨oc15, od15, .func (PySem.W.fnOf "power_row" "power_row" (defArgs s_power_row) (defBody s_power_row) (defScope s_power_row) .none kV15 dc15 pm15 an15 cd15 ct15), sl15⟩) (c15 : PySem.W.codeIn K cd15 "power_row" = true) (k15 : PySem.W.keepIn K (.ref f15) = true)
    {f16 : Addr} {od16 an16 : Option Addr} {sl16 : Array (Option Value)} {oc16 kV16 dc16 pm16 cd16 ct16 : Value}
    (a16 : PySem.W.nsIn K mainGlobals "row_value" = some (some (.ref f16)))
    (l16 : K.lookup f16 = some ⟨oc16, od16, .func (PySem.W.fnOf "row_value" "row_value" (defArgs s_row_value) (defBody s_row_value) (defScope s_row_value) .none kV16 dc16 pm16 an16 cd16 ct16), sl16⟩) (c16 : PySem.W.codeIn K cd16 "row_value" = true) (k16 : PySem.W.keepIn K (.ref f16) = true)
    {f17 : Addr} {od17 an17 : Option Addr} {sl17 : Array (Option Value)} {oc17 kV17 dc17 pm17 cd17 ct17 : Value}
    (a17 : PySem.W.nsIn K mainGlobals "made_form" = some (some (.ref f17)))
    (l17 : K.lookup f17 = some ⟨oc17, od17, .func (PySem.W.fnOf "made_form" "made_form" (defArgs s_made_form) (defBody s_made_form) (defScope s_made_form) .none kV17 dc17 pm17 an17 cd17 ct17), sl17⟩) (c17 : PySem.W.codeIn K cd17 "made_form" = true) (k17 : PySem.W.keepIn K (.ref f17) = true)
    {f18 : Addr} {od18 an18 : Option Addr} {sl18 : Array (Option Value)} {oc18 kV18 dc18 pm18 cd18 ct18 : Value}
    (a18 : PySem.W.nsIn K mainGlobals "need_one_degree" = some (some (.ref f18)))
    (l18 : K.lookup f18 = some ⟨oc18, od18, .func (PySem.W.fnOf "need_one_degree" "need_one_degree" (defArgs s_need_one_degree) (defBody s_need_one_degree) (defScope s_need_one_degree) .none kV18 dc18 pm18 an18 cd18 ct18), sl18⟩) (c18 : PySem.W.codeIn K cd18 "need_one_degree" = true) (k18 : PySem.W.keepIn K (.ref f18) = true)
    {f19 : Addr} {od19 an19 : Option Addr} {sl19 : Array (Option Value)} {oc19 kV19 dc19 pm19 cd19 ct19 : Value}
    (a19 : PySem.W.nsIn K mainGlobals "laid_row" = some (some (.ref f19)))
    (l19 : K.lookup f19 = some ⟨oc19, od19, .func (PySem.W.fnOf "laid_row" "laid_row" (defArgs s_laid_row) (defBody s_laid_row) (defScope s_laid_row) .none kV19 dc19 pm19 an19 cd19 ct19), sl19⟩) (c19 : PySem.W.codeIn K cd19 "laid_row" = true) (k19 : PySem.W.keepIn K (.ref f19) = true)
    {f20 : Addr} {od20 an20 : Option Addr} {sl20 : Array (Option Value)} {oc20 kV20 dc20 pm20 cd20 ct20 : Value}
    (a20 : PySem.W.nsIn K mainGlobals "laid" = some (some (.ref f20)))
    (l20 : K.lookup f20 = some ⟨oc20, od20, .func (PySem.W.fnOf "laid" "laid" (defArgs s_laid) (defBody s_laid) (defScope s_laid) .none kV20 dc20 pm20 an20 cd20 ct20), sl20⟩) (c20 : PySem.W.codeIn K cd20 "laid" = true) (k20 : PySem.W.keepIn K (.ref f20) = true)
    {f21 : Addr} {od21 an21 : Option Addr} {sl21 : Array (Option Value)} {oc21 kV21 dc21 pm21 cd21 ct21 : Value}
    (a21 : PySem.W.nsIn K mainGlobals "modulo" = some (some (.ref f21)))
    (l21 : K.lookup f21 = some ⟨oc21, od21, .func (PySem.W.fnOf "modulo" "modulo" (defArgs s_modulo) (defBody s_modulo) (defScope s_modulo) .none kV21 dc21 pm21 an21 cd21 ct21), sl21⟩) (c21 : PySem.W.codeIn K cd21 "modulo" = true) (k21 : PySem.W.keepIn K (.ref f21) = true)
    {f22 : Addr} {od22 an22 : Option Addr} {sl22 : Array (Option Value)} {oc22 kV22 dc22 pm22 cd22 ct22 : Value}
    (a22 : PySem.W.nsIn K mainGlobals "need_prime" = some (some (.ref f22)))
    (l22 : K.lookup f22 = some ⟨oc22, od22, .func (PySem.W.fnOf "need_prime" "need_prime" (defArgs s_need_prime) (defBody s_need_prime) (defScope s_need_prime) .none kV22 dc22 pm22 an22 cd22 ct22), sl22⟩) (c22 : PySem.W.codeIn K cd22 "need_prime" = true) (k22 : PySem.W.keepIn K (.ref f22) = true)
    {f23 : Addr} {od23 an23 : Option Addr} {sl23 : Array (Option Value)} {oc23 kV23 dc23 pm23 cd23 ct23 : Value}
    (a23 : PySem.W.nsIn K mainGlobals "determinant_of" = some (some (.ref f23)))
    (l23 : K.lookup f23 = some ⟨oc23, od23, .func (PySem.W.fnOf "determinant_of" "determinant_of" (defArgs s_determinant_of) (defBody s_determinant_of) (defScope s_determinant_of) .none kV23 dc23 pm23 an23 cd23 ct23), sl23⟩) (c23 : PySem.W.codeIn K cd23 "determinant_of" = true) (k23 : PySem.W.keepIn K (.ref f23) = true)
    {f24 : Addr} {od24 an24 : Option Addr} {sl24 : Array (Option Value)} {oc24 kV24 dc24 pm24 cd24 ct24 : Value}
    (a24 : PySem.W.nsIn K mainGlobals "need_prime_table" = some (some (.ref f24)))
    (l24 : K.lookup f24 = some ⟨oc24, od24, .func (PySem.W.fnOf "need_prime_table" "need_prime_table" (defArgs s_need_prime_table) (defBody s_need_prime_table) (defScope s_need_prime_table) .none kV24 dc24 pm24 an24 cd24 ct24), sl24⟩) (c24 : PySem.W.codeIn K cd24 "need_prime_table" = true) (k24 : PySem.W.keepIn K (.ref f24) = true)
    {f25 : Addr} {od25 an25 : Option Addr} {sl25 : Array (Option Value)} {oc25 kV25 dc25 pm25 cd25 ct25 : Value}
    (a25 : PySem.W.nsIn K mainGlobals "value_at" = some (some (.ref f25)))
    (l25 : K.lookup f25 = some ⟨oc25, od25, .func (PySem.W.fnOf "value_at" "value_at" (defArgs s_value_at) (defBody s_value_at) (defScope s_value_at) .none kV25 dc25 pm25 an25 cd25 ct25), sl25⟩) (c25 : PySem.W.codeIn K cd25 "value_at" = true) (k25 : PySem.W.keepIn K (.ref f25) = true)
    {f26 : Addr} {od26 an26 : Option Addr} {sl26 : Array (Option Value)} {oc26 kV26 dc26 pm26 cd26 ct26 : Value}
    (a26 : PySem.W.nsIn K mainGlobals "changed_modulo" = some (some (.ref f26)))
    (l26 : K.lookup f26 = some ⟨oc26, od26, .func (PySem.W.fnOf "changed_modulo" "changed_modulo" (defArgs s_changed_modulo) (defBody s_changed_modulo) (defScope s_changed_modulo) .none kV26 dc26 pm26 an26 cd26 ct26), sl26⟩) (c26 : PySem.W.codeIn K cd26 "changed_modulo" = true) (k26 : PySem.W.keepIn K (.ref f26) = true)
    {f27 : Addr} {od27 an27 : Option Addr} {sl27 : Array (Option Value)} {oc27 kV27 dc27 pm27 cd27 ct27 : Value}
    (a27 : PySem.W.nsIn K mainGlobals "need_like" = some (some (.ref f27)))
    (l27 : K.lookup f27 = some ⟨oc27, od27, .func (PySem.W.fnOf "need_like" "need_like" (defArgs s_need_like) (defBody s_need_like) (defScope s_need_like) .none kV27 dc27 pm27 an27 cd27 ct27), sl27⟩) (c27 : PySem.W.codeIn K cd27 "need_like" = true) (k27 : PySem.W.keepIn K (.ref f27) = true)
    {f28 : Addr} {od28 an28 : Option Addr} {sl28 : Array (Option Value)} {oc28 kV28 dc28 pm28 cd28 ct28 : Value}
    (a28 : PySem.W.nsIn K mainGlobals "_law_dice" = some (some (.ref f28)))
    (l28 : K.lookup f28 = some ⟨oc28, od28, .func (PySem.W.fnOf "_law_dice" "_law_dice" (defArgs s_law_dice) (defBody s_law_dice) (defScope s_law_dice) .none kV28 dc28 pm28 an28 cd28 ct28), sl28⟩) (c28 : PySem.W.codeIn K cd28 "_law_dice" = true) (k28 : PySem.W.keepIn K (.ref f28) = true)
    {f29 : Addr} {od29 an29 : Option Addr} {sl29 : Array (Option Value)} {oc29 kV29 dc29 pm29 cd29 ct29 : Value}
    (a29 : PySem.W.nsIn K mainGlobals "_law_roll" = some (some (.ref f29)))
    (l29 : K.lookup f29 = some ⟨oc29, od29, .func (PySem.W.fnOf "_law_roll" "_law_roll" (defArgs s_law_roll) (defBody s_law_roll) (defScope s_law_roll) .none kV29 dc29 pm29 an29 cd29 ct29), sl29⟩) (c29 : PySem.W.codeIn K cd29 "_law_roll" = true) (k29 : PySem.W.keepIn K (.ref f29) = true)
    {f30 : Addr} {od30 an30 : Option Addr} {sl30 : Array (Option Value)} {oc30 kV30 dc30 pm30 cd30 ct30 : Value}
    (a30 : PySem.W.nsIn K mainGlobals "_law_pick" = some (some (.ref f30)))
    (l30 : K.lookup f30 = some ⟨oc30, od30, .func (PySem.W.fnOf "_law_pick" "_law_pick" (defArgs s_law_pick) (defBody s_law_pick) (defScope s_law_pick) .none kV30 dc30 pm30 an30 cd30 ct30), sl30⟩) (c30 : PySem.W.codeIn K cd30 "_law_pick" = true) (k30 : PySem.W.keepIn K (.ref f30) = true)
    {f31 : Addr} {od31 an31 : Option Addr} {sl31 : Array (Option Value)} {oc31 kV31 dc31 pm31 cd31 ct31 : Value}
    (a31 : PySem.W.nsIn K mainGlobals "_law_near" = some (some (.ref f31)))
    (l31 : K.lookup f31 = some ⟨oc31, od31, .func (PySem.W.fnOf "_law_near" "_law_near" (defArgs s_law_near) (defBody s_law_near) (defScope s_law_near) .none kV31 dc31 pm31 an31 cd31 ct31), sl31⟩) (c31 : PySem.W.codeIn K cd31 "_law_near" = true) (k31 : PySem.W.keepIn K (.ref f31) = true)
    {f32 : Addr} {od32 an32 : Option Addr} {sl32 : Array (Option Value)} {oc32 kV32 dc32 pm32 cd32 ct32 : Value}
    (a32 : PySem.W.nsIn K mainGlobals "_law_gcd" = some (some (.ref f32)))
    (l32 : K.lookup f32 = some ⟨oc32, od32, .func (PySem.W.fnOf "_law_gcd" "_law_gcd" (defArgs s_law_gcd) (defBody s_law_gcd) (defScope s_law_gcd) .none kV32 dc32 pm32 an32 cd32 ct32), sl32⟩) (c32 : PySem.W.codeIn K cd32 "_law_gcd" = true) (k32 : PySem.W.keepIn K (.ref f32) = true)
    {f33 : Addr} {od33 an33 : Option Addr} {sl33 : Array (Option Value)} {oc33 kV33 dc33 pm33 cd33 ct33 : Value}
    (a33 : PySem.W.nsIn K mainGlobals "_law_shared" = some (some (.ref f33)))
    (l33 : K.lookup f33 = some ⟨oc33, od33, .func (PySem.W.fnOf "_law_shared" "_law_shared" (defArgs s_law_shared) (defBody s_law_shared) (defScope s_law_shared) .none kV33 dc33 pm33 an33 cd33 ct33), sl33⟩) (c33 : PySem.W.codeIn K cd33 "_law_shared" = true) (k33 : PySem.W.keepIn K (.ref f33) = true)
    {f34 : Addr} {od34 an34 : Option Addr} {sl34 : Array (Option Value)} {oc34 kV34 dc34 pm34 cd34 ct34 : Value}
    (a34 : PySem.W.nsIn K mainGlobals "_law_raised" = some (some (.ref f34)))
    (l34 : K.lookup f34 = some ⟨oc34, od34, .func (PySem.W.fnOf "_law_raised" "_law_raised" (defArgs s_law_raised) (defBody s_law_raised) (defScope s_law_raised) .none kV34 dc34 pm34 an34 cd34 ct34), sl34⟩) (c34 : PySem.W.codeIn K cd34 "_law_raised" = true) (k34 : PySem.W.keepIn K (.ref f34) = true)
    {f35 : Addr} {od35 an35 : Option Addr} {sl35 : Array (Option Value)} {oc35 kV35 dc35 pm35 cd35 ct35 : Value}
    (a35 : PySem.W.nsIn K mainGlobals "_law_choose" = some (some (.ref f35)))
    (l35 : K.lookup f35 = some ⟨oc35, od35, .func (PySem.W.fnOf "_law_choose" "_law_choose" (defArgs s_law_choose) (defBody s_law_choose) (defScope s_law_choose) .none kV35 dc35 pm35 an35 cd35 ct35), sl35⟩) (c35 : PySem.W.codeIn K cd35 "_law_choose" = true) (k35 : PySem.W.keepIn K (.ref f35) = true)
    {f36 : Addr} {od36 an36 : Option Addr} {sl36 : Array (Option Value)} {oc36 kV36 dc36 pm36 cd36 ct36 : Value}
    (a36 : PySem.W.nsIn K mainGlobals "_law_plus" = some (some (.ref f36)))
    (l36 : K.lookup f36 = some ⟨oc36, od36, .func (PySem.W.fnOf "_law_plus" "_law_plus" (defArgs s_law_plus) (defBody s_law_plus) (defScope s_law_plus) .none kV36 dc36 pm36 an36 cd36 ct36), sl36⟩) (c36 : PySem.W.codeIn K cd36 "_law_plus" = true) (k36 : PySem.W.keepIn K (.ref f36) = true)
    {f37 : Addr} {od37 an37 : Option Addr} {sl37 : Array (Option Value)} {oc37 kV37 dc37 pm37 cd37 ct37 : Value}
    (a37 : PySem.W.nsIn K mainGlobals "_law_scaled" = some (some (.ref f37)))
    (l37 : K.lookup f37 = some ⟨oc37, od37, .func (PySem.W.fnOf "_law_scaled" "_law_scaled" (defArgs s_law_scaled) (defBody s_law_scaled) (defScope s_law_scaled) .none kV37 dc37 pm37 an37 cd37 ct37), sl37⟩) (c37 : PySem.W.codeIn K cd37 "_law_scaled" = true) (k37 : PySem.W.keepIn K (.ref f37) = true)
    {f38 : Addr} {od38 an38 : Option Addr} {sl38 : Array (Option Value)} {oc38 kV38 dc38 pm38 cd38 ct38 : Value}
    (a38 : PySem.W.nsIn K mainGlobals "_law_product" = some (some (.ref f38)))
    (l38 : K.lookup f38 = some ⟨oc38, od38, .func (PySem.W.fnOf "_law_product" "_law_product" (defArgs s_law_product) (defBody s_law_product) (defScope s_law_product) .none kV38 dc38 pm38 an38 cd38 ct38), sl38⟩) (c38 : PySem.W.codeIn K cd38 "_law_product" = true) (k38 : PySem.W.keepIn K (.ref f38) = true)
    {f39 : Addr} {od39 an39 : Option Addr} {sl39 : Array (Option Value)} {oc39 kV39 dc39 pm39 cd39 ct39 : Value}
    (a39 : PySem.W.nsIn K mainGlobals "_law_all_product" = some (some (.ref f39)))
    (l39 : K.lookup f39 = some ⟨oc39, od39, .func (PySem.W.fnOf "_law_all_product" "_law_all_product" (defArgs s_law_all_product) (defBody s_law_all_product) (defScope s_law_all_product) .none kV39 dc39 pm39 an39 cd39 ct39), sl39⟩) (c39 : PySem.W.codeIn K cd39 "_law_all_product" = true) (k39 : PySem.W.keepIn K (.ref f39) = true)
    {f40 : Addr} {od40 an40 : Option Addr} {sl40 : Array (Option Value)} {oc40 kV40 dc40 pm40 cd40 ct40 : Value}
    (a40 : PySem.W.nsIn K mainGlobals "_law_power" = some (some (.ref f40)))
    (l40 : K.lookup f40 = some ⟨oc40, od40, .func (PySem.W.fnOf "_law_power" "_law_power" (defArgs s_law_power) (defBody s_law_power) (defScope s_law_power) .none kV40 dc40 pm40 an40 cd40 ct40), sl40⟩) (c40 : PySem.W.codeIn K cd40 "_law_power" = true) (k40 : PySem.W.keepIn K (.ref f40) = true)
    {f41 : Addr} {od41 an41 : Option Addr} {sl41 : Array (Option Value)} {oc41 kV41 dc41 pm41 cd41 ct41 : Value}
    (a41 : PySem.W.nsIn K mainGlobals "_law_by_x" = some (some (.ref f41)))
    (l41 : K.lookup f41 = some ⟨oc41, od41, .func (PySem.W.fnOf "_law_by_x" "_law_by_x" (defArgs s_law_by_x) (defBody s_law_by_x) (defScope s_law_by_x) .none kV41 dc41 pm41 an41 cd41 ct41), sl41⟩) (c41 : PySem.W.codeIn K cd41 "_law_by_x" = true) (k41 : PySem.W.keepIn K (.ref f41) = true)
    {f42 : Addr} {od42 an42 : Option Addr} {sl42 : Array (Option Value)} {oc42 kV42 dc42 pm42 cd42 ct42 : Value}
    (a42 : PySem.W.nsIn K mainGlobals "_law_by_y" = some (some (.ref f42)))
    (l42 : K.lookup f42 = some ⟨oc42, od42, .func (PySem.W.fnOf "_law_by_y" "_law_by_y" (defArgs s_law_by_y) (defBody s_law_by_y) (defScope s_law_by_y) .none kV42 dc42 pm42 an42 cd42 ct42), sl42⟩) (c42 : PySem.W.codeIn K cd42 "_law_by_y" = true) (k42 : PySem.W.keepIn K (.ref f42) = true)
    {f43 : Addr} {od43 an43 : Option Addr} {sl43 : Array (Option Value)} {oc43 kV43 dc43 pm43 cd43 ct43 : Value}
    (a43 : PySem.W.nsIn K mainGlobals "_law_derived" = some (some (.ref f43)))
    (l43 : K.lookup f43 = some ⟨oc43, od43, .func (PySem.W.fnOf "_law_derived" "_law_derived" (defArgs s_law_derived) (defBody s_law_derived) (defScope s_law_derived) .none kV43 dc43 pm43 an43 cd43 ct43), sl43⟩) (c43 : PySem.W.codeIn K cd43 "_law_derived" = true) (k43 : PySem.W.keepIn K (.ref f43) = true)
    {f44 : Addr} {od44 an44 : Option Addr} {sl44 : Array (Option Value)} {oc44 kV44 dc44 pm44 cd44 ct44 : Value}
    (a44 : PySem.W.nsIn K mainGlobals "_law_laid" = some (some (.ref f44)))
    (l44 : K.lookup f44 = some ⟨oc44, od44, .func (PySem.W.fnOf "_law_laid" "_law_laid" (defArgs s_law_laid) (defBody s_law_laid) (defScope s_law_laid) .none kV44 dc44 pm44 an44 cd44 ct44), sl44⟩) (c44 : PySem.W.codeIn K cd44 "_law_laid" = true) (k44 : PySem.W.keepIn K (.ref f44) = true)
    {f45 : Addr} {od45 an45 : Option Addr} {sl45 : Array (Option Value)} {oc45 kV45 dc45 pm45 cd45 ct45 : Value}
    (a45 : PySem.W.nsIn K mainGlobals "_law_plain" = some (some (.ref f45)))
    (l45 : K.lookup f45 = some ⟨oc45, od45, .func (PySem.W.fnOf "_law_plain" "_law_plain" (defArgs s_law_plain) (defBody s_law_plain) (defScope s_law_plain) .none kV45 dc45 pm45 an45 cd45 ct45), sl45⟩) (c45 : PySem.W.codeIn K cd45 "_law_plain" = true) (k45 : PySem.W.keepIn K (.ref f45) = true)
    {f46 : Addr} {od46 an46 : Option Addr} {sl46 : Array (Option Value)} {oc46 kV46 dc46 pm46 cd46 ct46 : Value}
    (a46 : PySem.W.nsIn K mainGlobals "_law_line" = some (some (.ref f46)))
    (l46 : K.lookup f46 = some ⟨oc46, od46, .func (PySem.W.fnOf "_law_line" "_law_line" (defArgs s_law_line) (defBody s_law_line) (defScope s_law_line) .none kV46 dc46 pm46 an46 cd46 ct46), sl46⟩) (c46 : PySem.W.codeIn K cd46 "_law_line" = true) (k46 : PySem.W.keepIn K (.ref f46) = true)
    {f47 : Addr} {od47 an47 : Option Addr} {sl47 : Array (Option Value)} {oc47 kV47 dc47 pm47 cd47 ct47 : Value}
    (a47 : PySem.W.nsIn K mainGlobals "_law_point" = some (some (.ref f47)))
    (l47 : K.lookup f47 = some ⟨oc47, od47, .func (PySem.W.fnOf "_law_point" "_law_point" (defArgs s_law_point) (defBody s_law_point) (defScope s_law_point) .none kV47 dc47 pm47 an47 cd47 ct47), sl47⟩) (c47 : PySem.W.codeIn K cd47 "_law_point" = true) (k47 : PySem.W.keepIn K (.ref f47) = true)
    {f48 : Addr} {od48 an48 : Option Addr} {sl48 : Array (Option Value)} {oc48 kV48 dc48 pm48 cd48 ct48 : Value}
    (a48 : PySem.W.nsIn K mainGlobals "_law_small_form" = some (some (.ref f48)))
    (l48 : K.lookup f48 = some ⟨oc48, od48, .func (PySem.W.fnOf "_law_small_form" "_law_small_form" (defArgs s_law_small_form) (defBody s_law_small_form) (defScope s_law_small_form) .none kV48 dc48 pm48 an48 cd48 ct48), sl48⟩) (c48 : PySem.W.codeIn K cd48 "_law_small_form" = true) (k48 : PySem.W.keepIn K (.ref f48) = true)
    {f49 : Addr} {od49 an49 : Option Addr} {sl49 : Array (Option Value)} {oc49 kV49 dc49 pm49 cd49 ct49 : Value}
    (a49 : PySem.W.nsIn K mainGlobals "_law_form" = some (some (.ref f49)))
    (l49 : K.lookup f49 = some ⟨oc49, od49, .func (PySem.W.fnOf "_law_form" "_law_form" (defArgs s_law_form) (defBody s_law_form) (defScope s_law_form) .none kV49 dc49 pm49 an49 cd49 ct49), sl49⟩) (c49 : PySem.W.codeIn K cd49 "_law_form" = true) (k49 : PySem.W.keepIn K (.ref f49) = true)
    {f50 : Addr} {od50 an50 : Option Addr} {sl50 : Array (Option Value)} {oc50 kV50 dc50 pm50 cd50 ct50 : Value}
    (a50 : PySem.W.nsIn K mainGlobals "_law_det" = some (some (.ref f50)))
    (l50 : K.lookup f50 = some ⟨oc50, od50, .func (PySem.W.fnOf "_law_det" "_law_det" (defArgs s_law_det) (defBody s_law_det) (defScope s_law_det) .none kV50 dc50 pm50 an50 cd50 ct50), sl50⟩) (c50 : PySem.W.codeIn K cd50 "_law_det" = true) (k50 : PySem.W.keepIn K (.ref f50) = true)
    {f51 : Addr} {od51 an51 : Option Addr} {sl51 : Array (Option Value)} {oc51 kV51 dc51 pm51 cd51 ct51 : Value}
    (a51 : PySem.W.nsIn K mainGlobals "_law_some_prime" = some (some (.ref f51)))
    (l51 : K.lookup f51 = some ⟨oc51, od51, .func (PySem.W.fnOf "_law_some_prime" "_law_some_prime" (defArgs s_law_some_prime) (defBody s_law_some_prime) (defScope s_law_some_prime) .none kV51 dc51 pm51 an51 cd51 ct51), sl51⟩) (c51 : PySem.W.codeIn K cd51 "_law_some_prime" = true) (k51 : PySem.W.keepIn K (.ref f51) = true)
    {f52 : Addr} {od52 an52 : Option Addr} {sl52 : Array (Option Value)} {oc52 kV52 dc52 pm52 cd52 ct52 : Value}
    (a52 : PySem.W.nsIn K mainGlobals "_law_prime_table" = some (some (.ref f52)))
    (l52 : K.lookup f52 = some ⟨oc52, od52, .func (PySem.W.fnOf "_law_prime_table" "_law_prime_table" (defArgs s_law_prime_table) (defBody s_law_prime_table) (defScope s_law_prime_table) .none kV52 dc52 pm52 an52 cd52 ct52), sl52⟩) (c52 : PySem.W.codeIn K cd52 "_law_prime_table" = true) (k52 : PySem.W.keepIn K (.ref f52) = true)
    {f53 : Addr} {od53 an53 : Option Addr} {sl53 : Array (Option Value)} {oc53 kV53 dc53 pm53 cd53 ct53 : Value}
    (a53 : PySem.W.nsIn K mainGlobals "_law_right" = some (some (.ref f53)))
    (l53 : K.lookup f53 = some ⟨oc53, od53, .func (PySem.W.fnOf "_law_right" "_law_right" (defArgs s_law_right) (defBody s_law_right) (defScope s_law_right) .none kV53 dc53 pm53 an53 cd53 ct53), sl53⟩) (c53 : PySem.W.codeIn K cd53 "_law_right" = true) (k53 : PySem.W.keepIn K (.ref f53) = true)
    {f54 : Addr} {od54 an54 : Option Addr} {sl54 : Array (Option Value)} {oc54 kV54 dc54 pm54 cd54 ct54 : Value}
    (a54 : PySem.W.nsIn K mainGlobals "law" = some (some (.ref f54)))
    (l54 : K.lookup f54 = some ⟨oc54, od54, .func (PySem.W.fnOf "law" "law" (defArgs s_law) (defBody s_law) (defScope s_law) .none kV54 dc54 pm54 an54 cd54 ct54), sl54⟩) (c54 : PySem.W.codeIn K cd54 "law" = true) (k54 : PySem.W.keepIn K (.ref f54) = true)
    {f55 : Addr} {od55 an55 : Option Addr} {sl55 : Array (Option Value)} {oc55 kV55 dc55 pm55 cd55 ct55 : Value}
    (a55 : PySem.W.findIn K (.ref C_Form) "__init__" = some (some (.ref f55))) (j55 : PySem.W.isFn K (.ref f55) = true)
    (l55 : K.lookup f55 = some ⟨oc55, od55, .func (PySem.W.fnOf "__init__" "Form.__init__" (defArgs s_Form___init__) (defBody s_Form___init__) (defScope s_Form___init__) .none kV55 dc55 pm55 an55 cd55 ct55), sl55⟩) (c55 : PySem.W.codeIn K cd55 "Form.__init__" = true) (k55 : PySem.W.keepIn K (.ref f55) = true)
    {pa56 : Addr} {rest56 : List Value}
    {f56 : Addr} {od56 an56 : Option Addr} {sl56 : Array (Option Value)} {oc56 kV56 dc56 pm56 cd56 ct56 : Value}
    (a56 : PySem.W.findIn K (.ref C_Form) "entries" = some (some (.ref pa56))) (g56 : PySem.W.specialIn K (.ref pa56) "__get__" = some (some (.builtin "property.__get__"))) (t56 : PySem.W.takesIn K (.ref pa56) = some true) (r56 : PySem.W.recIn K pa56 "property" = some (.ref f56 :: rest56))
    (l56 : K.lookup f56 = some ⟨oc56, od56, .func (PySem.W.fnOf "entries" "Form.entries" (defArgs s_Form_entries) (defBody s_Form_entries) (defScope s_Form_entries) .none kV56 dc56 pm56 an56 cd56 ct56), sl56⟩) (c56 : PySem.W.codeIn K cd56 "Form.entries" = true) (k56 : PySem.W.keepIn K (.ref f56) = true)
    {pa57 : Addr} {rest57 : List Value}
    {f57 : Addr} {od57 an57 : Option Addr} {sl57 : Array (Option Value)} {oc57 kV57 dc57 pm57 cd57 ct57 : Value}
    (a57 : PySem.W.findIn K (.ref C_Form) "degree" = some (some (.ref pa57))) (g57 : PySem.W.specialIn K (.ref pa57) "__get__" = some (some (.builtin "property.__get__"))) (t57 : PySem.W.takesIn K (.ref pa57) = some true) (r57 : PySem.W.recIn K pa57 "property" = some (.ref f57 :: rest57))
    (l57 : K.lookup f57 = some ⟨oc57, od57, .func (PySem.W.fnOf "degree" "Form.degree" (defArgs s_Form_degree) (defBody s_Form_degree) (defScope s_Form_degree) .none kV57 dc57 pm57 an57 cd57 ct57), sl57⟩) (c57 : PySem.W.codeIn K cd57 "Form.degree" = true) (k57 : PySem.W.keepIn K (.ref f57) = true)
    {f58 : Addr} {od58 an58 : Option Addr} {sl58 : Array (Option Value)} {oc58 kV58 dc58 pm58 cd58 ct58 : Value}
    (a58 : PySem.W.findIn K (.ref C_PrimeForm) "__init__" = some (some (.ref f58))) (j58 : PySem.W.isFn K (.ref f58) = true)
    (l58 : K.lookup f58 = some ⟨oc58, od58, .func (PySem.W.fnOf "__init__" "PrimeForm.__init__" (defArgs s_PrimeForm___init__) (defBody s_PrimeForm___init__) (defScope s_PrimeForm___init__) .none kV58 dc58 pm58 an58 cd58 ct58), sl58⟩) (c58 : PySem.W.codeIn K cd58 "PrimeForm.__init__" = true) (k58 : PySem.W.keepIn K (.ref f58) = true)
    {pa59 : Addr} {rest59 : List Value}
    {f59 : Addr} {od59 an59 : Option Addr} {sl59 : Array (Option Value)} {oc59 kV59 dc59 pm59 cd59 ct59 : Value}
    (a59 : PySem.W.findCls K (.ref C_PrimeForm) (.type "type") "of_form" = some (.get (.builtin "classmethod.__get__") (.ref pa59) .none (.ref C_PrimeForm))) (r59 : PySem.W.recIn K pa59 "classmethod" = some (.ref f59 :: rest59)) (j59 : PySem.W.fnIn K f59 = true)
    (l59 : K.lookup f59 = some ⟨oc59, od59, .func (PySem.W.fnOf "of_form" "PrimeForm.of_form" (defArgs s_PrimeForm_of_form) (defBody s_PrimeForm_of_form) (defScope s_PrimeForm_of_form) .none kV59 dc59 pm59 an59 cd59 ct59), sl59⟩) (c59 : PySem.W.codeIn K cd59 "PrimeForm.of_form" = true) (k59 : PySem.W.keepIn K (.ref f59) = true)
    {pa60 : Addr} {rest60 : List Value}
    {f60 : Addr} {od60 an60 : Option Addr} {sl60 : Array (Option Value)} {oc60 kV60 dc60 pm60 cd60 ct60 : Value}
    (a60 : PySem.W.findIn K (.ref C_PrimeForm) "prime" = some (some (.ref pa60))) (g60 : PySem.W.specialIn K (.ref pa60) "__get__" = some (some (.builtin "property.__get__"))) (t60 : PySem.W.takesIn K (.ref pa60) = some true) (r60 : PySem.W.recIn K pa60 "property" = some (.ref f60 :: rest60))
    (l60 : K.lookup f60 = some ⟨oc60, od60, .func (PySem.W.fnOf "prime" "PrimeForm.prime" (defArgs s_PrimeForm_prime) (defBody s_PrimeForm_prime) (defScope s_PrimeForm_prime) .none kV60 dc60 pm60 an60 cd60 ct60), sl60⟩) (c60 : PySem.W.codeIn K cd60 "PrimeForm.prime" = true) (k60 : PySem.W.keepIn K (.ref f60) = true)
    {pa61 : Addr} {rest61 : List Value}
    {f61 : Addr} {od61 an61 : Option Addr} {sl61 : Array (Option Value)} {oc61 kV61 dc61 pm61 cd61 ct61 : Value}
    (a61 : PySem.W.findIn K (.ref C_PrimeForm) "entries" = some (some (.ref pa61))) (g61 : PySem.W.specialIn K (.ref pa61) "__get__" = some (some (.builtin "property.__get__"))) (t61 : PySem.W.takesIn K (.ref pa61) = some true) (r61 : PySem.W.recIn K pa61 "property" = some (.ref f61 :: rest61))
    (l61 : K.lookup f61 = some ⟨oc61, od61, .func (PySem.W.fnOf "entries" "PrimeForm.entries" (defArgs s_PrimeForm_entries) (defBody s_PrimeForm_entries) (defScope s_PrimeForm_entries) .none kV61 dc61 pm61 an61 cd61 ct61), sl61⟩) (c61 : PySem.W.codeIn K cd61 "PrimeForm.entries" = true) (k61 : PySem.W.keepIn K (.ref f61) = true)
    {pa62 : Addr} {rest62 : List Value}
    {f62 : Addr} {od62 an62 : Option Addr} {sl62 : Array (Option Value)} {oc62 kV62 dc62 pm62 cd62 ct62 : Value}
    (a62 : PySem.W.findIn K (.ref C_PrimeForm) "degree" = some (some (.ref pa62))) (g62 : PySem.W.specialIn K (.ref pa62) "__get__" = some (some (.builtin "property.__get__"))) (t62 : PySem.W.takesIn K (.ref pa62) = some true) (r62 : PySem.W.recIn K pa62 "property" = some (.ref f62 :: rest62))
    (l62 : K.lookup f62 = some ⟨oc62, od62, .func (PySem.W.fnOf "degree" "PrimeForm.degree" (defArgs s_PrimeForm_degree) (defBody s_PrimeForm_degree) (defScope s_PrimeForm_degree) .none kV62 dc62 pm62 an62 cd62 ct62), sl62⟩) (c62 : PySem.W.codeIn K cd62 "PrimeForm.degree" = true) (k62 : PySem.W.keepIn K (.ref f62) = true)
    {pa63 : Addr} {rest63 : List Value}
    {f63 : Addr} {od63 an63 : Option Addr} {sl63 : Array (Option Value)} {oc63 kV63 dc63 pm63 cd63 ct63 : Value}
    (a63 : PySem.W.findIn K (.ref C_PrimeForm) "is_zero" = some (some (.ref pa63))) (g63 : PySem.W.specialIn K (.ref pa63) "__get__" = some (some (.builtin "property.__get__"))) (t63 : PySem.W.takesIn K (.ref pa63) = some true) (r63 : PySem.W.recIn K pa63 "property" = some (.ref f63 :: rest63))
    (l63 : K.lookup f63 = some ⟨oc63, od63, .func (PySem.W.fnOf "is_zero" "PrimeForm.is_zero" (defArgs s_PrimeForm_is_zero) (defBody s_PrimeForm_is_zero) (defScope s_PrimeForm_is_zero) .none kV63 dc63 pm63 an63 cd63 ct63), sl63⟩) (c63 : PySem.W.codeIn K cd63 "PrimeForm.is_zero" = true) (k63 : PySem.W.keepIn K (.ref f63) = true)
    {f64 : Addr} {od64 an64 : Option Addr} {sl64 : Array (Option Value)} {oc64 kV64 dc64 pm64 cd64 ct64 : Value}
    (a64 : PySem.W.findIn K (.ref C_PrimeForm) "value" = some (some (.ref f64))) (j64 : PySem.W.isFn K (.ref f64) = true)
    (l64 : K.lookup f64 = some ⟨oc64, od64, .func (PySem.W.fnOf "value" "PrimeForm.value" (defArgs s_PrimeForm_value) (defBody s_PrimeForm_value) (defScope s_PrimeForm_value) .none kV64 dc64 pm64 an64 cd64 ct64), sl64⟩) (c64 : PySem.W.codeIn K cd64 "PrimeForm.value" = true) (k64 : PySem.W.keepIn K (.ref f64) = true)
    {f65 : Addr} {od65 an65 : Option Addr} {sl65 : Array (Option Value)} {oc65 kV65 dc65 pm65 cd65 ct65 : Value}
    (a65 : PySem.W.findIn K (.ref C_PrimeForm) "changed" = some (some (.ref f65))) (j65 : PySem.W.isFn K (.ref f65) = true)
    (l65 : K.lookup f65 = some ⟨oc65, od65, .func (PySem.W.fnOf "changed" "PrimeForm.changed" (defArgs s_PrimeForm_changed) (defBody s_PrimeForm_changed) (defScope s_PrimeForm_changed) .none kV65 dc65 pm65 an65 cd65 ct65), sl65⟩) (c65 : PySem.W.codeIn K cd65 "PrimeForm.changed" = true) (k65 : PySem.W.keepIn K (.ref f65) = true)
    {f66 : Addr} {od66 an66 : Option Addr} {sl66 : Array (Option Value)} {oc66 kV66 dc66 pm66 cd66 ct66 : Value}
    (a66 : PySem.W.findIn K (.ref C_PrimeForm) "laid" = some (some (.ref f66))) (j66 : PySem.W.isFn K (.ref f66) = true)
    (l66 : K.lookup f66 = some ⟨oc66, od66, .func (PySem.W.fnOf "laid" "PrimeForm.laid" (defArgs s_PrimeForm_laid) (defBody s_PrimeForm_laid) (defScope s_PrimeForm_laid) .none kV66 dc66 pm66 an66 cd66 ct66), sl66⟩) (c66 : PySem.W.codeIn K cd66 "PrimeForm.laid" = true) (k66 : PySem.W.keepIn K (.ref f66) = true)
    {f67 : Addr} {od67 an67 : Option Addr} {sl67 : Array (Option Value)} {oc67 kV67 dc67 pm67 cd67 ct67 : Value}
    (a67 : PySem.W.findIn K (.ref C_PrimeForm) "__mul__" = some (some (.ref f67))) (j67 : PySem.W.isFn K (.ref f67) = true)
    (l67 : K.lookup f67 = some ⟨oc67, od67, .func (PySem.W.fnOf "__mul__" "PrimeForm.__mul__" (defArgs s_PrimeForm___mul__) (defBody s_PrimeForm___mul__) (defScope s_PrimeForm___mul__) .none kV67 dc67 pm67 an67 cd67 ct67), sl67⟩) (c67 : PySem.W.codeIn K cd67 "PrimeForm.__mul__" = true) (k67 : PySem.W.keepIn K (.ref f67) = true)
    {f68 : Addr} {od68 an68 : Option Addr} {sl68 : Array (Option Value)} {oc68 kV68 dc68 pm68 cd68 ct68 : Value}
    (a68 : PySem.W.findIn K (.ref C_PrimeForm) "__eq__" = some (some (.ref f68))) (j68 : PySem.W.isFn K (.ref f68) = true)
    (l68 : K.lookup f68 = some ⟨oc68, od68, .func (PySem.W.fnOf "__eq__" "PrimeForm.__eq__" (defArgs s_PrimeForm___eq__) (defBody s_PrimeForm___eq__) (defScope s_PrimeForm___eq__) .none kV68 dc68 pm68 an68 cd68 ct68), sl68⟩) (c68 : PySem.W.codeIn K cd68 "PrimeForm.__eq__" = true) (k68 : PySem.W.keepIn K (.ref f68) = true)
    {f69 : Addr} {od69 an69 : Option Addr} {sl69 : Array (Option Value)} {oc69 kV69 dc69 pm69 cd69 ct69 : Value}
    (a69 : PySem.W.findIn K (.ref C_PrimeForm) "__str__" = some (some (.ref f69))) (j69 : PySem.W.isFn K (.ref f69) = true)
    (l69 : K.lookup f69 = some ⟨oc69, od69, .func (PySem.W.fnOf "__str__" "PrimeForm.__str__" (defArgs s_PrimeForm___str__) (defBody s_PrimeForm___str__) (defScope s_PrimeForm___str__) .none kV69 dc69 pm69 an69 cd69 ct69), sl69⟩) (c69 : PySem.W.codeIn K cd69 "PrimeForm.__str__" = true) (k69 : PySem.W.keepIn K (.ref f69) = true)
    (aC_Form : PySem.W.nsIn K mainGlobals "Form" = some (some (.ref C_Form))) (pg_Form : PySem.W.plainGet K C_Form Str.empty = true) (hd_Form : PySem.W.hasDictIn K C_Form = true) (po_Form : PySem.W.plainOver K C_Form = true) (sa_Form : PySem.W.findIn K (.ref C_Form) "__setattr__" = some (some (.builtin "object.__setattr__")))
    (mk_Form : PySem.W.makesIn K C_Form = true) (kc_Form : PySem.W.keepIn K (.ref C_Form) = true) (sf_Form : PySem.W.selfFirst K C_Form = true) (nf_Form : PySem.W.notFirst K C_Form (.ref C_Form) = true)
    (no_Form_entries : PySem.W.findIn K (.ref C_Form) "_entries" = some none)
    (x_int : PySem.W.subIn K (.type "int") (.ref C_Form) = some false)
    (x_tup : PySem.W.subIn K (.type "tuple") (.ref C_Form) = some false)
    (x_ty : PySem.W.typeIn K (.ref C_Form) = some (.type "type"))
    (x_obj : PySem.W.mroIn K C_Form (.type "object") = some true)
    (x_cls : PySem.W.findIn K (.ref C_Form) "__class__" = some (some (.builtin "object.__class__")))
    (x_get : PySem.W.specialIn K (.builtin "object.__class__") "__get__" = some (some (.builtin "getset_descriptor.__get__")))
    (x_tak : PySem.W.takesIn K (.builtin "object.__class__") = some true)
    (x_rmul : PySem.W.findIn K (.ref C_Form) "__rmul__" = some none)
    (x_imul : PySem.W.findIn K (.type "int") "__mul__" = some (some (.builtin "int.__mul__")))
    (x_irmul : PySem.W.findIn K (.type "int") "__rmul__" = some (some (.builtin "int.__rmul__")))
    (x_ne : PySem.W.findIn K (.ref C_Form) "__ne__" = some (some (.builtin "object.__ne__")))
    (aC_PrimeForm : PySem.W.nsIn K mainGlobals "PrimeForm" = some (some (.ref C_PrimeForm))) (pg_PrimeForm : PySem.W.plainGet K C_PrimeForm Str.empty = true) (hd_PrimeForm : PySem.W.hasDictIn K C_PrimeForm = true) (po_PrimeForm : PySem.W.plainOver K C_PrimeForm = true) (sa_PrimeForm : PySem.W.findIn K (.ref C_PrimeForm) "__setattr__" = some (some (.builtin "object.__setattr__")))
    (mk_PrimeForm : PySem.W.makesIn K C_PrimeForm = true) (kc_PrimeForm : PySem.W.keepIn K (.ref C_PrimeForm) = true) (sf_PrimeForm : PySem.W.selfFirst K C_PrimeForm = true) (nf_PrimeForm : PySem.W.notFirst K C_PrimeForm (.ref C_PrimeForm) = true)
    (no_PrimeForm_prime : PySem.W.findIn K (.ref C_PrimeForm) "_prime" = some none)
    (no_PrimeForm_entries : PySem.W.findIn K (.ref C_PrimeForm) "_entries" = some none)
    (px_int : PySem.W.subIn K (.type "int") (.ref C_PrimeForm) = some false)
    (px_tup : PySem.W.subIn K (.type "tuple") (.ref C_PrimeForm) = some false)
    (px_ty : PySem.W.typeIn K (.ref C_PrimeForm) = some (.type "type"))
    (px_ne : PySem.W.findIn K (.ref C_PrimeForm) "__ne__" = some (some (.builtin "object.__ne__")))
    (px_obj : PySem.W.mroIn K C_PrimeForm (.type "object") = some true)
    (px_nft : PySem.W.notFirst K C_PrimeForm (.type "tuple") = true)
    (px_cls : PySem.W.findIn K (.ref C_PrimeForm) "__class__" = some (some (.builtin "object.__class__")))
    (px_get : PySem.W.specialIn K (.builtin "object.__class__") "__get__" = some (some (.builtin "getset_descriptor.__get__")))
    (px_tak : PySem.W.takesIn K (.builtin "object.__class__") = some true)
    (rd_PrimeForm : PySem.W.readsIn K C_PrimeForm (.type "type") = true) (ga_PrimeForm : PySem.W.specialIn K (.ref C_PrimeForm) "__getattribute__" = some (some (.builtin "type.__getattribute__")))
    (z0 : PySem.W.nsIn K mainGlobals "NotImplemented" = some none)
    (z1 : PySem.W.nsIn K mainGlobals "abs" = some none)
    (z2 : PySem.W.nsIn K mainGlobals "all" = some none)
    (z3 : PySem.W.nsIn K mainGlobals "bool" = some none)
    (z4 : PySem.W.nsIn K mainGlobals "classmethod" = some none)
    (z5 : PySem.W.nsIn K mainGlobals "enumerate" = some none)
    (z6 : PySem.W.nsIn K mainGlobals "int" = some none)
    (z7 : PySem.W.nsIn K mainGlobals "isinstance" = some none)
    (z8 : PySem.W.nsIn K mainGlobals "len" = some none)
    (z9 : PySem.W.nsIn K mainGlobals "max" = some none)
    (z10 : PySem.W.nsIn K mainGlobals "min" = some none)
    (z11 : PySem.W.nsIn K mainGlobals "property" = some none)
    (z12 : PySem.W.nsIn K mainGlobals "range" = some none)
    (z13 : PySem.W.nsIn K mainGlobals "str" = some none)
    (z14 : PySem.W.nsIn K mainGlobals "tuple" = some none)
    (z15 : PySem.W.nsIn K mainGlobals "zip" = some none)
    (i0 : PySem.W.nsIn K mainGlobals "comb" = some (some (.builtin "math.comb")))
    (i1 : PySem.W.nsIn K mainGlobals "perm" = some (some (.builtin "math.perm")))
    {t0 : Tok} (q0 : PySem.W.nsIn K mainGlobals "TOO_LONG" = some (some (.int 1000000000000000000000000000000000000000000000000000000000000 t0)))
    {t1 : Tok} (q1 : PySem.W.nsIn K mainGlobals "MAX_DEGREE" = some (some (.int 40 t1)))
    {t2 : Tok} (q2 : PySem.W.nsIn K mainGlobals "MOST_DEGREE" = some (some (.int 12 t2)))
    {oT0 : Addr} {dT0 : Option Addr} {iT0 : Array Value} {nT0 : Nat} {sT0 : Array (Option Value)} (y0 : PySem.W.nsIn K mainGlobals "PRIMES" = some (some (.ref oT0))) (x0 : K.lookup oT0 = some ⟨.type "tuple", dT0, .seq iT0 nT0, sT0⟩) (w0 : iT0.toList.map intOf = ([13, 17, 19, 23, 29, 31, 37, 41, 43, 47, 53, 59, 61, 67, 71, 73, 79, 83, 89, 97, 101] : List Int).map some)
    : ∃ fd : FuncData, (∀ (s : Shared) (v : Value), BindsTo s fd ⟨[v], []⟩ [("_law_script", v)]) ∧ ∀ base : Heap, K.In base → base.Ns mainGlobals mg → FnOk l.prog w K mg base CX0 28 fa fd ["_law_script"] (sp_law K) := by
  have e := hfa.symm.trans (PySem.W.mg_of X G a54)
  cases e
  have F0 := fun_mk (st := s_wall) l0 c0 k0
  have b0 := F0.binds (ps := p_wall) fun _ _ _ _ _ _ us hl => by obtain ⟨_, rfl⟩ := us1 hl; rfl
  have F1 := fun_mk (st := s_is_integer) l1 c1 k1
  have b1 := F1.binds (ps := p_is_integer) fun _ _ _ _ _ _ us hl => by obtain ⟨_, rfl⟩ := us1 hl; rfl
  have F2 := fun_mk (st := s_is_within) l2 c2 k2
  have b2 := F2.binds (ps := p_is_within) fun _ _ _ _ _ _ us hl => by obtain ⟨_, _, _, rfl⟩ := us3 hl; rfl
  have F3 := fun_mk (st := s_need_number) l3 c3 k3
  have b3 := F3.binds (ps := p_need_number) fun _ _ _ _ _ _ us hl => by obtain ⟨_, _, _, rfl⟩ := us3 hl; rfl
  have F4 := fun_mk (st := s_is_row) l4 c4 k4
  have b4 := F4.binds (ps := p_is_row) fun _ _ _ _ _ _ us hl => by obtain ⟨_, rfl⟩ := us1 hl; rfl
  have F5 := fun_mk (st := s_is_pair) l5 c5 k5
  have b5 := F5.binds (ps := p_is_pair) fun _ _ _ _ _ _ us hl => by obtain ⟨_, rfl⟩ := us1 hl; rfl
  have F6 := fun_mk (st := s_is_change) l6 c6 k6
  have b6 := F6.binds (ps := p_is_change) fun _ _ _ _ _ _ us hl => by obtain ⟨_, rfl⟩ := us1 hl; rfl
  have F7 := fun_mk (st := s_lead_of) l7 c7 k7
  have b7 := F7.binds (ps := p_lead_of) fun _ _ _ _ _ _ us hl => by obtain ⟨_, rfl⟩ := us1 hl; rfl
  have F8 := fun_mk (st := s_powers_of) l8 c8 k8
  have b8 := F8.binds (ps := p_powers_of) fun _ _ _ _ _ _ us hl => by obtain ⟨_, _, rfl⟩ := us2 hl; rfl
  have F9 := fun_mk (st := s_need_form) l9 c9 k9
  have b9 := F9.binds (ps := p_need_form) fun _ _ _ _ _ _ us hl => by obtain ⟨_, rfl⟩ := us1 hl; rfl
  have F10 := fun_mk (st := s_product_row) l10 c10 k10
  have b10 := F10.binds (ps := p_product_row) fun _ _ _ _ _ _ us hl => by obtain ⟨_, _, rfl⟩ := us2 hl; rfl
  have F11 := fun_mk (st := s_sum_row) l11 c11 k11
  have b11 := F11.binds (ps := p_sum_row) fun _ _ _ _ _ _ us hl => by obtain ⟨_, _, rfl⟩ := us2 hl; rfl
  have F12 := fun_mk (st := s_multiple_row) l12 c12 k12
  have b12 := F12.binds (ps := p_multiple_row) fun _ _ _ _ _ _ us hl => by obtain ⟨_, _, rfl⟩ := us2 hl; rfl
  have F13 := fun_mk (st := s_derived_row) l13 c13 k13
  have b13 := F13.binds (ps := p_derived_row) fun _ _ _ _ _ _ us hl => by obtain ⟨_, _, _, rfl⟩ := us3 hl; rfl
  have F14 := fun_mk (st := s_changed_row) l14 c14 k14
  have b14 := F14.binds (ps := p_changed_row) fun _ _ _ _ _ _ us hl => by obtain ⟨_, _, rfl⟩ := us2 hl; rfl
  have F15 := fun_mk (st := s_power_row) l15 c15 k15
  have b15 := F15.binds (ps := p_power_row) fun _ _ _ _ _ _ us hl => by obtain ⟨_, _, _, rfl⟩ := us3 hl; rfl
  have F16 := fun_mk (st := s_row_value) l16 c16 k16
  have b16 := F16.binds (ps := p_row_value) fun _ _ _ _ _ _ us hl => by obtain ⟨_, _, _, rfl⟩ := us3 hl; rfl
  have F17 := fun_mk (st := s_made_form) l17 c17 k17
  have b17 := F17.binds (ps := p_made_form) fun _ _ _ _ _ _ us hl => by obtain ⟨_, rfl⟩ := us1 hl; rfl
  have F18 := fun_mk (st := s_need_one_degree) l18 c18 k18
  have b18 := F18.binds (ps := p_need_one_degree) fun _ _ _ _ _ _ us hl => by obtain ⟨_, _, rfl⟩ := us2 hl; rfl
  have F19 := fun_mk (st := s_laid_row) l19 c19 k19
  have b19 := F19.binds (ps := p_laid_row) fun _ _ _ _ _ _ us hl => by obtain ⟨_, _, _, rfl⟩ := us3 hl; rfl
  have F20 := fun_mk (st := s_laid) l20 c20 k20
  have b20 := F20.binds (ps := p_laid) fun _ _ _ _ _ _ us hl => by obtain ⟨_, _, _, rfl⟩ := us3 hl; rfl
  have F21 := fun_mk (st := s_modulo) l21 c21 k21
  have b21 := F21.binds (ps := p_modulo) fun _ _ _ _ _ _ us hl => by obtain ⟨_, _, rfl⟩ := us2 hl; rfl
  have F22 := fun_mk (st := s_need_prime) l22 c22 k22
  have b22 := F22.binds (ps := p_need_prime) fun _ _ _ _ _ _ us hl => by obtain ⟨_, rfl⟩ := us1 hl; rfl
  have F23 := fun_mk (st := s_determinant_of) l23 c23 k23
  have b23 := F23.binds (ps := p_determinant_of) fun _ _ _ _ _ _ us hl => by obtain ⟨_, rfl⟩ := us1 hl; rfl
  have F24 := fun_mk (st := s_need_prime_table) l24 c24 k24
  have b24 := F24.binds (ps := p_need_prime_table) fun _ _ _ _ _ _ us hl => by obtain ⟨_, _, rfl⟩ := us2 hl; rfl
  have F25 := fun_mk (st := s_value_at) l25 c25 k25
  have b25 := F25.binds (ps := p_value_at) fun _ _ _ _ _ _ us hl => by obtain ⟨_, _, _, _, rfl⟩ := us4 hl; rfl
  have F26 := fun_mk (st := s_changed_modulo) l26 c26 k26
  have b26 := F26.binds (ps := p_changed_modulo) fun _ _ _ _ _ _ us hl => by obtain ⟨_, _, _, rfl⟩ := us3 hl; rfl
  have F27 := fun_mk (st := s_need_like) l27 c27 k27
  have b27 := F27.binds (ps := p_need_like) fun _ _ _ _ _ _ us hl => by obtain ⟨_, _, rfl⟩ := us2 hl; rfl
  have F28 := fun_mk (st := s_law_dice) l28 c28 k28
  have b28 := F28.binds (ps := p_law_dice) fun _ _ _ _ _ _ us hl => by obtain ⟨_, _, rfl⟩ := us2 hl; rfl
  have F29 := fun_mk (st := s_law_roll) l29 c29 k29
  have b29 := F29.binds (ps := p_law_roll) fun _ _ _ _ _ _ us hl => by obtain ⟨_, _, rfl⟩ := us2 hl; rfl
  have F30 := fun_mk (st := s_law_pick) l30 c30 k30
  have b30 := F30.binds (ps := p_law_pick) fun _ _ _ _ _ _ us hl => by obtain ⟨_, _, rfl⟩ := us2 hl; rfl
  have F31 := fun_mk (st := s_law_near) l31 c31 k31
  have b31 := F31.binds (ps := p_law_near) fun _ _ _ _ _ _ us hl => by obtain ⟨_, _, rfl⟩ := us2 hl; rfl
  have F32 := fun_mk (st := s_law_gcd) l32 c32 k32
  have b32 := F32.binds (ps := p_law_gcd) fun _ _ _ _ _ _ us hl => by obtain ⟨_, _, rfl⟩ := us2 hl; rfl
  have F33 := fun_mk (st := s_law_shared) l33 c33 k33
  have b33 := F33.binds (ps := p_law_shared) fun _ _ _ _ _ _ us hl => by obtain ⟨_, rfl⟩ := us1 hl; rfl
  have F34 := fun_mk (st := s_law_raised) l34 c34 k34
  have b34 := F34.binds (ps := p_law_raised) fun _ _ _ _ _ _ us hl => by obtain ⟨_, _, rfl⟩ := us2 hl; rfl
  have F35 := fun_mk (st := s_law_choose) l35 c35 k35
  have b35 := F35.binds (ps := p_law_choose) fun _ _ _ _ _ _ us hl => by obtain ⟨_, _, rfl⟩ := us2 hl; rfl
  have F36 := fun_mk (st := s_law_plus) l36 c36 k36
  have b36 := F36.binds (ps := p_law_plus) fun _ _ _ _ _ _ us hl => by obtain ⟨_, _, rfl⟩ := us2 hl; rfl
  have F37 := fun_mk (st := s_law_scaled) l37 c37 k37
  have b37 := F37.binds (ps := p_law_scaled) fun _ _ _ _ _ _ us hl => by obtain ⟨_, _, rfl⟩ := us2 hl; rfl
  have F38 := fun_mk (st := s_law_product) l38 c38 k38
  have b38 := F38.binds (ps := p_law_product) fun _ _ _ _ _ _ us hl => by obtain ⟨_, _, rfl⟩ := us2 hl; rfl
  have F39 := fun_mk (st := s_law_all_product) l39 c39 k39
  have b39 := F39.binds (ps := p_law_all_product) fun _ _ _ _ _ _ us hl => by obtain ⟨_, rfl⟩ := us1 hl; rfl
  have F40 := fun_mk (st := s_law_power) l40 c40 k40
  have b40 := F40.binds (ps := p_law_power) fun _ _ _ _ _ _ us hl => by obtain ⟨_, _, rfl⟩ := us2 hl; rfl
  have F41 := fun_mk (st := s_law_by_x) l41 c41 k41
  have b41 := F41.binds (ps := p_law_by_x) fun _ _ _ _ _ _ us hl => by obtain ⟨_, rfl⟩ := us1 hl; rfl
  have F42 := fun_mk (st := s_law_by_y) l42 c42 k42
  have b42 := F42.binds (ps := p_law_by_y) fun _ _ _ _ _ _ us hl => by obtain ⟨_, rfl⟩ := us1 hl; rfl
  have F43 := fun_mk (st := s_law_derived) l43 c43 k43
  have b43 := F43.binds (ps := p_law_derived) fun _ _ _ _ _ _ us hl => by obtain ⟨_, _, _, rfl⟩ := us3 hl; rfl
  have F44 := fun_mk (st := s_law_laid) l44 c44 k44
  have b44 := F44.binds (ps := p_law_laid) fun _ _ _ _ _ _ us hl => by obtain ⟨_, _, _, rfl⟩ := us3 hl; rfl
  have F45 := fun_mk (st := s_law_plain) l45 c45 k45
  have b45 := F45.binds (ps := p_law_plain) fun _ _ _ _ _ _ us hl => by obtain ⟨_, rfl⟩ := us1 hl; rfl
  have F46 := fun_mk (st := s_law_line) l46 c46 k46
  have b46 := F46.binds (ps := p_law_line) fun _ _ _ _ _ _ us hl => by obtain ⟨_, rfl⟩ := us1 hl; rfl
  have F47 := fun_mk (st := s_law_point) l47 c47 k47
  have b47 := F47.binds (ps := p_law_point) fun _ _ _ _ _ _ us hl => by obtain ⟨_, _, rfl⟩ := us2 hl; rfl
  have F48 := fun_mk (st := s_law_small_form) l48 c48 k48
  have b48 := F48.binds (ps := p_law_small_form) fun _ _ _ _ _ _ us hl => by obtain ⟨_, _, _, rfl⟩ := us3 hl; rfl
  have F49 := fun_mk (st := s_law_form) l49 c49 k49
  have b49 := F49.binds (ps := p_law_form) fun _ _ _ _ _ _ us hl => by obtain ⟨_, _, rfl⟩ := us2 hl; rfl
  have F50 := fun_mk (st := s_law_det) l50 c50 k50
  have b50 := F50.binds (ps := p_law_det) fun _ _ _ _ _ _ us hl => by obtain ⟨_, rfl⟩ := us1 hl; rfl
  have F51 := fun_mk (st := s_law_some_prime) l51 c51 k51
  have b51 := F51.binds (ps := p_law_some_prime) fun _ _ _ _ _ _ us hl => by obtain ⟨_, rfl⟩ := us1 hl; rfl
  have F52 := fun_mk (st := s_law_prime_table) l52 c52 k52
  have b52 := F52.binds (ps := p_law_prime_table) fun _ _ _ _ _ _ us hl => by obtain ⟨_, _, rfl⟩ := us2 hl; rfl
  have F53 := fun_mk (st := s_law_right) l53 c53 k53
  have b53 := F53.binds (ps := p_law_right) fun _ _ _ _ _ _ us hl => by obtain ⟨_, rfl⟩ := us1 hl; rfl
  have F54 := fun_mk (st := s_law) l54 c54 k54
  have b54 := F54.binds (ps := p_law) fun _ _ _ _ _ _ us hl => by obtain ⟨_, rfl⟩ := us1 hl; rfl
  have F55 := fun_mk (st := s_Form___init__) l55 c55 k55
  have b55 := F55.binds (ps := p_Form___init__) fun _ _ _ _ _ _ us hl => by obtain ⟨_, _, rfl⟩ := us2 hl; rfl
  have F56 := fun_mk (st := s_Form_entries) l56 c56 k56
  have b56 := F56.binds (ps := p_Form_entries) fun _ _ _ _ _ _ us hl => by obtain ⟨_, rfl⟩ := us1 hl; rfl
  have F57 := fun_mk (st := s_Form_degree) l57 c57 k57
  have b57 := F57.binds (ps := p_Form_degree) fun _ _ _ _ _ _ us hl => by obtain ⟨_, rfl⟩ := us1 hl; rfl
  have F58 := fun_mk (st := s_PrimeForm___init__) l58 c58 k58
  have b58 := F58.binds (ps := p_PrimeForm___init__) fun _ _ _ _ _ _ us hl => by obtain ⟨_, _, _, rfl⟩ := us3 hl; rfl
  have F59 := fun_mk (st := s_PrimeForm_of_form) l59 c59 k59
  have b59 := F59.binds (ps := p_PrimeForm_of_form) fun _ _ _ _ _ _ us hl => by obtain ⟨_, _, _, rfl⟩ := us3 hl; rfl
  have F60 := fun_mk (st := s_PrimeForm_prime) l60 c60 k60
  have b60 := F60.binds (ps := p_PrimeForm_prime) fun _ _ _ _ _ _ us hl => by obtain ⟨_, rfl⟩ := us1 hl; rfl
  have F61 := fun_mk (st := s_PrimeForm_entries) l61 c61 k61
  have b61 := F61.binds (ps := p_PrimeForm_entries) fun _ _ _ _ _ _ us hl => by obtain ⟨_, rfl⟩ := us1 hl; rfl
  have F62 := fun_mk (st := s_PrimeForm_degree) l62 c62 k62
  have b62 := F62.binds (ps := p_PrimeForm_degree) fun _ _ _ _ _ _ us hl => by obtain ⟨_, rfl⟩ := us1 hl; rfl
  have F63 := fun_mk (st := s_PrimeForm_is_zero) l63 c63 k63
  have b63 := F63.binds (ps := p_PrimeForm_is_zero) fun _ _ _ _ _ _ us hl => by obtain ⟨_, rfl⟩ := us1 hl; rfl
  have F64 := fun_mk (st := s_PrimeForm_value) l64 c64 k64
  have b64 := F64.binds (ps := p_PrimeForm_value) fun _ _ _ _ _ _ us hl => by obtain ⟨_, _, _, rfl⟩ := us3 hl; rfl
  have F65 := fun_mk (st := s_PrimeForm_changed) l65 c65 k65
  have b65 := F65.binds (ps := p_PrimeForm_changed) fun _ _ _ _ _ _ us hl => by obtain ⟨_, _, rfl⟩ := us2 hl; rfl
  have F66 := fun_mk (st := s_PrimeForm_laid) l66 c66 k66
  have b66 := F66.binds (ps := p_PrimeForm_laid) fun _ _ _ _ _ _ us hl => by obtain ⟨_, _, _, rfl⟩ := us3 hl; rfl
  have F67 := fun_mk (st := s_PrimeForm___mul__) l67 c67 k67
  have b67 := F67.binds (ps := p_PrimeForm___mul__) fun _ _ _ _ _ _ us hl => by obtain ⟨_, _, rfl⟩ := us2 hl; rfl
  have F68 := fun_mk (st := s_PrimeForm___eq__) l68 c68 k68
  have b68 := F68.binds (ps := p_PrimeForm___eq__) fun _ _ _ _ _ _ us hl => by obtain ⟨_, _, rfl⟩ := us2 hl; rfl
  have F69 := fun_mk (st := s_PrimeForm___str__) l69 c69 k69
  have b69 := F69.binds (ps := p_PrimeForm___str__) fun _ _ _ _ _ _ us hl => by obtain ⟨_, rfl⟩ := us1 hl; rfl
  let T : Tx K mg := ⟨_, _, F0, b0, PySem.W.mg_of X G a0, _, _, F1, b1, PySem.W.mg_of X G a1, _, _, F2, b2, PySem.W.mg_of X G a2, _, _, F3, b3, PySem.W.mg_of X G a3, _, _, F4, b4, PySem.W.mg_of X G a4, _, _, F5, b5, PySem.W.mg_of X G a5, _, _, F6, b6, PySem.W.mg_of X G a6, _, _, F7, b7, PySem.W.mg_of X G a7, _, _, F8, b8, PySem.W.mg_of X G a8, _, _, F9, b9, PySem.W.mg_of X G a9, _, _, F10, b10, PySem.W.mg_of X G a10, _, _, F11, b11, PySem.W.mg_of X G a11, _, _, F12, b12, PySem.W.mg_of X G a12, _, _, F13, b13, PySem.W.mg_of X G a13, _, _, F14, b14, PySem.W.mg_of X G a14, _, _, F15, b15, PySem.W.mg_of X G a15, _, _, F16, b16, PySem.W.mg_of X G a16, _, _, F17, b17, PySem.W.mg_of X G a17, _, _, F18, b18, PySem.W.mg_of X G a18, _, _, F19, b19, PySem.W.mg_of X G a19, _, _, F20, b20, PySem.W.mg_of X G a20, _, _, F21, b21, PySem.W.mg_of X G a21, _, _, F22, b22, PySem.W.mg_of X G a22, _, _, F23, b23, PySem.W.mg_of X G a23, _, _, F24, b24, PySem.W.mg_of X G a24, _, _, F25, b25, PySem.W.mg_of X G a25, _, _, F26, b26, PySem.W.mg_of X G a26, _, _, F27, b27, PySem.W.mg_of X G a27, _, _, F28, b28, PySem.W.mg_of X G a28, _, _, F29, b29, PySem.W.mg_of X G a29, _, _, F30, b30, PySem.W.mg_of X G a30, _, _, F31, b31, PySem.W.mg_of X G a31, _, _, F32, b32, PySem.W.mg_of X G a32, _, _, F33, b33, PySem.W.mg_of X G a33, _, _, F34, b34, PySem.W.mg_of X G a34, _, _, F35, b35, PySem.W.mg_of X G a35, _, _, F36, b36, PySem.W.mg_of X G a36, _, _, F37, b37, PySem.W.mg_of X G a37, _, _, F38, b38, PySem.W.mg_of X G a38, _, _, F39, b39, PySem.W.mg_of X G a39, _, _, F40, b40, PySem.W.mg_of X G a40, _, _, F41, b41, PySem.W.mg_of X G a41, _, _, F42, b42, PySem.W.mg_of X G a42, _, _, F43, b43, PySem.W.mg_of X G a43, _, _, F44, b44, PySem.W.mg_of X G a44, _, _, F45, b45, PySem.W.mg_of X G a45, _, _, F46, b46, PySem.W.mg_of X G a46, _, _, F47, b47, PySem.W.mg_of X G a47, _, _, F48, b48, PySem.W.mg_of X G a48, _, _, F49, b49, PySem.W.mg_of X G a49, _, _, F50, b50, PySem.W.mg_of X G a50, _, _, F51, b51, PySem.W.mg_of X G a51, _, _, F52, b52, PySem.W.mg_of X G a52, _, _, F53, b53, PySem.W.mg_of X G a53, _, _, F54, b54, PySem.W.mg_of X G a54, _, _, F55, b55, _, _, F56, b56, _, _, F57, b57, _, _, F58, b58, _, _, F59, b59, _, _, F60, b60, _, _, F61, b61, _, _, F62, b62, _, _, F63, b63, _, _, F64, b64, _, _, F65, b65, _, _, F66, b66, _, _, F67, b67, _, _, F68, b68, _, _, F69, b69, _, PySem.W.mg_of X G aC_Form, ⟨pg_Form, hd_Form, po_Form, sa_Form⟩, ⟨mk_Form, a55, j55, kc_Form⟩, sf_Form, nf_Form, no_Form_entries, ⟨a55, j55, k55⟩, _, ⟨a56, g56, t56, _, r56⟩, _, ⟨a57, g57, t57, _, r57⟩, x_int, x_tup, x_ty, x_obj, x_cls, x_get, x_tak, x_rmul, x_imul, x_irmul, x_ne, _, PySem.W.mg_of X G aC_PrimeForm, ⟨pg_PrimeForm, hd_PrimeForm, po_PrimeForm, sa_PrimeForm⟩, ⟨mk_PrimeForm, a58, j58, kc_PrimeForm⟩, sf_PrimeForm, nf_PrimeForm, no_PrimeForm_prime, no_PrimeForm_entries, ⟨a58, j58, k58⟩, ⟨rd_PrimeForm, ga_PrimeForm⟩, _, ⟨a59, ⟨_, r59⟩, j59⟩, _, ⟨a60, g60, t60, _, r60⟩, _, ⟨a61, g61, t61, _, r61⟩, _, ⟨a62, g62, t62, _, r62⟩, _, ⟨a63, g63, t63, _, r63⟩, ⟨a64, j64, k64⟩, ⟨a65, j65, k65⟩, ⟨a66, j66, k66⟩, ⟨a67, j67, k67⟩, ⟨a68, j68, k68⟩, ⟨a69, j69, k69⟩, px_int, px_tup, px_ty, px_ne, px_obj, px_nft, px_cls, px_get, px_tak, PySem.W.mg_none_of X G z0, PySem.W.mg_none_of X G z1, PySem.W.mg_none_of X G z2, PySem.W.mg_none_of X G z3, PySem.W.mg_none_of X G z4, PySem.W.mg_none_of X G z5, PySem.W.mg_none_of X G z6, PySem.W.mg_none_of X G z7, PySem.W.mg_none_of X G z8, PySem.W.mg_none_of X G z9, PySem.W.mg_none_of X G z10, PySem.W.mg_none_of X G z11, PySem.W.mg_none_of X G z12, PySem.W.mg_none_of X G z13, PySem.W.mg_none_of X G z14, PySem.W.mg_none_of X G z15, PySem.W.mg_of X G i0, PySem.W.mg_of X G i1, _, PySem.W.mg_of X G q0, _, PySem.W.mg_of X G q1, _, PySem.W.mg_of X G q2, _, PySem.W.mg_of X G y0, fun _ => sqT_const x0 w0 (by decide)⟩
  exact ⟨_, fun s v => .of_eq rfl, fun base _ _ => ok_law T⟩
end My
/-- keeps a helper of the head, that nothing uses, from being written (256 MiB) -/
def PySem.W.Fast.tw17148110126258846054 : Nat := 0
open PySem PySem.W PyProof.Rows
set_option maxHeartbeats 0 in
theorem PySem.Challenge.cw_sourceforms_k52_whole_layings_over_prime_holds : PySem.Challenge.rw_sourceforms_k52_whole_layings_over_prime.Holds := by
  w_on; o_law; k_head; (case hw => w_witness2)
  k_fill
  refine L2.walk_of (l := PySem.Challenge.rw_sourceforms_k52_whole_layings_over_prime) (n := 63) (k := 28) (x := "_law_script") (CX := fun _ => L2.CX0) (sp := fun w => My.sp_law _) rfl (by decide) rfl ⟨rfl, by decide, by decide⟩ (fun w h Y => PySem.W.kIn_of Y) ?F (fun _ _ a ns hl _ hS => ⟨a, ns, rfl, hS, hl, fun _ => rfl⟩) (fun _ _ _ _ _ h => h)
  case F =>
    intro w mg fa h KX G hmg
    refine' My.all_mk KX G hmg ?a0 ?l0 ?c0 ?k0 ?a1 ?l1 ?c1 ?k1 ?a2 ?l2 ?c2 ?k2 ?a3 ?l3 ?c3 ?k3 ?a4 ?l4 ?c4 ?k4 ?a5 ?l5 ?c5 ?k5 ?a6 ?l6 ?c6 ?k6 ?a7 ?l7 ?c7 ?k7 ?a8 ?l8 ?c8 ?k8 ?a9 ?l9 ?c9 ?k9 ?a10 ?l10 ?c10 ?k10 ?a11 ?l11 ?c11 ?k11 ?a12 ?l12 ?c12 ?k12 ?a13 ?l13 ?c13 ?k13 ?a14 ?l14 ?c14 ?k14 ?a15 ?l15 ?c15 ?k15 ?a16 ?l16 ?c16 ?k16 ?a17 ?l17 ?c17 ?k17 ?a18 ?l18 ?c18 ?k18 ?a19 ?l19 ?c19 ?k19 ?a20 ?l20 ?c20 ?k20 ?a21 ?l21 ?c21 ?k21 ?a22 ?l22 ?c22 ?k22 ?a23 ?l23 ?c23 ?k23 ?a24 ?l24 ?c24 ?k24 ?a25 ?l25 ?c25 ?k25 ?a26 ?l26 ?c26 ?k26 ?a27 ?l27 ?c27 ?k27 ?a28 ?l28 ?c28 ?k28 ?a29 ?l29 ?c29 ?k29 ?a30 ?l30 ?c30 ?k30 ?a31 ?l31 ?c31 ?k31 ?a32 ?l32 ?c32 ?k32 ?a33 ?l33 ?c33 ?k33 ?a34 ?l34 ?c34 ?k34 ?a35 ?l35 ?c35 ?k35 ?a36 ?l36 ?c36 ?k36 ?a37 ?l37 ?c37 ?k37 ?a38 ?l38 ?c38 ?k38 ?a39 ?l39 ?c39 ?k39 ?a40 ?l40 ?c40 ?k40 ?a41 ?l41 ?c41 ?k41 ?a42 ?l42 ?c42 ?k42 ?a43 ?l43 ?c43 ?k43 ?a44 ?l44 ?c44 ?k44 ?a45 ?l45 ?c45 ?k45 ?a46 ?l46 ?c46 ?k46 ?a47 ?l47 ?c47 ?k47 ?a48 ?l48 ?c48 ?k48 ?a49 ?l49 ?c49 ?k49 ?a50 ?l50 ?c50 ?k50 ?a51 ?l51 ?c51 ?k51 ?a52 ?l52 ?c52 ?k52 ?a53 ?l53 ?c53 ?k53 ?a54 ?l54 ?c54 ?k54 ?a55 ?j55 ?l55 ?c55 ?k55 ?a56 ?g56 ?t56 ?r56 ?l56 ?c56 ?k56 ?a57 ?g57 ?t57 ?r57 ?l57 ?c57 ?k57 ?a58 ?j58 ?l58 ?c58 ?k58 ?a59 ?r59 ?j59 ?l59 ?c59 ?k59 ?a60 ?g60 ?t60 ?r60 ?l60 ?c60 ?k60 ?a61 ?g61 ?t61 ?r61 ?l61 ?c61 ?k61 ?a62 ?g62 ?t62 ?r62 ?l62 ?c62 ?k62 ?a63 ?g63 ?t63 ?r63 ?l63 ?c63 ?k63 ?a64 ?j64 ?l64 ?c64 ?k64 ?a65 ?j65 ?l65 ?c65 ?k65 ?a66 ?j66 ?l66 ?c66 ?k66 ?a67 ?j67 ?l67 ?c67 ?k67 ?a68 ?j68 ?l68 ?c68 ?k68 ?a69 ?j69 ?l69 ?c69 ?k69 ?aC_Form ?pg_Form ?hd_Form ?po_Form ?sa_Form ?mk_Form ?kc_Form ?sf_Form ?nf_Form ?no_Form_entries ?x_int ?x_tup ?x_ty ?x_obj ?x_cls ?x_get ?x_tak ?x_rmul ?x_imul ?x_irmul ?x_ne ?aC_PrimeForm ?pg_PrimeForm ?hd_PrimeForm ?po_PrimeForm ?sa_PrimeForm ?mk_PrimeForm ?kc_PrimeForm ?sf_PrimeForm ?nf_PrimeForm ?no_PrimeForm_prime ?no_PrimeForm_entries ?px_int ?px_tup ?px_ty ?px_ne ?px_obj ?px_nft ?px_cls ?px_get ?px_tak ?rd_PrimeForm ?ga_PrimeForm ?z0 ?z1 ?z2 ?z3 ?z4 ?z5 ?z6 ?z7 ?z8 ?z9 ?z10 ?z11 ?z12 ?z13 ?z14 ?z15 ?i0 ?i1 ?q0 ?q1 ?q2 ?y0 ?x0 ?w0
    (case aC_Form => k_is)
    (case aC_PrimeForm => k_is)
    (case a0 => k_is)
    (case l0 => k_is)
    (case c0 => k_is)
    (case k0 => k_is)
    (case a1 => k_is)
    (case l1 => k_is)
    (case c1 => k_is)
    (case k1 => k_is)
    (case a2 => k_is)
    (case l2 => k_is)
    (case c2 => k_is)
    (case k2 => k_is)
    (case a3 => k_is)
    (case l3 => k_is)
    (case c3 => k_is)
    (case k3 => k_is)
    (case a4 => k_is)
    (case l4 => k_is)
    (case c4 => k_is)
    (case k4 => k_is)
    (case a5 => k_is)
    (case l5 => k_is)
    (case c5 => k_is)
    (case k5 => k_is)
    (case a6 => k_is)
    (case l6 => k_is)
    (case c6 => k_is)
    (case k6 => k_is)
    (case a7 => k_is)
    (case l7 => k_is)
    (case c7 => k_is)
    (case k7 => k_is)
    (case a8 => k_is)
    (case l8 => k_is)
    (case c8 => k_is)
    (case k8 => k_is)
    (case a9 => k_is)
    (case l9 => k_is)
    (case c9 => k_is)
    (case k9 => k_is)
    (case a10 => k_is)
    (case l10 => k_is)
    (case c10 => k_is)
    (case k10 => k_is)
    (case a11 => k_is)
    (case l11 => k_is)
    (case c11 => k_is)
    (case k11 => k_is)
    (case a12 => k_is)
    (case l12 => k_is)
    (case c12 => k_is)
    (case k12 => k_is)
    (case a13 => k_is)
    (case l13 => k_is)
    (case c13 => k_is)
    (case k13 => k_is)
    (case a14 => k_is)
    (case l14 => k_is)
    (case c14 => k_is)
    (case k14 => k_is)
    (case a15 => k_is)
    (case l15 => k_is)
    (case c15 => k_is)
    (case k15 => k_is)
    (case a16 => k_is)
    (case l16 => k_is)
    (case c16 => k_is)
    (case k16 => k_is)
    (case a17 => k_is)
    (case l17 => k_is)
    (case c17 => k_is)
    (case k17 => k_is)
    (case a18 => k_is)
    (case l18 => k_is)
    (case c18 => k_is)
    (case k18 => k_is)
    (case a19 => k_is)
    (case l19 => k_is)
    (case c19 => k_is)
    (case k19 => k_is)
    (case a20 => k_is)
    (case l20 => k_is)
    (case c20 => k_is)
    (case k20 => k_is)
    (case a21 => k_is)
    (case l21 => k_is)
    (case c21 => k_is)
    (case k21 => k_is)
    (case a22 => k_is)
    (case l22 => k_is)
    (case c22 => k_is)
    (case k22 => k_is)
    (case a23 => k_is)
    (case l23 => k_is)
    (case c23 => k_is)
    (case k23 => k_is)
    (case a24 => k_is)
    (case l24 => k_is)
    (case c24 => k_is)
    (case k24 => k_is)
    (case a25 => k_is)
    (case l25 => k_is)
    (case c25 => k_is)
    (case k25 => k_is)
    (case a26 => k_is)
    (case l26 => k_is)
    (case c26 => k_is)
    (case k26 => k_is)
    (case a27 => k_is)
    (case l27 => k_is)
    (case c27 => k_is)
    (case k27 => k_is)
    (case a28 => k_is)
    (case l28 => k_is)
    (case c28 => k_is)
    (case k28 => k_is)
    (case a29 => k_is)
    (case l29 => k_is)
    (case c29 => k_is)
    (case k29 => k_is)
    (case a30 => k_is)
    (case l30 => k_is)
    (case c30 => k_is)
    (case k30 => k_is)
    (case a31 => k_is)
    (case l31 => k_is)
    (case c31 => k_is)
    (case k31 => k_is)
    (case a32 => k_is)
    (case l32 => k_is)
    (case c32 => k_is)
    (case k32 => k_is)
    (case a33 => k_is)
    (case l33 => k_is)
    (case c33 => k_is)
    (case k33 => k_is)
    (case a34 => k_is)
    (case l34 => k_is)
    (case c34 => k_is)
    (case k34 => k_is)
    (case a35 => k_is)
    (case l35 => k_is)
    (case c35 => k_is)
    (case k35 => k_is)
    (case a36 => k_is)
    (case l36 => k_is)
    (case c36 => k_is)
    (case k36 => k_is)
    (case a37 => k_is)
    (case l37 => k_is)
    (case c37 => k_is)
    (case k37 => k_is)
    (case a38 => k_is)
    (case l38 => k_is)
    (case c38 => k_is)
    (case k38 => k_is)
    (case a39 => k_is)
    (case l39 => k_is)
    (case c39 => k_is)
    (case k39 => k_is)
    (case a40 => k_is)
    (case l40 => k_is)
    (case c40 => k_is)
    (case k40 => k_is)
    (case a41 => k_is)
    (case l41 => k_is)
    (case c41 => k_is)
    (case k41 => k_is)
    (case a42 => k_is)
    (case l42 => k_is)
    (case c42 => k_is)
    (case k42 => k_is)
    (case a43 => k_is)
    (case l43 => k_is)
    (case c43 => k_is)
    (case k43 => k_is)
    (case a44 => k_is)
    (case l44 => k_is)
    (case c44 => k_is)
    (case k44 => k_is)
    (case a45 => k_is)
    (case l45 => k_is)
    (case c45 => k_is)
    (case k45 => k_is)
    (case a46 => k_is)
    (case l46 => k_is)
    (case c46 => k_is)
    (case k46 => k_is)
    (case a47 => k_is)
    (case l47 => k_is)
    (case c47 => k_is)
    (case k47 => k_is)
    (case a48 => k_is)
    (case l48 => k_is)
    (case c48 => k_is)
    (case k48 => k_is)
    (case a49 => k_is)
    (case l49 => k_is)
    (case c49 => k_is)
    (case k49 => k_is)
    (case a50 => k_is)
    (case l50 => k_is)
    (case c50 => k_is)
    (case k50 => k_is)
    (case a51 => k_is)
    (case l51 => k_is)
    (case c51 => k_is)
    (case k51 => k_is)
    (case a52 => k_is)
    (case l52 => k_is)
    (case c52 => k_is)
    (case k52 => k_is)
    (case a53 => k_is)
    (case l53 => k_is)
    (case c53 => k_is)
    (case k53 => k_is)
    (case a54 => k_is)
    (case l54 => k_is)
    (case c54 => k_is)
    (case k54 => k_is)
    (case a55 => k_is)
    (case j55 => k_is)
    (case l55 => k_is)
    (case c55 => k_is)
    (case k55 => k_is)
    (case a56 => k_is)
    (case g56 => k_is)
    (case t56 => k_is)
    (case r56 => k_is)
    (case l56 => k_is)
    (case c56 => k_is)
    (case k56 => k_is)
    (case a57 => k_is)
    (case g57 => k_is)
    (case t57 => k_is)
    (case r57 => k_is)
    (case l57 => k_is)
    (case c57 => k_is)
    (case k57 => k_is)
    (case a58 => k_is)
    (case j58 => k_is)
    (case l58 => k_is)
    (case c58 => k_is)
    (case k58 => k_is)
    (case a59 => k_is)
    (case r59 => k_is)
    (case j59 => k_is)
    (case l59 => k_is)
    (case c59 => k_is)
    (case k59 => k_is)
    (case a60 => k_is)
    (case g60 => k_is)
    (case t60 => k_is)
    (case r60 => k_is)
    (case l60 => k_is)
    (case c60 => k_is)
    (case k60 => k_is)
    (case a61 => k_is)
    (case g61 => k_is)
    (case t61 => k_is)
    (case r61 => k_is)
    (case l61 => k_is)
    (case c61 => k_is)
    (case k61 => k_is)
    (case a62 => k_is)
    (case g62 => k_is)
    (case t62 => k_is)
    (case r62 => k_is)
    (case l62 => k_is)
    (case c62 => k_is)
    (case k62 => k_is)
    (case a63 => k_is)
    (case g63 => k_is)
    (case t63 => k_is)
    (case r63 => k_is)
    (case l63 => k_is)
    (case c63 => k_is)
    (case k63 => k_is)
    (case a64 => k_is)
    (case j64 => k_is)
    (case l64 => k_is)
    (case c64 => k_is)
    (case k64 => k_is)
    (case a65 => k_is)
    (case j65 => k_is)
    (case l65 => k_is)
    (case c65 => k_is)
    (case k65 => k_is)
    (case a66 => k_is)
    (case j66 => k_is)
    (case l66 => k_is)
    (case c66 => k_is)
    (case k66 => k_is)
    (case a67 => k_is)
    (case j67 => k_is)
    (case l67 => k_is)
    (case c67 => k_is)
    (case k67 => k_is)
    (case a68 => k_is)
    (case j68 => k_is)
    (case l68 => k_is)
    (case c68 => k_is)
    (case k68 => k_is)
    (case a69 => k_is)
    (case j69 => k_is)
    (case l69 => k_is)
    (case c69 => k_is)
    (case k69 => k_is)
    (case pg_Form => k_is)
    (case hd_Form => k_is)
    (case po_Form => k_is)
    (case sa_Form => k_is)
    (case mk_Form => k_is)
    (case kc_Form => k_is)
    (case sf_Form => k_is)
    (case nf_Form => k_is)
    (case no_Form_entries => k_is)
    (case x_int => k_is)
    (case x_tup => k_is)
    (case x_ty => k_is)
    (case x_obj => k_is)
    (case x_cls => k_is)
    (case x_get => k_is)
    (case x_tak => k_is)
    (case x_rmul => k_is)
    (case x_imul => k_is)
    (case x_irmul => k_is)
    (case x_ne => k_is)
    (case pg_PrimeForm => k_is)
    (case hd_PrimeForm => k_is)
    (case po_PrimeForm => k_is)
    (case sa_PrimeForm => k_is)
    (case mk_PrimeForm => k_is)
    (case kc_PrimeForm => k_is)
    (case sf_PrimeForm => k_is)
    (case nf_PrimeForm => k_is)
    (case no_PrimeForm_prime => k_is)
    (case no_PrimeForm_entries => k_is)
    (case px_int => k_is)
    (case px_tup => k_is)
    (case px_ty => k_is)
    (case px_ne => k_is)
    (case px_obj => k_is)
    (case px_nft => k_is)
    (case px_cls => k_is)
    (case px_get => k_is)
    (case px_tak => k_is)
    (case rd_PrimeForm => k_is)
    (case ga_PrimeForm => k_is)
    (case z0 => k_is)
    (case z1 => k_is)
    (case z2 => k_is)
    (case z3 => k_is)
    (case z4 => k_is)
    (case z5 => k_is)
    (case z6 => k_is)
    (case z7 => k_is)
    (case z8 => k_is)
    (case z9 => k_is)
    (case z10 => k_is)
    (case z11 => k_is)
    (case z12 => k_is)
    (case z13 => k_is)
    (case z14 => k_is)
    (case z15 => k_is)
    (case i0 => k_is)
    (case i1 => k_is)
    (case q0 => k_is)
    (case q1 => k_is)
    (case q2 => k_is)
    (case y0 => k_is)
    (case x0 => k_is)
    (case w0 => rfl)
