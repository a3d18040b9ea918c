import PyProof.Rows.All
import Wide.All
import OpenK.AllK
import Wide.FinOn
import HandS.ForMost
import HandS.Codes
import HandS.Star
import HandS.IsInst
import HandS.TupMul
import HandS.TupAny
import HandS.NoneIn
import HandS.Conv
import HandS.Flow
import HandS.Style
import HandS.Deep
import HandS.Steps
import KE.KStateDown
import HandS.More
import HandS.Defaults
import HandS.Head0
import HandS.Head1
import HandS.Head2
import HandS.HeadEnd
import HandS.HeadHook1
import HandS.HeadHook2
import HandS.HeadHook3
import HandS.Zip
import HandS.Walk
import HandS.RaiseMore
import HandS.Strs
import KE.DataMinMax
import KE.GoesMore
import PyProof.Claim2Refuses
import PySem.Challenge.RW_guestworlds_k13_whole_the_unlike_guest
set_option linter.all false
set_option Elab.async false
set_option maxRecDepth 100000
set_option maxHeartbeats 3000000
/-! ### steps: a reading goes on by one word -/
namespace Y
open PySem L2 C8
section
variable {σ : L2.St} {H : Hp} {Q : VK} {v x y : V} {i j : Int} {n k : Nat} {ta tb tc te tv : TE} {t u : TT} {A : TA} {s1 s2 : TS} {D : Ends} {r : R2}
theorem s_var (h : σ[n]? = some (some v)) (q : Q v H) : tVar n σ H Q := ⟨v, h, q⟩
theorem s_c (q : Q v H) : tC v σ H Q := q
theorem s_op (q : ta σ H fun x H1 => tb σ H1 fun y H2 => r x y H2 Q) : tOp r ta tb σ H Q := q
theorem s_un {r : V → Hp → VK → Prop} (q : ta σ H fun x H1 => r x H1 Q) : tUn r ta σ H Q := q
theorem s_rI0 {g : Int → Int → V} (q : Q (g i j) H) : rI0 g (.int i) (.int j) H Q := ⟨i, j, rfl, rfl, q⟩
theorem s_rI {C : Int → Int → Prop} {g : Int → Int → V} (c : C i j) (q : Q (g i j) H) : rI C g (.int i) (.int j) H Q := ⟨i, j, rfl, rfl, c, q⟩
theorem s_rU {g : Int → V} (q : Q (g i) H) : rU g (.int i) H Q := ⟨i, rfl, q⟩
theorem s_eq (h : scal x y = true) (q : Q (.bl (decide (x = y))) H) : rEq x y H Q := ⟨h, q⟩
theorem s_ne (h : scal x y = true) (q : Q (.bl (!decide (x = y))) H) : rNe x y H Q := ⟨h, q⟩
theorem s_eqI (q : Q (.bl (decide (i = j))) H) : rEq (.int i) (.int j) H Q := ⟨rfl, by
  have e : decide (V.int i = V.int j) = decide (i = j) := by
    by_cases h : i = j
    · subst h; simp
    · rw [decide_eq_false h, decide_eq_false (fun z => h (V.int.inj z))]
  rw [e]; exact q⟩
theorem s_neI (q : Q (.bl (!decide (i = j))) H) : rNe (.int i) (.int j) H Q := ⟨rfl, by
  have e : decide (V.int i = V.int j) = decide (i = j) := by
    by_cases h : i = j
    · subst h; simp
    · rw [decide_eq_false h, decide_eq_false (fun z => h (V.int.inj z))]
  rw [e]; exact q⟩
theorem s_eqS {a b : Str} (q : Q (.bl (decide (a = b))) H) : rEq (.str a) (.str b) H Q := ⟨rfl, by
  have e : decide (V.str a = V.str b) = decide (a = b) := by
    by_cases h : a = b
    · subst h; simp
    · rw [decide_eq_false h, decide_eq_false (fun z => h (V.str.inj z))]
  rw [e]; exact q⟩
theorem s_neS {a b : Str} (q : Q (.bl (!decide (a = b))) H) : rNe (.str a) (.str b) H Q := ⟨rfl, by
  have e : decide (V.str a = V.str b) = decide (a = b) := by
    by_cases h : a = b
    · subst h; simp
    · rw [decide_eq_false h, decide_eq_false (fun z => h (V.str.inj z))]
  rw [e]; exact q⟩
theorem s_test {Q : Bool → Hp → Prop} (q : te σ H fun x H' => ∃ k, x = .bl k ∧ Q k H') : tTest te σ H Q := q
theorem s_tB {Q : Bool → Hp → Prop} (q : te σ H fun x H' => ∃ k, x = .bl k ∧ Q k H') : tB te σ H Q := q
theorem s_bl {b : Bool} {Q : Bool → Prop} (q : Q b) : ∃ k, V.bl b = V.bl k ∧ Q k := ⟨b, rfl, q⟩
theorem s_and {Q : Bool → Hp → Prop} (q : t σ H fun c H1 => if c = true then u σ H1 Q else Q false H1) : tAnd t u σ H Q := q
theorem s_or {Q : Bool → Hp → Prop} (q : t σ H fun c H1 => if c = true then Q true H1 else u σ H1 Q) : tOr t u σ H Q := q
theorem s_not {Q : Bool → Hp → Prop} (q : t σ H fun c H1 => Q (!c) H1) : tNot t σ H Q := q
theorem s_if (q : t σ H fun c H1 => if c = true then ta σ H1 Q else tb σ H1 Q) : tIf t ta tb σ H Q := q
theorem s_andV (q : ta σ H fun x H1 => ∃ c, x = .bl c ∧ if c = true then tb σ H1 Q else Q (.bl false) H1) : tAndV ta tb σ H Q := q
theorem s_orV (q : ta σ H fun x H1 => ∃ c, x = .bl c ∧ if c = true then Q (.bl true) H1 else tb σ H1 Q) : tOrV ta tb σ H Q := q
theorem s_notV (q : ta σ H fun x H1 => ∃ c, x = .bl c ∧ Q (.bl (!c)) H1) : tNotV ta σ H Q := q
theorem s_nil {Q : List V → Hp → Prop} (q : Q [] H) : tNil σ H Q := q
theorem s_cons {Q : List V → Hp → Prop} (q : ta σ H fun x H1 => A σ H1 fun xs H2 => Q (x :: xs) H2) : tCons ta A σ H Q := q
theorem s_cb {r : List V → Hp → VK → Prop} (q : A σ H fun vs H1 => r vs H1 Q) : tCB r A σ H Q := q
theorem s_call {sp : Sp} {dvs : List V} {E : XK} (q : A σ H fun vs H1 => sp (vs ++ dvs) H1 Q E) : tCall sp dvs E A σ H Q := q
theorem s_tup (q : A σ H fun xs H1 => xs.length ≤ sizeLine ∧ ∀ p, H1 p = none → Q (.ref p) (upd H1 p (.tup xs))) : tTup A σ H Q := q
theorem s_lst (q : A σ H fun xs H1 => xs.length ≤ sizeLine ∧ ∀ p, H1 p = none → Q (.ref p) (upd H1 p (.lst xs))) : tLst A σ H Q := q
theorem s_seq (q : s1 { D with nx := s2 D } σ H) : tSeq s1 s2 D σ H := q
theorem s_asg {g : TG} (q : te σ H fun x H1 => g x σ H1 D.nx) : tAsg te g D σ H := q
theorem s_gName {Q : L2.St → Hp → Prop} (q : Q (σ.set n (some v)) H) : gName n v σ H Q := q
theorem s_gSub {Q : L2.St → Hp → Prop} {ts : TSet} (q : ta σ H fun o H1 => tb σ H1 fun i H2 => ts o i v H2 fun H3 => Q σ H3) : gSub ta tb ts v σ H Q := q
theorem s_drop (q : te σ H fun _ H1 => D.nx σ H1) : tDrop te D σ H := q
theorem s_ret (q : te σ H D.rt) : tRet te D σ H := q
theorem s_retN (q : D.rt .non H) : tRetN D σ H := q
theorem s_ifS (q : t σ H fun b H1 => if b = true then s1 D σ H1 else s2 D σ H1) : tIfS t s1 s2 D σ H := q
theorem s_next (q : D.nx σ H) : tNext D σ H := q
theorem s_nx {n : L2.St → Hp → Prop} {r : VK} {b c : L2.St → Hp → Prop} (q : n σ H) : Ends.nx { nx := n, rt := r, bk := b, ct := c } σ H := q
theorem s_rt {n : L2.St → Hp → Prop} {r : VK} {b c : L2.St → Hp → Prop} (q : r v H) : Ends.rt { nx := n, rt := r, bk := b, ct := c } v H := q
theorem s_nxq (q : D.nx σ H) : D.nx σ H := q
theorem s_rtq (q : D.rt v H) : D.rt v H := q
theorem s_T {a b : Prop} (q : a) : if true = true then a else b := by rw [if_pos rfl]; exact q
theorem s_F {a b : Prop} (q : b) : if false = true then a else b := by rw [if_neg Bool.false_ne_true]; exact q
theorem s_NT {a b : Prop} (q : b) : if (!true) = true then a else b := s_F q
theorem s_NF {a b : Prop} (q : a) : if (!false) = true then a else b := s_T q
theorem s_dT {p a b : Prop} [Decidable p] (h : p) (q : a) : if decide p = true then a else b := by rw [decide_eq_true h]; exact s_T q
theorem s_dF {p a b : Prop} [Decidable p] (h : ¬ p) (q : b) : if decide p = true then a else b := by rw [decide_eq_false h]; exact s_F q
theorem s_dNT {p a b : Prop} [Decidable p] (h : p) (q : b) : if (!decide p) = true then a else b := by rw [decide_eq_true h]; exact s_F q
theorem s_dNF {p a b : Prop} [Decidable p] (h : ¬ p) (q : a) : if (!decide p) = true then a else b := by rw [decide_eq_false h]; exact s_T q
theorem s_d2 {p a b : Prop} [Decidable p] (h1 : p → a) (h2 : ¬ p → b) : if decide p = true then a else b := by
  by_cases h : p
  · exact s_dT h (h1 h)
  · exact s_dF h (h2 h)
theorem s_dN2 {p a b : Prop} [Decidable p] (h1 : p → b) (h2 : ¬ p → a) : if (!decide p) = true then a else b := by
  by_cases h : p
  · exact s_dNT h (h1 h)
  · exact s_dNF h (h2 h)
/-- an item of a list, a tuple -/
theorem s_ixL {K : PySem.W.Frag} {p : Addr} {xs : List V} {w : V} (h : SqL K H p xs) (e : atI xs i = some w) (q : Q w H) : rIx K (.ref p) (.int i) H Q := .inl ⟨p, xs, i, w, rfl, rfl, h, e, q⟩
theorem s_ixT {K : PySem.W.Frag} {p : Addr} {xs : List V} {w : V} (h : SqT K H p xs) (e : atI xs i = some w) (q : Q w H) : rIx K (.ref p) (.int i) H Q := .inr (.inl ⟨p, xs, i, w, rfl, rfl, h, e, q⟩)
theorem s_ixL' {K : PySem.W.Frag} {p : Addr} {xs : List V} {w : V} (h : SqL K H p xs) (e : atI xs i = some w) (q : Q w H) : rIxL K (.ref p) (.int i) H Q := ⟨p, xs, i, w, rfl, rfl, h, e, q⟩
theorem s_ixT' {K : PySem.W.Frag} {p : Addr} {xs : List V} {w : V} (h : SqT K H p xs) (e : atI xs i = some w) (q : Q w H) : rIxT K (.ref p) (.int i) H Q := ⟨p, xs, i, w, rfl, rfl, h, e, q⟩
theorem s_setL {p : Addr} {xs : List V} {Q : Hp → Prop} (h : H p = some (.lst xs)) (e : ixN xs.length i = some k) (q : Q (upd H p (.lst (xs.set k v)))) : rSetL (.ref p) (.int i) v H Q := ⟨p, xs, i, k, rfl, rfl, h, e, q⟩
/-! named readings -/
def rLen (K : PySem.W.Frag) : List V → Hp → VK → Prop := fun xs H Q => ∃ p ys, xs = [V.ref p] ∧ (SqL K H p ys ∨ SqT K H p ys) ∧ Q (.int ys.length) H
theorem cl_len {X : Cx} : CallR X (.builtin "len") (rLen X.K) := call_len_seq
def rListOf (K : PySem.W.Frag) : List V → Hp → VK → Prop := fun xs H Q => ∃ p ys, xs = [V.ref p] ∧ (SqL K H p ys ∨ SqT K H p ys) ∧ ∀ l, H l = none → Q (.ref l) (upd H l (.lst ys))
theorem cl_list {X : Cx} : CallR X (.type "list") (rListOf X.K) := call_list_of
def rTupleOf (K : PySem.W.Frag) : List V → Hp → VK → Prop := fun xs H Q => ∃ p ys, xs = [V.ref p] ∧ ((SqL K H p ys ∧ ∀ l, H l = none → Q (.ref l) (upd H l (.tup ys))) ∨ (SqT K H p ys ∧ Q (.ref p) H))
theorem cl_tuple {X : Cx} : CallR X (.type "tuple") (rTupleOf X.K) := call_tuple_of
def rInt1 : List V → Hp → VK → Prop := fun xs H Q => (∃ i, xs = [V.int i] ∧ Q (.int i) H) ∨ ∃ k, xs = [V.bl k] ∧ Q (.int (if k then 1 else 0)) H
theorem cl_int {X : Cx} : CallR X (.type "int") rInt1 := call_int1
theorem s_lenL {K : PySem.W.Frag} {p : Addr} {xs : List V} (h : SqL K H p xs) (q : Q (.int xs.length) H) : rLen K [.ref p] H Q := ⟨p, xs, rfl, .inl h, q⟩
theorem s_lenT {K : PySem.W.Frag} {p : Addr} {xs : List V} (h : SqT K H p xs) (q : Q (.int xs.length) H) : rLen K [.ref p] H Q := ⟨p, xs, rfl, .inr h, q⟩
theorem s_listL {K : PySem.W.Frag} {p : Addr} {xs : List V} (h : SqL K H p xs) (q : ∀ l, H l = none → Q (.ref l) (upd H l (.lst xs))) : rListOf K [.ref p] H Q := ⟨p, xs, rfl, .inl h, q⟩
theorem s_listT {K : PySem.W.Frag} {p : Addr} {xs : List V} (h : SqT K H p xs) (q : ∀ l, H l = none → Q (.ref l) (upd H l (.lst xs))) : rListOf K [.ref p] H Q := ⟨p, xs, rfl, .inr h, q⟩
theorem s_tupleL {K : PySem.W.Frag} {p : Addr} {xs : List V} (h : SqL K H p xs) (q : ∀ l, H l = none → Q (.ref l) (upd H l (.tup xs))) : rTupleOf K [.ref p] H Q := ⟨p, xs, rfl, .inl ⟨h, q⟩⟩
theorem s_tupleT {K : PySem.W.Frag} {p : Addr} {xs : List V} (h : SqT K H p xs) (q : Q (.ref p) H) : rTupleOf K [.ref p] H Q := ⟨p, xs, rfl, .inr ⟨h, q⟩⟩
theorem s_intI (q : Q (.int i) H) : rInt1 [.int i] H Q := .inl ⟨i, rfl, q⟩
theorem s_intB {b : Bool} (q : Q (.int (if b then 1 else 0)) H) : rInt1 [.bl b] H Q := .inr ⟨b, rfl, q⟩
theorem s_new {xs : List V} {R : Addr → Prop} (h : Nat.ble xs.length 1000 = true) (q : ∀ p, H p = none → R p) : xs.length ≤ sizeLine ∧ ∀ p, H p = none → R p :=
  ⟨Nat.le_trans (Nat.le_of_ble_eq_true h) (by decide), q⟩
end
end Y
namespace Y
open PySem L2 C8
theorem at_all {xs : List V} {P : V → Prop} {i : Int} (h : ∀ v ∈ xs, P v) (h0 : 0 ≤ i) (h1 : i < xs.length) : ∃ v, atI xs i = some v ∧ P v := by
  have e : xs[i.toNat]? = some xs[i.toNat] := List.getElem?_eq_getElem (by omega)
  exact ⟨_, at_of (by omega) e, h _ (List.getElem_mem _)⟩
end Y
namespace Y
open PySem L2 C8
section
variable {σ : L2.St} {H : Hp} {Q : VK} {v x y : V} {i j : Int} {n k : Nat} {ta tb tc te tv td ty tx : TE} {A : TA} {K : PySem.W.Frag} {p : Addr} {xs : List V}
theorem s_inT {b : Bool} (h : SqT K H p xs) (hx : flatV x = true) (hs : xs.all flatV = true) (hb : inV x xs = b) (q : Q (.bl b) H) : rIn K false x (.ref p) H Q := ⟨p, xs, rfl, .inr h, hx, hs, by rw [hb]; exact q⟩
theorem s_inL {b : Bool} (h : SqL K H p xs) (hx : flatV x = true) (hs : xs.all flatV = true) (hb : inV x xs = b) (q : Q (.bl b) H) : rIn K false x (.ref p) H Q := ⟨p, xs, rfl, .inl h, hx, hs, by rw [hb]; exact q⟩
theorem s_pnil {Q : List (V × V) → Hp → Prop} (q : Q [] H) : tPairs [] σ H Q := q
theorem s_pcons {Q : List (V × V) → Hp → Prop} {r : List (TE × TE)} (q : ta σ H fun x H1 => tb σ H1 fun y H2 => tPairs r σ H2 fun ps H3 => Q ((x, y) :: ps) H3) : tPairs ((ta, tb) :: r) σ H Q := q
def DRest (Q : VK) (p : Addr) : List (V × V) → Hp → Prop := fun ps H2 => H2 p = some (.dK []) ∧ ∃ kvs : List (Key × V), ps = kvs.map (fun kv => (kV kv.1, kv.2)) ∧ kvs.length ≤ 15 ∧ Q (.ref p) (upd H2 p (.dK (mergeK [] kvs)))
theorem s_disp {trs : List (TE × TE)} (q : ∀ p, H p = none → tPairs trs σ (upd H p (.dK [])) (DRest Q p)) : tDisp trs σ H Q := q
theorem merge_nd : ∀ (kvs acc : List (Key × V)), (kvs.map (·.1)).Nodup → (∀ kv ∈ kvs, valV acc kv.1 = none) → mergeK acc kvs = acc ++ kvs
  | [], acc, _, _ => by show acc = acc ++ []; rw [List.append_nil]
  | kv :: r, acc, nd, h => by
    have n1 := List.nodup_cons.mp (show (kv.1 :: r.map (·.1)).Nodup from nd)
    show mergeK (putK acc kv.1 kv.2) r = _
    rw [putK_new _ (h kv (List.mem_cons_self ..)), merge_nd r _ n1.2 (fun z hz => ?_)]
    · rw [List.append_assoc]; rfl
    · rw [valV_snoc _ _ _ _ (h kv (List.mem_cons_self ..)), if_neg (fun e => n1.1 (by rw [← show z.1 = kv.1 from e]; exact List.mem_map_of_mem hz))]
      exact h z (List.mem_cons_of_mem _ hz)
/-- the end of a written dict: its keys are ks, all texts -/
theorem s_dend {ps : List (V × V)} {p : Addr} (ks : List Str) (vs : List V) (e : H p = some (.dK [])) (hp : ps = (ks.zip vs).map fun kv => (V.str kv.1, kv.2)) (nd : decide ks.Nodup = true) (hl : Nat.ble vs.length 15 = true)
    (q : Q (.ref p) (upd H p (.dK ((ks.zip vs).map fun kv => ((Sum.inr kv.1 : Key), kv.2))))) : DRest Q p ps H := by
  refine ⟨e, (ks.zip vs).map fun kv => ((Sum.inr kv.1 : Key), kv.2), ?_, ?_, ?_⟩
  · rw [hp, List.map_map]; rfl
  · rw [List.length_map, List.length_zip]
    have := Nat.le_of_ble_eq_true hl
    omega
  · rw [merge_nd _ [] ?_ (fun _ _ => rfl), List.nil_append]
    · exact q
    · have h1 := of_decide_eq_true nd
      rw [List.map_map]
      have e1 : ((fun kv : Key × V => kv.1) ∘ fun kv : Str × V => ((Sum.inr kv.1 : Key), kv.2)) = fun kv => Sum.inr kv.1 := rfl
      rw [e1]
      have h2 : ∀ (ks : List Str) (vs : List V), ks.Nodup → ((ks.zip vs).map fun kv => (Sum.inr kv.1 : Key)).Nodup := by
        intro ks
        induction ks with
        | nil => intro vs _; exact List.nodup_nil
        | cons a r ih =>
          intro vs h
          cases vs with
          | nil => exact List.nodup_nil
          | cons b t =>
            have h' := List.nodup_cons.mp h
            refine List.nodup_cons.mpr ⟨fun m => ?_, ih t h'.2⟩
            obtain ⟨z, hz, e⟩ := List.mem_map.mp m
            exact h'.1 (by rw [← show z.1 = a from Sum.inr.inj e]; exact (List.of_mem_zip hz).1)
      exact h2 ks vs h1
theorem s_dget2 (q : td σ H fun x H1 => ∃ a, x = .ref a ∧ IsD H1 a ∧ ty σ H1 fun y H2 => tx σ H2 fun z H3 => ∃ o, DGet H3 a y o ∧ Q (o.getD z) H3) : tDGet2 td ty tx σ H Q := q
theorem s_isD {p : Addr} {kvs : List (Key × V)} {R : Addr → Prop} (h : H p = some (.dK kvs)) (q : R p) : ∃ a, V.ref p = .ref a ∧ IsD H a ∧ R a := ⟨p, rfl, .inl ⟨kvs, .inl h⟩, q⟩
theorem s_dgS {p : Addr} {kvs : List (Key × V)} {R : Option V → Prop} {z : Str} {o : Option V} (h : H p = some (.dK kvs)) (e : valV kvs (Sum.inr z) = o) (q : R o) : ∃ o, DGet H p (.str z) o ∧ R o := ⟨o, by rw [← e]; exact DGet.k (k := Sum.inr z) h, q⟩
def DgR (Q : VK) : V → V → Hp → Prop := fun x y H2 => ∃ a v, x = .ref a ∧ DGet H2 a y (some v) ∧ Q v H2
theorem s_dgetq (q : td σ H fun x H1 => ty σ H1 fun y H2 => DgR Q x y H2) : tDGet td ty σ H Q := q
theorem s_dgetS {p : Addr} {kvs : List (Key × V)} {z : Str} {w : V} (h : H p = some (.dK kvs)) (e : valV kvs (Sum.inr z) = some w) (q : Q w H) : DgR Q (.ref p) (.str z) H := ⟨p, w, rfl, by rw [← e]; exact DGet.k (k := Sum.inr z) h, q⟩
theorem s_modP {a b : Int} (h : 0 < b) (q : Q (.int (a % b)) H) : rI (fun _ j => 0 < j) (fun i j => .int (i % j)) (.int a) (.int b) H Q := ⟨a, b, rfl, rfl, h, q⟩
theorem s_fdv {a b : Int} (h : b ≠ 0 ∧ b.natAbs < 1073741824) (q : Q (.int (a.fdiv b)) H) : rI CDivN (fun i j => .int (i.fdiv j)) (.int a) (.int b) H Q := ⟨a, b, rfl, rfl, h, q⟩
theorem s_cat {p1 p2 : Addr} {xs ys : List V} (h1 : H p1 = some (.lst xs)) (h2 : H p2 = some (.lst ys)) (hl : xs.length + ys.length ≤ sizeLine) (q : ∀ p, H p = none → Q (.ref p) (upd H p (.lst (xs ++ ys)))) : rCat (.ref p1) (.ref p2) H Q := ⟨p1, p2, xs, ys, rfl, rfl, h1, h2, hl, q⟩
end
end Y
namespace Y
open PySem L2 C8
section
variable {σ : L2.St} {H : Hp} {Q : VK} {v x y : V} {n k : Nat} {ta te : TE} {tt : TT} {A : TA} {K : PySem.W.Frag}
theorem s_yes {Q : Bool → Hp → Prop} (q : Q true H) : tYes σ H Q := q
/-- what a comprehension has made so far stands at D -/
def LcP (D : Addr) (Inv : Nat → List V → Hp → Prop) (i : Nat) (H : Hp) : Prop := ∃ acc, H D = some (.lst acc) ∧ acc.length ≤ i ∧ Inv i acc H
theorem s_lcE {D : Addr} {Inv : Nat → List V → Hp → Prop} {i : Nat} {acc : List V} (h : H D = some (.lst acc)) (hl : acc.length ≤ i) (hi : (i : Int) < 100000) (inv : Inv (i + 1) (acc ++ [y]) (upd H D (.lst (acc ++ [y])))) :
    ∃ acc, H D = some (.lst acc) ∧ acc.length < sizeLine ∧ LcP D Inv (i + 1) (upd H D (.lst (acc ++ [y]))) :=
  ⟨acc, h, Nat.lt_of_lt_of_le (show acc.length < 100001 by omega) (by decide), acc ++ [y], upd_same, by rw [List.length_append, List.length_singleton]; omega, inv⟩
theorem s_lcN {D : Addr} {Inv : Nat → List V → Hp → Prop} {i : Nat} {acc : List V} (h : H D = some (.lst acc)) (hl : acc.length ≤ i) (inv : Inv (i + 1) acc H) : LcP D Inv (i + 1) H := ⟨acc, h, Nat.le_succ_of_le hl, inv⟩
/-- a comprehension behind its walk's making -/
def LcRest (g : TG) (tt : TT) (te : TE) (vs : List Nat) (σ : L2.St) (Q : VK) : It → Hp → Prop := fun J H1 => ∀ D, H1 D = none → ∃ W : Nat → Nat → Hp → Prop, (∃ m, W 0 m (upd H1 D (.lst []))) ∧ ∀ i m H, W i m H →
  (J.stop i H ∧ Q (.ref D) H) ∨ (J.go i H ∧ ∃ Nx : Hp → Prop, (∀ H', Nx H' → ∃ m', m' < m ∧ W (i + 1) m' H') ∧ ∀ x H', J.yld i H x H' → g x (wipe σ vs) H' fun σ2 H2 => wipe σ2 vs = wipe σ vs ∧ tt σ2 H2 fun b H3 =>
    if b = true then te σ2 H3 fun y H4 => ∃ acc, H4 D = some (.lst acc) ∧ acc.length < sizeLine ∧ Nx (upd H4 D (.lst (acc ++ [y]))) else Nx H3)
/-- a for behind its walk's making -/
def ForRest (g : TG) (tb : TS) (D : Ends) (σ : L2.St) : It → Hp → Prop := fun J H1 => ∃ W : Nat → Nat → L2.St → Hp → Prop, (∃ m, W 0 m σ H1) ∧ ∀ i m σ H, W i m σ H →
  (J.stop i H ∧ D.nx σ H) ∨ (J.go i H ∧ ∃ N : L2.St → Hp → Prop, (∀ σ' H', N σ' H' → ∃ m', m' < m ∧ W (i + 1) m' σ' H') ∧ ∀ x H', J.yld i H x H' → g x σ H' fun σ2 H2 => tb { D with nx := N, ct := N, bk := D.nx } σ2 H2)
def RngRest (R : It → Hp → Prop) : List V → Hp → Prop := fun vs H1 => ∃ j : Int, vs = [.int j] ∧ -(2 ^ 62) ≤ j ∧ j < 2 ^ 62 ∧ R (Itr 0 j.toNat) H1
def LstRest (K : PySem.W.Frag) (R : It → Hp → Prop) : V → Hp → Prop := fun x H1 => ∃ a, x = .ref a ∧ (∃ xs, SqL K H1 a xs) ∧ R (Itl K a) H1
def TupRest (K : PySem.W.Frag) (R : It → Hp → Prop) : V → Hp → Prop := fun x H1 => ∃ a, x = .ref a ∧ (∃ xs, SqT K H1 a xs) ∧ R (Itt K a) H1
theorem s_lc {wi : TI} {g : TG} {vs : List Nat} (q : wi σ H (LcRest g tt te vs σ Q)) : tLc wi g tt te vs σ H Q := q
theorem s_for {wi : TI} {g : TG} {tb : TS} {D : Ends} (q : wi σ H (ForRest g tb D σ)) : tFor wi g tb D σ H := q
theorem s_rng1 {R : It → Hp → Prop} (q : A σ H (RngRest R)) : iRng1 A σ H R := q
theorem s_itl {R : It → Hp → Prop} (q : ta σ H (LstRest K R)) : iList K ta σ H R := q
theorem s_itt {R : It → Hp → Prop} (q : ta σ H (TupRest K R)) : iTup K ta σ H R := q
/-- the rest of a comprehension over a range, its target one name -/
theorem s_lcR {n : Int} (h0 : 0 ≤ n) (h1 : n ≤ 100000) (h : ∀ D, H D = none → ∃ Inv : Nat → List V → Hp → Prop, Inv 0 [] (upd H D (.lst [])) ∧
      (∀ (i : Nat) acc H, (i : Int) < n → acc.length ≤ i → H D = some (.lst acc) → Inv i acc H → tt ((σ.set k none).set k (some (.int (0 + i)))) H fun b H3 =>
        if b = true then te ((σ.set k none).set k (some (.int (0 + i)))) H3 fun y H4 => ∃ acc, H4 D = some (.lst acc) ∧ acc.length < sizeLine ∧ LcP D Inv (i + 1) (upd H4 D (.lst (acc ++ [y]))) else LcP D Inv (i + 1) H3) ∧
      ∀ acc H, H D = some (.lst acc) → acc.length ≤ n.toNat → Inv n.toNat acc H → Q (.ref D) H) :
    RngRest (LcRest (gName k) tt te [k] σ Q) [V.int n] H := by
  refine ⟨n, rfl, by omega, by omega, fun D hD => ?_⟩
  obtain ⟨Inv, i0, ht, hd⟩ := h D hD
  refine lc_range (lo := 0) (n := n.toNat) (LcP D Inv) ⟨[], upd_same, Nat.zero_le _, i0⟩ (fun i H hi p => ?_) (fun H ⟨acc, ha, hl, hv⟩ => hd acc H ha hl hv)
  obtain ⟨acc, ha, hl, hv⟩ := p
  show (((σ.set k none).set k _).set k none) = σ.set k none ∧ _
  refine ⟨by rw [List.set_set, List.set_set], ht i acc H (by omega) hl ha hv⟩
/-- .. over a list -/
theorem s_lcL {a : Addr} {xs : List V} (ha : SqL K H a xs) (h : ∀ D, H D = none → ∃ Inv : Nat → List V → Hp → Prop, Inv 0 [] (upd H D (.lst [])) ∧ (∀ i acc H, H D = some (.lst acc) → Inv i acc H → SqL K H a xs) ∧
      (∀ (i : Nat) x acc H, xs[i]? = some x → acc.length ≤ i → H D = some (.lst acc) → Inv i acc H → tt ((σ.set k none).set k (some x)) H fun b H3 =>
        if b = true then te ((σ.set k none).set k (some x)) H3 fun y H4 => ∃ acc, H4 D = some (.lst acc) ∧ acc.length < sizeLine ∧ LcP D Inv (i + 1) (upd H4 D (.lst (acc ++ [y]))) else LcP D Inv (i + 1) H3) ∧
      ∀ acc H, H D = some (.lst acc) → acc.length ≤ xs.length → Inv xs.length acc H → Q (.ref D) H) :
    LstRest K (LcRest (gName k) tt te [k] σ Q) (V.ref a) H := by
  refine ⟨a, rfl, ⟨xs, ha⟩, fun D hD => ?_⟩
  obtain ⟨Inv, i0, hq, ht, hd⟩ := h D hD
  refine lc_list (K := K) (a := a) (xs := xs) (LcP D Inv) ⟨[], upd_same, Nat.zero_le _, i0⟩ (fun i H _ ⟨acc, ha, _, hv⟩ => hq i acc H ha hv) (fun i x H hi p => ?_) (fun H ⟨acc, ha, hl, hv⟩ => hd acc H ha hl hv)
  obtain ⟨acc, ha, hl, hv⟩ := p
  show (((σ.set k none).set k _).set k none) = σ.set k none ∧ _
  refine ⟨by rw [List.set_set, List.set_set], ht i x acc H hi hl ha hv⟩
/-- the rest of a for over a range -/
theorem s_forR {n : Int} {g : TG} {tb : TS} {D : Ends} (h0 : 0 ≤ n) (h1 : n ≤ 100000) (Pv : Nat → L2.St → Hp → Prop) (p0 : Pv 0 σ H)
    (hs : ∀ (i : Nat) σ H, (i : Int) < n → Pv i σ H → g (.int (0 + i)) σ H fun σ2 H2 => tb { D with nx := Pv (i + 1), ct := Pv (i + 1), bk := D.nx } σ2 H2) (hd : ∀ σ H, Pv n.toNat σ H → D.nx σ H) :
    RngRest (ForRest g tb D σ) [V.int n] H :=
  ⟨n, rfl, by omega, by omega, for_range (lo := 0) (n := n.toNat) Pv p0 (fun i σ H hi p => hs i σ H (by omega) p) hd⟩
/-- .. over a list -/
theorem s_forL {a : Addr} {xs : List V} {g : TG} {tb : TS} {D : Ends} (ha : SqL K H a xs) (Pv : Nat → L2.St → Hp → Prop) (p0 : Pv 0 σ H) (hl : ∀ i σ H, Pv i σ H → SqL K H a xs)
    (hs : ∀ i x σ H, xs[i]? = some x → Pv i σ H → g x σ H fun σ2 H2 => tb { D with nx := Pv (i + 1), ct := Pv (i + 1), bk := D.nx } σ2 H2) (hd : ∀ σ H, Pv xs.length σ H → D.nx σ H) :
    LstRest K (ForRest g tb D σ) (V.ref a) H :=
  ⟨a, rfl, ⟨xs, ha⟩, for_list (K := K) (a := a) (xs := xs) Pv p0 (fun i σ H _ p => hl i σ H p) hs hd⟩
end
end Y
namespace G
open PySem L2 C8
/-- all that was tracked but at a is as it was -/
def Fr (a : Addr) (H H' : Hp) : Prop := ∀ b o, b ≠ a → H b = some o → H' b = some o
theorem Fr.refl (a : Addr) (H : Hp) : Fr a H H := fun _ _ _ h => h
theorem Fr.trans {a : Addr} {H H1 H2 : Hp} (x : Fr a H H1) (y : Fr a H1 H2) : Fr a H H2 := fun b o n h => y b o n (x b o n h)
theorem Fr.upd {a : Addr} {H H1 : Hp} {o : HO} (x : Fr a H H1) : Fr a H (L2.upd H1 a o) := fun b u n h => by rw [upd_ne n]; exact x b u n h
theorem Fr.new {a p : Addr} {H H1 : Hp} {o : HO} (x : Fr a H H1) (hp : H1 p = none) : Fr a H (L2.upd H1 p o) := fun b u n h => by
  rw [upd_ne (ne_of_none (x b u n h) hp)]; exact x b u n h
theorem Fr.free {a p : Addr} {H H1 : Hp} (x : Fr a H H1) (hp : H1 p = none) (n : p ≠ a) : H p = none := by
  cases e : H p with
  | none => rfl
  | some u => rw [x p u n e] at hp; cases hp
/-- as Fr, and a stands -/
theorem sql_upd {K : PySem.W.Frag} {H : Hp} {a b : Addr} {o : HO} {xs : List V} (n : b ≠ a) (h : SqL K H b xs) : SqL K (upd H a o) b xs := by
  rcases h with (h | ⟨u, h⟩) | h
  · exact .inl (.inl (by rw [upd_ne n]; exact h))
  · exact .inl (.inr ⟨u, by rw [upd_ne n]; exact h⟩)
  · exact .inr h
theorem sqt_upd {K : PySem.W.Frag} {H : Hp} {a b : Addr} {o : HO} {xs : List V} (n : b ≠ a) (h : SqT K H b xs) : SqT K (upd H a o) b xs := by
  rcases h with (h | ⟨u, h⟩) | h
  · exact .inl (.inl (by rw [upd_ne n]; exact h))
  · exact .inl (.inr ⟨u, by rw [upd_ne n]; exact h⟩)
  · exact .inr h
theorem sql_fr {K : PySem.W.Frag} {H H' : Hp} {a b : Addr} {xs : List V} (f : Fr a H H') (n : b ≠ a) (h : SqL K H b xs) : SqL K H' b xs := by
  rcases h with (h | ⟨u, h⟩) | h
  · exact .inl (.inl (f _ _ n h))
  · exact .inl (.inr ⟨u, f _ _ n h⟩)
  · exact .inr h
/-! ### the draws -/
/-- a list that nobody may write: locked, or of the written part -/
def Lk (K : PySem.W.Frag) (H : Hp) (s : Addr) (xs : List V) : Prop := (∃ o, H s = some (.frz o (.lst xs))) ∨ ∀ H', SqL K H' s xs
theorem Lk.sq {K : PySem.W.Frag} {H : Hp} {s : Addr} {xs : List V} (h : Lk K H s xs) : SqL K H s xs := by
  rcases h with ⟨o, h⟩ | h
  · exact .inl (.inr ⟨o, h⟩)
  · exact h _
theorem Lk.fr {K : PySem.W.Frag} {H H' : Hp} {s a : Addr} {xs ys : List V} (h : Lk K H s xs) (f : Fr a H H') (e : H a = some (.lst ys)) : Lk K H' s xs := by
  rcases h with ⟨o, h⟩ | h
  · exact .inl ⟨o, f _ _ (ne_of h e (fun z => nomatch z)) h⟩
  · exact .inr h
theorem Lk.upd {K : PySem.W.Frag} {H : Hp} {s a : Addr} {xs ys : List V} {o : HO} (h : Lk K H s xs) (e : H a = some (.lst ys)) : Lk K (L2.upd H a o) s xs := h.fr (Fr.refl a H).upd e
theorem Lk.updD {K : PySem.W.Frag} {H : Hp} {s a : Addr} {xs : List V} {ys : List (Key × V)} {o : HO} (h : Lk K H s xs) (e : H a = some (.dK ys)) : Lk K (L2.upd H a o) s xs := by
  rcases h with ⟨u, h⟩ | h
  · exact .inl ⟨u, by rw [upd_ne (ne_of h e (fun z => nomatch z))]; exact h⟩
  · exact .inr h
theorem Lk.new {K : PySem.W.Frag} {H : Hp} {s a : Addr} {xs : List V} {o : HO} (h : Lk K H s xs) (e : H a = none) : Lk K (L2.upd H a o) s xs := by
  rcases h with ⟨u, h⟩ | h
  · exact .inl ⟨u, by rw [upd_ne (ne_of_none h e)]; exact h⟩
  · exact .inr h
/-- the state of the draws -/
def StAt (K : PySem.W.Frag) (H : Hp) (a : Addr) : Prop := ∃ (s : Addr) (ns : List Int) (i m r : Int), H a = some (.lst [.ref s, .int i, .int m, .int r]) ∧ Lk K H s (ns.map V.int) ∧ 0 ≤ i ∧ 0 ≤ m ∧ m < 2147483647
theorem StAt.lst {K : PySem.W.Frag} {H : Hp} {a : Addr} (h : StAt K H a) : ∃ xs, H a = some (.lst xs) := let ⟨_, _, _, _, _, e, _⟩ := h; ⟨_, e⟩
theorem StAt.spec {K : PySem.W.Frag} {H : Hp} {a : Addr} (h : StAt K H a) : H a = some (.lst (Classical.choose h.lst)) := Classical.choose_spec h.lst
theorem StAt.new {K : PySem.W.Frag} {H : Hp} {a p : Addr} {o : HO} (h : StAt K H a) (hp : H p = none) : StAt K (L2.upd H p o) a := by
  obtain ⟨s, ns, i, m, r, e, q, z⟩ := h
  exact ⟨s, ns, i, m, r, by rw [upd_ne (ne_of_none e hp)]; exact e, q.new hp, z⟩
theorem StAt.own {K : PySem.W.Frag} {H : Hp} {a p : Addr} {xs : List V} {o : HO} (h : StAt K H a) (hp : H p = some (.lst xs)) (n : a ≠ p) : StAt K (L2.upd H p o) a := by
  obtain ⟨s, ns, i, m, r, e, q, z⟩ := h
  exact ⟨s, ns, i, m, r, by rw [upd_ne n]; exact e, q.upd hp, z⟩
theorem StAt.dic {K : PySem.W.Frag} {H : Hp} {a p : Addr} {xs : List (Key × V)} {o : HO} (h : StAt K H a) (hp : H p = some (.dK xs)) : StAt K (L2.upd H p o) a := by
  obtain ⟨s, ns, i, m, r, e, q, z⟩ := h
  exact ⟨s, ns, i, m, r, by rw [upd_ne (ne_of e hp (fun z => nomatch z))]; exact e, q.updD hp, z⟩
theorem Fr.own {a p : Addr} {H H1 : Hp} {o : HO} (x : Fr a H H1) (n : H p = none) : Fr a H (L2.upd H1 p o) := fun b u nb h => by
  rw [upd_ne (ne_of_none h n)]; exact x b u nb h
theorem Fr.at {a b : Addr} {H H' : Hp} {o : HO} (f : Fr a H H') (n : b ≠ a) (h : H b = some o) : H' b = some o := f b o n h
/-- all tuples stay -/
def Tu (H H' : Hp) : Prop := ∀ p xs, H p = some (.tup xs) → H' p = some (.tup xs)
theorem Tu.refl (H : Hp) : Tu H H := fun _ _ h => h
theorem Tu.trans {H H1 H2 : Hp} (x : Tu H H1) (y : Tu H1 H2) : Tu H H2 := fun p xs h => y p xs (x p xs h)
theorem Tu.new {H H1 : Hp} {p : Addr} {o : HO} (x : Tu H H1) (n : H1 p = none) : Tu H (upd H1 p o) := fun q xs h => by
  have h1 := x q xs h
  rw [upd_ne (ne_of_none h1 n)]; exact h1
theorem Tu.lst {H H1 : Hp} {p : Addr} {o : HO} {xs : List V} (x : Tu H H1) (n : H1 p = some (.lst xs)) : Tu H (upd H1 p o) := fun q ys h => by
  have h1 := x q ys h
  rw [upd_ne (ne_of h1 n (fun z => nomatch z))]; exact h1
theorem Tu.dic {H H1 : Hp} {p : Addr} {o : HO} {xs : List (Key × V)} (x : Tu H H1) (n : H1 p = some (.dK xs)) : Tu H (upd H1 p o) := fun q ys h => by
  have h1 := x q ys h
  rw [upd_ne (ne_of h1 n (fun z => nomatch z))]; exact h1
theorem Tu.fr {a : Addr} {H H1 H2 : Hp} {xs : List V} (x : Tu H H1) (f : Fr a H1 H2) (n : H1 a = some (.lst xs)) : Tu H H2 := fun q ys h => by
  have h1 := x q ys h
  exact f _ _ (ne_of h1 n (fun z => nomatch z)) h1
end G
namespace Y
open PySem L2 C8
theorem at_str {ws : List Str} {i : Int} (h0 : 0 ≤ i) (h1 : i < ws.length) : ∃ w, atI (ws.map V.str) i = some (.str w) ∧ w ∈ ws := by
  have e : ws[i.toNat]? = some ws[i.toNat] := List.getElem?_eq_getElem (by omega)
  exact ⟨_, at_of (j := i.toNat) (by omega) (by rw [List.getElem?_map, e]; rfl), List.getElem_mem _⟩
end Y
namespace Y
open PySem L2 G
theorem ne1 {H : Hp} {a b : Addr} {o : HO} (n : H b = none) (h : H a = some o) : a ≠ b := ne_of_none h n
theorem ne2 {H : Hp} {a b : Addr} {o : HO} (n : H b = none) (h : H a = some o) : b ≠ a := (ne_of_none h n).symm
theorem hp_ne {H : Hp} {a b : Addr} {o u : HO} (n : b ≠ a) (h : H b = some u) : upd H a o b = some u := (upd_ne n).trans h
theorem st_new {K : PySem.W.Frag} {H : Hp} {a p : Addr} {o : HO} (hp : H p = none) (h : StAt K H a) : StAt K (L2.upd H p o) a := h.new hp
theorem st_own {K : PySem.W.Frag} {H : Hp} {a p : Addr} {xs : List V} {o : HO} (hp : H p = some (.lst xs)) (n : a ≠ p) (h : StAt K H a) : StAt K (L2.upd H p o) a := h.own hp n
theorem st_dic {K : PySem.W.Frag} {H : Hp} {a p : Addr} {xs : List (Key × V)} {o : HO} (hp : H p = some (.dK xs)) (h : StAt K H a) : StAt K (L2.upd H p o) a := h.dic hp
theorem fr_new {a p : Addr} {H H1 : Hp} {o : HO} (n : H1 p = none) (x : Fr a H H1) : Fr a H (L2.upd H1 p o) := x.new n
theorem fr_own {a p : Addr} {H H1 : Hp} {o : HO} (n : H p = none) (x : Fr a H H1) : Fr a H (L2.upd H1 p o) := x.own n
theorem fr_tr {a : Addr} {H H1 H2 : Hp} (y : Fr a H1 H2) (x : Fr a H H1) : Fr a H H2 := x.trans y
theorem tu_new {H H1 : Hp} {p : Addr} {o : HO} (n : H1 p = none) (x : Tu H H1) : Tu H (L2.upd H1 p o) := x.new n
theorem tu_lst {H H1 : Hp} {p : Addr} {o : HO} {xs : List V} (n : H1 p = some (.lst xs)) (x : Tu H H1) : Tu H (L2.upd H1 p o) := x.lst n
theorem tu_dic {H H1 : Hp} {p : Addr} {o : HO} {xs : List (Key × V)} (n : H1 p = some (.dK xs)) (x : Tu H H1) : Tu H (L2.upd H1 p o) := x.dic n
theorem tu_fr {K : PySem.W.Frag} {a : Addr} {H H1 H2 : Hp} (f : Fr a H1 H2) (s : StAt K H1 a) (x : Tu H H1) : Tu H H2 := x.fr f s.spec
theorem tu_tr {H H1 H2 : Hp} (y : Tu H1 H2) (x : Tu H H1) : Tu H H2 := x.trans y
end Y
namespace Y
open PySem L2 C8
section
variable {H : Hp} {Q : VK} {x : V} {K : PySem.W.Frag} {p : Addr} {S T : String}
/-! isinstance -/
theorem s_isi {b : Bool} (ty : TyX K H x (.type S)) (k : kitB S T = some b) (q : Q (.bl b) H) : rIsi K [x, .ty T] H Q := ⟨x, .ty T, .type S, .type T, b, rfl, .ty T, ty, kit_ty k, q⟩
theorem kit2 {T1 T2 : String} {b : Bool} (k : (match kitB S T1 with | some true => some true | some false => kitB S T2 | none => none) = some b) : PySem.W.kitAny K (.type S) [.type T1, .type T2] = some b := by
  have e1 : PySem.W.kitOne K (.type S) (.type T1) = kitB S T1 := rfl
  have e2 : PySem.W.kitOne K (.type S) (.type T2) = kitB S T2 := rfl
  unfold PySem.W.kitAny
  rw [e1]
  cases h1 : kitB S T1 with
  | none => rw [h1] at k; cases k
  | some c =>
    rw [h1] at k
    cases c with
    | true => exact k
    | false =>
      show PySem.W.kitAny K (.type S) [.type T2] = some b
      unfold PySem.W.kitAny
      rw [e2]
      have k' : kitB S T2 = some b := k
      rw [k']
      cases b <;> rfl
theorem s_isi2 {T1 T2 : String} {b : Bool} {cs : List V} (hT : H p = some (.tup cs)) (hc : cs = [.ty T1, .ty T2]) (ty : TyX K H x (.type S)) (k : (match kitB S T1 with | some true => some true | some false => kitB S T2 | none => none) = some b) (q : Q (.bl b) H) : rIsiT K [x, .ref p] H Q :=
  ⟨x, p, [.ty T1, .ty T2], .type S, [.type T1, .type T2], b, rfl, by rw [← hc]; exact hT, .cons (.ty _) (.cons (.ty _) .nil), ty, kit2 k, q⟩
theorem ty_i {i : Int} : TyX K H (.int i) (.type "int") := .base (.int i)
theorem ty_s {i : Str} : TyX K H (.str i) (.type "str") := .base (.str i)
theorem ty_b {i : Bool} : TyX K H (.bl i) (.type "bool") := .base (.bl i)
theorem ty_n : TyX K H .non (.type "NoneType") := .base .non
theorem ty_l {xs : List V} (e : H p = some (.lst xs)) : TyX K H (.ref p) (.type "list") := .base (.lst e)
theorem ty_t {xs : List V} (e : H p = some (.tup xs)) : TyX K H (.ref p) (.type "tuple") := .base (.tup e)
end
end Y
namespace Y
open PySem L2 C8
/-- a built-in class as a value -/
theorem pe_bty {X : Cx} {x : Str} {pos : Pos} {T : String} (hg : Gl X x) (hm : X.mg x = none) (hv : bootBuiltins x = some (.type T)) (hn : x ≠ "__name__" := by decide) (hd : (x == ("__debug__" : Str)) = false := by decide) : PE X (.Name x pos) (tC (.ty T)) :=
  pe_bltn (v := .ty T) hg hm hv rfl (hn := hn) (hd := hd)
end Y
namespace Y
open PySem L2 C8
section
variable {σ : L2.St} {H : Hp} {Q : VK} {x y : V} {K : PySem.W.Frag} {p p1 p2 : Addr}
theorem s_isNn (q : Q (.bl true) H) : rIsN .non .non H Q := ⟨rfl, q⟩
theorem s_isNF (h : x ≠ .non) (q : Q (.bl false) H) : rIsN x .non H Q := ⟨rfl, by rw [decide_eq_false h]; exact q⟩
theorem s_notNn (q : Q (.bl false) H) : rNotN .non .non H Q := ⟨rfl, q⟩
theorem s_notNF (h : x ≠ .non) (q : Q (.bl true) H) : rNotN x .non H Q := ⟨rfl, by rw [decide_eq_false h]; exact q⟩
theorem nn_ref : V.ref p ≠ .non := fun z => nomatch z
theorem nn_int {i : Int} : V.int i ≠ .non := fun z => nomatch z
theorem nn_str {i : Str} : V.str i ≠ .non := fun z => nomatch z
theorem nn_bl {i : Bool} : V.bl i ≠ .non := fun z => nomatch z
/-- [] == [] -/
theorem s_eqNil (h1 : SqL K H p1 []) (h2 : SqL K H p2 []) (q : Q (.bl true) H) : rEqD K (.ref p1) (.ref p2) H Q :=
  ⟨.list [], .list [], .lst h1 .nil, .lst h2 .nil, by decide +kernel, by decide +kernel, q⟩
theorem same_new {H H1 : Hp} {o : HO} (n : H1 p = none) (x : Same H H1) : Same H (upd H1 p o) := fun b u e => by
  have h1 := x b u e
  rw [upd_ne (ne_of_none h1 n)]; exact h1
theorem same_own {H H1 : Hp} {o : HO} (n : H p = none) (x : Same H H1) : Same H (upd H1 p o) := fun b u e => by
  rw [upd_ne (ne_of_none e n)]; exact x b u e
theorem same_tr {H H1 H2 : Hp} (y : Same H1 H2) (x : Same H H1) : Same H H2 := fun b u e => y b u (x b u e)
theorem same_hp {H H1 : Hp} {a : Addr} {o : HO} (y : Same H H1) (h : H a = some o) : H1 a = some o := y _ _ h
end
end Y
namespace Y
open PySem PySem.Spec PyProof.Rows L2 C8
/-- e(..), e an expression that gives one of the defs of S, which make one promise -/
def tCallF (S : Addr → Prop) (sp : Sp) (tf : TE) (t : TA) : TE := fun σ H Q => tf σ H fun y H1 => ∃ f, y = .ref f ∧ S f ∧ t σ H1 fun vs H2 => sp vs H2 Q C8.E0
theorem pe_cf {X : Cx} {S : Addr → Prop} {sp : Sp} {k j : Nat} {fe e : Expr} {es : List Expr} {pos : Pos} {tf : TE} {t : TA} (A : ∀ f, S f → CalAt X.prog X.w X.K X.mg X.base k f sp) (hr : Room j X.A) (hk : k ≤ j) (hf : PE X fe tf) (ha : PA X (e :: es) t)
    (ht : eval (.Call fe (e :: es) [] pos) X.env = (do callWith pos (← eval fe X.env) [] (backTo pos (starEach (e :: es) X.env)) (backToKw pos (keywordEach [] X.env))) := by rfl)
    (he : starEach (e :: es) X.env = (false, eval e X.env) :: starEach es X.env := by rfl) (hpl : (backTo pos (starEach es X.env)).any (·.1) = false := by rfl) : PE X (.Call fe (e :: es) [] pos) (tCallF S sp tf t) := by
  refine ⟨fun pins s σ H Q I h => ?_⟩
  refine Call_ (thn (hf.run pins s σ H _ I h) fun u s1 ⟨y, H1, I1, ry, f, ey, hSf, q⟩ => ?_) ht
  subst ey
  obtain rfl : u = Value.ref f := ry
  obtain ⟨fd, ps, F, kp, b⟩ := (A f hSf).ex
  refine PySem.W.callWith_K (h₀ := X.base) I1.ok.mod.kin kp (thn (ha.run pos pins s1 σ _ _ I1 q) fun us s2 ⟨vs, H2, I2, r, q2⟩ => ⟨I2.kIn, ?_⟩) he hpl
  exact run_fn F (hr.mono hk) b .nil C8.pass0 I2 r (by rw [List.append_nil]; exact q2)
theorem s_cf {S : Addr → Prop} {sp : Sp} {tf : TE} {t : TA} {σ : L2.St} {H : Hp} {Q : VK} (q : tf σ H fun y H1 => ∃ f, y = .ref f ∧ S f ∧ t σ H1 fun vs H2 => sp vs H2 Q C8.E0) : tCallF S sp tf t σ H Q := q
theorem calAt_of {P : Program} {w : World} {K : PySem.W.Frag} {mg : Str → Option Value} {base : Heap} {k : Nat} {x : Str} {sp : Sp} {f : Addr} (c : Cal P w K mg base k x sp []) (g : mg x = some (.ref f)) : CalAt P w K mg base k f sp := by
  obtain ⟨f', fd, ps, ds, F, hm, kp, b, d⟩ := c.ex
  rw [g] at hm
  cases hm
  cases d
  exact ⟨fd, ps, F, kp, b⟩
theorem s_repT {K : PySem.W.Frag} {H : Hp} {Q : VK} {p : Addr} {xs : List V} {k : Int} (h : SqT K H p xs) (h0 : xs ≠ []) (h1 : 2 ≤ k) (h2 : k ≤ 1000) (h3 : xs.length ≤ 1000) (q : ∀ p, H p = none → Q (.ref p) (upd H p (.tup (List.replicate k.toNat xs).flatten))) : rRepT K (.ref p) (.int k) H Q := ⟨p, k, xs, rfl, rfl, h, h0, h1, h2, h3, q⟩
end Y
namespace Y
open PySem L2
/-- at a statement's begin: only this is kept of the heap -/
theorem fgt {R : Hp → Prop} {H : Hp} (Φ : Hp → Prop) (h : Φ H) (q : ∀ H', Φ H' → R H') : R H := q H h
end Y
namespace G
open PySem L2 C8
/-- a tuple: tracked, or of the written part -/
def TpAt (K : PySem.W.Frag) (H : Hp) (p : Addr) (xs : List V) : Prop := H p = some (.tup xs) ∨ ∀ H', SqT K H' p xs
theorem TpAt.sq {K : PySem.W.Frag} {H : Hp} {p : Addr} {xs : List V} (h : TpAt K H p xs) : SqT K H p xs := by
  rcases h with h | h
  · exact SqT.of h
  · exact h H
theorem TpAt.tu {K : PySem.W.Frag} {H H' : Hp} {p : Addr} {xs : List V} (h : TpAt K H p xs) (f : Tu H H') : TpAt K H' p xs := by
  rcases h with h | h
  · exact .inl (f _ _ h)
  · exact .inr h
theorem TpAt.same {K : PySem.W.Frag} {H H' : Hp} {p : Addr} {xs : List V} (h : TpAt K H p xs) (s : Same H H') : TpAt K H' p xs := by
  rcases h with h | h
  · exact .inl (s _ _ h)
  · exact .inr h
theorem TpAt.new {K : PySem.W.Frag} {H : Hp} {p q : Addr} {o : HO} {xs : List V} (n : H q = none) (h : TpAt K H p xs) : TpAt K (upd H q o) p xs := by
  rcases h with h | h
  · exact .inl (by rw [upd_ne (ne_of_none h n)]; exact h)
  · exact .inr h
theorem TpAt.ne {K : PySem.W.Frag} {H : Hp} {p q : Addr} {o : HO} {xs : List V} (n : p ≠ q) (h : TpAt K H p xs) : TpAt K (upd H q o) p xs := by
  rcases h with h | h
  · exact .inl (by rw [upd_ne n]; exact h)
  · exact .inr h
theorem ta_same {K : PySem.W.Frag} {H H' : Hp} {p : Addr} {xs : List V} (s : Same H H') (h : TpAt K H p xs) : TpAt K H' p xs := h.same s
theorem TpAt.ty {K : PySem.W.Frag} {H : Hp} {p : Addr} {xs : List V} (h : TpAt K H p xs) : TyX K H (.ref p) (.type "tuple") := by
  rcases h with h | h
  · exact .base (.tup h)
  · rcases h (fun _ => none) with (z | ⟨o, z⟩) | ⟨o, its, n, e1, e2, _⟩
    · cases z
    · cases z
    · exact .kTuple e1 e2
end G
local macro_rules
  | `(tactic| walk_at "len") => `(tactic| first
    | exact Nat.le_trans (m := 1000) (Nat.le_of_ble_eq_true rfl) (by decide)
    | (simp only [List.length_append, List.length_cons, List.length_nil, List.length_map, List.length_take, List.length_drop, List.length_replicate]; exact Nat.le_trans (m := 100000) (by omega) (by decide)))
local macro_rules
  | `(tactic| walk_at "as") => `(tactic| with_reducible assumption)
local macro_rules
  | `(tactic| walk_at "ne") => `(tactic| first
    | walk_at "as"
    | ((with_reducible apply Ne.symm); walk_at "as")
    | ((with_reducible apply Y.ne1); (focus walk_at "as"); (focus walk_at "hp"))
    | ((with_reducible apply Y.ne2); (focus walk_at "as"); (focus walk_at "hp")))
local macro_rules
  | `(tactic| walk_at "hp") => `(tactic| first
    | walk_at "as"
    | with_reducible exact L2.upd_same
    | ((with_reducible apply Y.hp_ne); (focus walk_at "ne"); (focus walk_at "hp"))
    | ((with_reducible apply G.StAt.spec); (focus walk_at "as"))
    | ((with_reducible apply Y.same_hp); (focus walk_at "as"); (focus walk_at "hp"))
    | ((with_reducible apply G.Fr.at); (focus walk_at "as"); (focus walk_at "ne"); (focus walk_at "hp")))
local macro_rules
  | `(tactic| walk_at "st") => `(tactic| first
    | walk_at "as"
    | ((with_reducible apply Y.st_new); (focus walk_at "as"); (focus walk_at "st"))
    | ((with_reducible apply Y.st_own); (focus walk_at "hp"); (focus walk_at "ne"); (focus walk_at "st"))
    | ((with_reducible apply Y.st_dic); (focus walk_at "hp"); (focus walk_at "st")))
local macro_rules
  | `(tactic| walk_at "fr") => `(tactic| first
    | walk_at "as"
    | with_reducible apply G.Fr.refl
    | ((with_reducible apply Y.fr_new); (focus walk_at "as"); (focus walk_at "fr"))
    | ((with_reducible apply Y.fr_own); (focus walk_at "as"); (focus walk_at "fr"))
    | ((with_reducible apply Y.fr_tr); (focus walk_at "as"); (focus walk_at "fr")))
local macro_rules
  | `(tactic| walk_at "sm") => `(tactic| first
    | walk_at "as"
    | with_reducible apply L2.Same.refl
    | ((with_reducible apply Y.same_new); (focus walk_at "as"); (focus walk_at "sm"))
    | ((with_reducible apply Y.same_own); (focus walk_at "as"); (focus walk_at "sm"))
    | ((with_reducible apply Y.same_tr); (focus walk_at "as"); (focus walk_at "sm")))
local macro_rules
  | `(tactic| walk_at "tu") => `(tactic| first
    | walk_at "as"
    | with_reducible apply G.Tu.refl
    | ((with_reducible apply Y.tu_new); (focus walk_at "as"); (focus walk_at "tu"))
    | ((with_reducible apply Y.tu_lst); (focus walk_at "hp"); (focus walk_at "tu"))
    | ((with_reducible apply Y.tu_dic); (focus walk_at "hp"); (focus walk_at "tu"))
    | ((with_reducible apply Y.tu_fr); (focus walk_at "as"); (focus walk_at "st"); (focus walk_at "tu"))
    | ((with_reducible apply Y.tu_tr); (focus walk_at "as"); (focus walk_at "tu")))
local macro_rules
  | `(tactic| walk_at "sq") => `(tactic| first
    | walk_at "as"
    | ((with_reducible apply L2.SqL.of); (focus walk_at "hp"))
    | ((with_reducible apply L2.SqT.of); (focus walk_at "hp"))
    | ((with_reducible apply G.TpAt.sq); (focus walk_at "ta")))
local macro_rules
  | `(tactic| walk_at "ta") => `(tactic| first
    | walk_at "as"
    | ((with_reducible apply G.TpAt.new); (focus walk_at "as"); (focus walk_at "ta"))
    | ((with_reducible apply G.TpAt.ne); (focus walk_at "ne"); (focus walk_at "ta"))
    | ((with_reducible apply G.ta_same); (focus walk_at "as"); (focus walk_at "ta")))
local macro_rules
  | `(tactic| walk_at "ty") => `(tactic| first
    | exact Y.ty_i
    | exact Y.ty_s
    | exact Y.ty_b
    | exact Y.ty_n
    | ((refine' Y.ty_l (xs := ?tyxs) ?tyh); (case' tyh => walk_at "hp"))
    | ((refine' Y.ty_t (xs := ?tyxt) ?tyt); (case' tyt => walk_at "hp"))
    | ((refine' G.TpAt.ty (xs := ?tyxk) ?tyk); (case' tyk => walk_at "ta")))
local macro_rules
  | `(tactic| walk_at "t1") => `(tactic| first
    | ((with_reducible refine' Y.s_var (v := ?v) ?h ?q); (case' h => rfl))
    | with_reducible refine Y.s_c ?_
    | with_reducible refine Y.s_cons ?_
    | with_reducible refine Y.s_nil ?_
    | with_reducible refine Y.s_op ?_
    | ((with_reducible refine Y.s_nxq ?_); (with_reducible refine Y.s_nx ?_))
    | with_reducible refine Y.s_asg ?_
    | with_reducible refine Y.s_gName ?_
    | with_reducible refine Y.s_test ?_
    | with_reducible refine Y.s_bl ?_
    | with_reducible refine Y.s_T ?_
    | with_reducible refine Y.s_F ?_
    | with_reducible refine Y.s_ifS ?_
    | with_reducible refine Y.s_rI0 ?_
    | with_reducible refine Y.s_cb ?_
    | with_reducible refine Y.s_call ?_
    | with_reducible refine Y.s_ret ?_
    | with_reducible refine Y.s_retN ?_
    | ((with_reducible refine Y.s_rtq ?_); (with_reducible refine Y.s_rt ?_))
    | ((with_reducible refine' Y.s_ixL (xs := ?xs) (w := ?w) ?h ?e ?q); (case' h => walk_at "sq"); (case' e => rfl))
    | ((with_reducible refine' Y.s_ixL' (xs := ?xs) (w := ?w) ?h ?e ?q); (case' h => walk_at "sq"); (case' e => rfl))
    | with_reducible refine Y.s_tup ?_
    | ((with_reducible refine' Y.s_tupleL (xs := ?xs) ?h ?q); (case' h => walk_at "sq"))
    | ((with_reducible refine' Y.s_tupleT (xs := ?xs) ?h ?q); (case' h => walk_at "sq"))
    | with_reducible refine Y.s_eqS ?_
    | with_reducible refine Y.s_eqI ?_
    | with_reducible refine Y.s_gSub ?_
    | with_reducible refine Y.s_drop ?_
    | with_reducible refine Y.s_next ?_
    | with_reducible refine Y.s_un ?_
    | with_reducible refine Y.s_rU ?_
    | with_reducible refine Y.s_neI ?_
    | with_reducible refine Y.s_neS ?_
    | with_reducible refine Y.s_tB ?_
    | with_reducible refine Y.s_and ?_
    | with_reducible refine Y.s_or ?_
    | with_reducible refine Y.s_not ?_
    | with_reducible refine Y.s_if ?_
    | with_reducible refine Y.s_andV ?_
    | with_reducible refine Y.s_orV ?_
    | with_reducible refine Y.s_notV ?_
    | with_reducible refine Y.s_cf ?_
    | with_reducible refine Y.s_lst ?_
    | with_reducible refine Y.s_NT ?_
    | with_reducible refine Y.s_NF ?_
    | ((with_reducible refine' Y.s_ixT (xs := ?xs) (w := ?w) ?h ?e ?q); (case' h => walk_at "sq"); (case' e => rfl))
    | ((with_reducible refine' Y.s_ixT' (xs := ?xs) (w := ?w) ?h ?e ?q); (case' h => walk_at "sq"); (case' e => rfl))
    | with_reducible refine Y.s_pnil ?_
    | with_reducible refine Y.s_yes ?_
    | with_reducible refine Y.s_lc ?_
    | with_reducible refine Y.s_for ?_
    | with_reducible refine Y.s_rng1 ?_
    | with_reducible refine Y.s_itl ?_
    | with_reducible refine Y.s_itt ?_
    | with_reducible refine Y.s_pcons ?_
    | with_reducible refine Y.s_disp ?_
    | with_reducible refine Y.s_dget2 ?_
    | with_reducible refine Y.s_dgetq ?_
    | ((with_reducible refine' Y.s_modP ?h ?q); (case' h => decide +kernel))
    | ((with_reducible refine' Y.s_fdv ?h ?q); (case' h => decide +kernel))
    | ((with_reducible refine' Y.s_dgetS (kvs := ?kvs) (w := ?w) ?h ?e ?q); (case' h => walk_at "hp"); (case' e => rfl))
    | ((with_reducible refine' Y.s_isD (kvs := ?kvs) ?h ?q); (case' h => walk_at "hp"))
    | ((with_reducible refine' Y.s_inT (xs := ?xs) (b := true) ?h ?a ?b ?e ?q); (case' h => walk_at "sq"); (case' a => rfl); (case' b => rfl); (case' e => decide +kernel))
    | ((with_reducible refine' Y.s_inT (xs := ?xs) (b := false) ?h ?a ?b ?e ?q); (case' h => walk_at "sq"); (case' a => rfl); (case' b => rfl); (case' e => decide +kernel))
    | ((with_reducible refine' Y.s_dT ?h ?q); (case' h => decide +kernel))
    | ((with_reducible refine' Y.s_dF ?h ?q); (case' h => decide +kernel))
    | ((with_reducible refine' Y.s_dNT ?h ?q); (case' h => decide +kernel))
    | ((with_reducible refine' Y.s_dNF ?h ?q); (case' h => decide +kernel))
    | ((with_reducible refine' Y.s_cat (xs := ?xs) (ys := ?ys) ?h1 ?h2 ?hl ?q); (case' h1 => walk_at "hp"); (case' h2 => walk_at "hp"); (case' hl => walk_at "len"))
    | ((with_reducible refine' Y.s_setL (xs := ?xs) (k := ?k) ?h ?e ?q); (case' h => walk_at "hp"); (case' e => rfl))
    | ((with_reducible refine' Y.s_isi (S := ?sS) (b := true) ?sty ?sk ?sq); (case' sty => walk_at "ty"); (case' sk => decide +kernel))
    | ((with_reducible refine' Y.s_isi2 (S := ?sS) (cs := ?scs) (T1 := ?sT1) (T2 := ?sT2) (b := true) ?shT ?shc ?sty ?sk ?sq); (case' shT => walk_at "hp"); (case' shc => rfl); (case' sty => walk_at "ty"); (case' sk => decide +kernel))
    | ((with_reducible refine' Y.s_isi (S := ?sS) (b := false) ?sty ?sk ?sq); (case' sty => walk_at "ty"); (case' sk => decide +kernel))
    | ((with_reducible refine' Y.s_isi2 (S := ?sS) (cs := ?scs) (T1 := ?sT1) (T2 := ?sT2) (b := false) ?shT ?shc ?sty ?sk ?sq); (case' shT => walk_at "hp"); (case' shc => rfl); (case' sty => walk_at "ty"); (case' sk => decide +kernel))
    | with_reducible refine Y.s_isNn ?_
    | with_reducible refine Y.s_isNF Y.nn_ref ?_
    | with_reducible refine Y.s_isNF Y.nn_int ?_
    | with_reducible refine Y.s_isNF Y.nn_str ?_
    | with_reducible refine Y.s_isNF Y.nn_bl ?_
    | with_reducible refine Y.s_notNn ?_
    | with_reducible refine Y.s_notNF Y.nn_ref ?_
    | with_reducible refine Y.s_notNF Y.nn_int ?_
    | with_reducible refine Y.s_notNF Y.nn_str ?_
    | with_reducible refine Y.s_notNF Y.nn_bl ?_
    | ((with_reducible refine' Y.s_ne ?snh ?snq); (case' snh => rfl))
    | ((with_reducible refine' Y.s_eq ?snh ?snq); (case' snh => rfl))
    | with_reducible refine Y.s_intI ?_
    | with_reducible refine Y.s_intB ?_
    | ((with_reducible refine' Y.s_lenL (xs := ?xs) ?h ?q); (case' h => walk_at "sq"))
    | ((with_reducible refine' Y.s_lenT (xs := ?xs) ?h ?q); (case' h => walk_at "sq"))
    | ((with_reducible refine' Y.s_listL (xs := ?xs) ?h ?q); (case' h => walk_at "sq"))
    | ((with_reducible refine' Y.s_listT (xs := ?xs) ?h ?q); (case' h => walk_at "sq")))
local macro_rules
  | `(tactic| walk_at "s1") => `(tactic| first | walk_at "t1" | with_reducible refine Y.s_seq ?_)
local macro_rules
  | `(tactic| walk_at "t") => `(tactic| repeat walk_at "t1")
local macro_rules
  | `(tactic| walk_at "s") => `(tactic| repeat walk_at "s1")
local macro_rules
  | `(tactic| walk_at "b") => `(tactic| (dsimp only [L2.cxOf, L2.Cx.nox, L2.start, List.map, List.length, List.replicate, List.cons_append, List.nil_append, Nat.add_sub_add_right, Nat.sub_zero, Nat.zero_add, Nat.reduceAdd, Nat.reduceSub]; walk_at "s"))
section
/-! ### the head's hook, with one more Bool of the part of the heap -/
namespace G
open PySem PySem.Spec L2
def IntG (mg : Str → Option Value) (x : Str) (i : Int) : Prop := ∃ u, mg x = some u ∧ RelV (.int i) u
def StrG (mg : Str → Option Value) (x z : Str) : Prop := ∃ u, mg x = some u ∧ RelV (.str z) u
def TupG (K : PySem.W.Frag) (mg : Str → Option Value) (x : Str) (vs : List V) : Prop := ∃ a : Addr, (∃ u, mg x = some u ∧ RelV (.ref a) u) ∧ ∀ H : Hp, SqT K H a vs
def itemAt (x : Str) (i : Nat) (K : PySem.W.Frag) : Addr := match K.lookup (He.ga K x) with
  | some ⟨_, _, .seq its _, _⟩ => (match its.toList[i]? with
    | some (.ref a) => a
    | _ => 0)
  | _ => 0
def exAll (ex : List (PySem.W.Frag → Bool)) (K : PySem.W.Frag) : Bool := ex.all fun e => e K
theorem ex_at {ex : List (PySem.W.Frag → Bool)} {K : PySem.W.Frag} (i : Nat) (h : exAll ex K = true) {e : PySem.W.Frag → Bool} (hi : ex[i]? = some e) : e K = true :=
  List.all_eq_true.mp h e (List.mem_of_getElem? hi)
abbrev AlE : Type := He.AlT × Bool
section
variable (n : Nat) (fa : List He.Fa) (fn : List He.DefD) (ts : List He.Tab) (ex : List (PySem.W.Frag → Bool))
structure SaysE (w : World) (K : PySem.W.Frag) : Prop where
  t : He.SaysT fa fn ts w K
  ex : exAll ex K = true
def obE (g : Addr → Option Obj) : AlE := (He.obsTG n fa fn ts g, exAll ex (He.frG g (He.asD g n)))
def hookE : PySem.W.Hook where
  α := AlE
  obs := fun s => obE n fa fn ts ex s.heap.get?
  val := fun w => (He.valT fn ts w, true)
  says := fun w h => ∃ K : PySem.W.Frag, K.In h ∧ SaysE fa fn ts ex w K
  of := fun _ _ e => ⟨_, He.frG_in, congrArg (fun z : AlE => z.1) e, congrArg (fun z : AlE => z.2) e⟩
  keeps := fun _ _ _ ⟨K, hK, c⟩ k => ⟨K, PySem.W.Frag.In.keeps hK k, c⟩
theorem obE_eq {g : Addr → Option Obj} {s : Shared} (h : ∀ a, g a = s.heap.get? a) : obE n fa fn ts ex g = (hookE n fa fn ts ex).obs s := by
  have e : g = s.heap.get? := funext h
  rw [e] <;> rfl
end
end G
end
section
/-! ### more readings: tuples walked, zip of tuples, all, not in, == of lists of truths, and of two truths -/
namespace Y
open PySem L2 C8
section
variable {σ : L2.St} {H : Hp} {Q : VK} {v x y : V} {n k : Nat} {ta tb te : TE} {tt : TT} {A : TA} {K : PySem.W.Frag} {p p1 p2 : Addr} {xs ys : List V}
theorem cl_all {X : Cx} (hc : X.calm = true) : CallR X (.builtin "all") (rAll X.K) := cr_all hc
theorem cl_any {X : Cx} (hc : X.calm = true) : CallR X (.builtin "any") (rAny X.K) := cr_any hc
theorem s_all {bs : List Bool} (h : SqL K H p (bs.map V.bl)) (q : Q (.bl (bs.all id)) H) : rAll K [.ref p] H Q := ⟨p, bs, rfl, h, q⟩
theorem s_any {bs : List Bool} (h : SqL K H p (bs.map V.bl)) (q : Q (.bl (bs.any id)) H) : rAny K [.ref p] H Q := ⟨p, bs, rfl, h, q⟩
theorem s_ninT {b : Bool} (h : SqT K H p xs) (hx : flatV x = true) (hs : xs.all flatV = true) (hb : inV x xs = b) (q : Q (.bl (!b)) H) : rIn K true x (.ref p) H Q := ⟨p, xs, rfl, .inr h, hx, hs, by rw [hb]; exact q⟩
theorem all_true (n : Nat) : (List.replicate n true).all id = true := by induction n with
  | zero => rfl
  | succ n ih => rw [List.replicate_succ]; exact ih
theorem inV_strs (w : Str) : ∀ ws : List Str, inV (.str w) (ws.map V.str) = ws.contains w
  | [] => rfl
  | z :: r => by
    have h := inV_strs w r
    show (eqV (.str z) (.str w) || inV (.str w) (r.map V.str)) = (z :: r).contains w
    rw [h, List.contains_cons]
    show (z == w || _) = _
    rw [show (z == w) = (w == z) from by rw [Bool.eq_iff_iff, beq_iff_eq, beq_iff_eq]; exact ⟨Eq.symm, Eq.symm⟩]
theorem flat_strs : ∀ ws : List Str, (ws.map V.str).all flatV = true
  | [] => rfl
  | _ :: r => flat_strs r
/-- .. over a tuple -/
theorem s_lcT {a : Addr} (ha : SqT K H a xs) (h : ∀ D, H D = none → ∃ Inv : Nat → List V → Hp → Prop, Inv 0 [] (upd H D (.lst [])) ∧ (∀ i acc H, H D = some (.lst acc) → Inv i acc H → SqT K H a xs) ∧
      (∀ (i : Nat) x acc H, xs[i]? = some x → acc.length ≤ i → H D = some (.lst acc) → Inv i acc H → tt ((σ.set k none).set k (some x)) H fun b H3 =>
        if b = true then te ((σ.set k none).set k (some x)) H3 fun y H4 => ∃ acc, H4 D = some (.lst acc) ∧ acc.length < sizeLine ∧ LcP D Inv (i + 1) (upd H4 D (.lst (acc ++ [y]))) else LcP D Inv (i + 1) H3) ∧
      ∀ acc H, H D = some (.lst acc) → acc.length ≤ xs.length → Inv xs.length acc H → Q (.ref D) H) :
    TupRest K (LcRest (gName k) tt te [k] σ Q) (V.ref a) H := by
  refine ⟨a, rfl, ⟨xs, ha⟩, fun D hD => ?_⟩
  obtain ⟨Inv, i0, hq, ht, hd⟩ := h D hD
  refine lc_tup (K := K) (a := a) (xs := xs) (LcP D Inv) ⟨[], upd_same, Nat.zero_le _, i0⟩ (fun i H _ ⟨acc, ha, _, hv⟩ => hq i acc H ha hv) (fun i x H hi p => ?_) (fun H ⟨acc, ha, hl, hv⟩ => hd acc H ha hl hv)
  obtain ⟨acc, ha, hl, hv⟩ := p
  show (((σ.set k none).set k _).set k none) = σ.set k none ∧ _
  refine ⟨by rw [List.set_set, List.set_set], ht i x acc H hi hl ha hv⟩
/-- zip, behind its arguments -/
def ZipRest (K : PySem.W.Frag) (R : It → Hp → Prop) : List V → Hp → Prop := fun vs H1 => ∃ a b xs ys, vs = [.ref a, .ref b] ∧ ((SqL K H1 a xs ∧ SqL K H1 b ys ∧ R (Itz K a b) H1) ∨ (SqT K H1 a xs ∧ SqT K H1 b ys ∧ R (RZ.ItzT K a b) H1))
theorem s_zip {R : It → Hp → Prop} (q : A σ H (ZipRest K R)) : RZ.iZipA K A σ H R := q
theorem walk_zipT {a b : Addr} (hl : xs.length = ys.length) : Walk (RZ.ItzT K a b) xs.length (fun H => SqT K H a xs ∧ SqT K H b ys) (YPair (fun i => xs[i]?) (fun i => ys[i]?)) :=
  ⟨fun i H hi q => ⟨xs, ys, xs[i], ys[i]'(by omega), q.1, q.2, List.getElem?_eq_getElem hi, List.getElem?_eq_getElem (by omega)⟩,
    fun H q => ⟨xs, ys, q.1, q.2, Or.inl (Nat.le_refl _)⟩,
    fun i H x H' hi q ⟨T, u, v, e1, e2, e3, f1, f2⟩ => ⟨T, u, v, e1, e2, e3, f1 xs q.1, f2 ys q.2⟩⟩
theorem s_lcZT {a b : Addr} {g : TG} {vs : List Nat} (ha : SqT K H a xs) (hb : SqT K H b ys) (hl : xs.length = ys.length)
    (h : ∀ D, H D = none → ∃ Inv : Nat → List V → Hp → Prop, Inv 0 [] (upd H D (.lst [])) ∧ (∀ i acc H, H D = some (.lst acc) → Inv i acc H → SqT K H a xs ∧ SqT K H b ys) ∧
      (∀ (i : Nat) x y T acc H, xs[i]? = some x → ys[i]? = some y → acc.length ≤ i → H D = some (.lst acc) → Inv i acc H → H T = none → g (.ref T) (wipe σ vs) (upd H T (.tup [x, y])) fun σ2 H2 => wipe σ2 vs = wipe σ vs ∧ tt σ2 H2 fun b H3 =>
        if b = true then te σ2 H3 fun y H4 => ∃ acc, H4 D = some (.lst acc) ∧ acc.length < sizeLine ∧ LcP D Inv (i + 1) (upd H4 D (.lst (acc ++ [y]))) else LcP D Inv (i + 1) H3) ∧
      ∀ acc H, H D = some (.lst acc) → acc.length ≤ xs.length → Inv xs.length acc H → Q (.ref D) H) :
    ZipRest K (LcRest g tt te vs σ Q) [V.ref a, V.ref b] H := by
  refine ⟨a, b, xs, ys, rfl, .inr ⟨ha, hb, fun D hD => ?_⟩⟩
  obtain ⟨Inv, i0, hq, ht, hd⟩ := h D hD
  refine lc_it (walk_zipT hl) (LcP D Inv) ⟨[], upd_same, Nat.zero_le _, i0⟩ (fun i H _ ⟨acc, ha, _, hv⟩ => hq i acc H ha hv) (fun i z H H' hi p yy => ?_) (fun H ⟨acc, ha, hl, hv⟩ => hd acc H ha hl hv)
  obtain ⟨acc, ha, hl, hv⟩ := p
  obtain ⟨T, u, v, rfl, hT, rfl, f1, f2⟩ := yy
  exact ht i u v T acc H f1 f2 hl ha hv hT
/-- a target of names, written as a tuple -/
theorem s_gTup {t : TGs} {Q : L2.St → Hp → Prop} (h : SqT K H p xs) (hl : xs.length = n) (q : t xs σ H Q) : gTup K n t (.ref p) σ H Q := ⟨p, xs, rfl, h, hl, q⟩
theorem s_gCons {t : TG} {u : TGs} {Q : L2.St → Hp → Prop} (q : t v σ H fun σ' H' => u xs σ' H' Q) : gCons t u (v :: xs) σ H Q := ⟨v, xs, rfl, q⟩
theorem s_gNil {Q : L2.St → Hp → Prop} (q : Q σ H) : gNil [] σ H Q := ⟨rfl, q⟩
theorem dp_bools : ∀ bs : List Bool, DpAll K H (bs.map V.bl) (bs.map PyData.bool)
  | [] => .nil
  | b :: r => .cons (.bl b) (dp_bools r)
theorem s_eqBools {as bs : List Bool} {c : Bool} (h1 : SqL K H p1 (as.map V.bl)) (h2 : SqL K H p2 (bs.map V.bl)) (s1 : SeqAt.shaped (.list (as.map PyData.bool)) = true) (s2 : SeqAt.shaped (.list (bs.map PyData.bool)) = true) (e : PyData.eqv (.list (as.map .bool)) (.list (bs.map .bool)) = c) (q : Q (.bl c) H) : rEqD K (.ref p1) (.ref p2) H Q :=
  ⟨_, _, .lst h1 (dp_bools as), .lst h2 (dp_bools bs), s1, s2, by rw [e]; exact q⟩
theorem s_isNb {b : Bool} (h : (b = true ∧ x = .non) ∨ (b = false ∧ x ≠ .non)) (q : Q (.bl b) H) : rIsN x .non H Q := by
  rcases h with ⟨rfl, rfl⟩ | ⟨rfl, h⟩
  · exact s_isNn q
  · exact s_isNF h q
theorem s_neB {a b : Bool} (q : Q (.bl (a != b)) H) : rNe (.bl a) (.bl b) H Q := ⟨rfl, by
  rw [show (!decide (V.bl a = V.bl b)) = (a != b) from by cases a <;> cases b <;> rfl]; exact q⟩
/-- the end of a and b, both truths -/
theorem s_andVV {b0 b1 : Bool} (hb : ∀ Q' : VK, Q' (.bl b1) H → tb σ H Q') (q : Q (.bl (b0 && b1)) H) : if b0 = true then tb σ H Q else Q (.bl false) H := by
  cases b0 with
  | false => exact s_F q
  | true => exact s_T (hb _ q)
theorem s_stq {Q : List V → Hp → Prop} (q : te σ H fun x H1 => ∃ p xs, x = V.ref p ∧ (SqT K H1 p xs ∨ SqL K H1 p xs) ∧ A σ H1 fun ys H2 => Q (xs ++ ys) H2) : StX.tStar K te A σ H Q := q
theorem s_rep {k : Int} (h : H p = some (.lst xs)) (h0 : -(2 ^ 63) ≤ k) (h1 : k < 2 ^ 63) (hl : xs.length * k.toNat ≤ sizeLine) (q : ∀ p, H p = none → Q (.ref p) (upd H p (.lst (List.replicate k.toNat xs).flatten))) : rRep (.ref p) (.int k) H Q := ⟨p, k, xs, rfl, rfl, h, h0, h1, hl, q⟩
end
end Y
end
section
/-! ### a dict of the module with text keys -/
namespace Y
open PySem PySem.Spec PyProof.Rows L2
def valZ (kvs : List (Str × V)) (z : Str) : Option V := (kvs.find? fun q => decide (q.1 = z)).map (·.2)
def KdAt (K : PySem.W.Frag) (d : Addr) (z : Str) : Option V → Prop
  | some v => ∃ u, PySem.W.nsIn K d z = some (some u) ∧ RelV v u
  | none => PySem.W.nsIn K d z = some none
def DictAt (K : PySem.W.Frag) (w : World) (d : Addr) (kvs : List (Str × V)) : Prop := (∃ es n, KDict K w d es n) ∧ ∀ z, KdAt K d z (valZ kvs z)
def rInDict (d : Addr) (kvs : List (Str × V)) (neg : Bool) : R2 := fun x y H Q => ∃ z, x = .str z ∧ y = .ref d ∧ Q (.bl (if neg then !(valZ kvs z).isSome else (valZ kvs z).isSome)) H
def rIxDict (d : Addr) (kvs : List (Str × V)) : R2 := fun x y H Q => ∃ z v, x = .ref d ∧ y = .str z ∧ valZ kvs z = some v ∧ Q v H
theorem kdAt_some {K : PySem.W.Frag} {d : Addr} {z : Str} {o : Option V} (h : KdAt K d z o) : ∃ r : Option Value, PySem.W.nsIn K d z = some r ∧ r.isSome = o.isSome := by
  cases o with
  | none => exact ⟨_, h, rfl⟩
  | some v => obtain ⟨u, h, _⟩ := h; exact ⟨_, h, rfl⟩
section
variable {X : Cx} {d : Addr} {kvs : List (Str × V)}
theorem op_in_dict (D : DictAt X.K X.w d kvs) : OpR X (compareOp .In) (rInDict d kvs false) := by
  obtain ⟨⟨es, n, D⟩, f⟩ := D
  intro pins s σ H x y v u Q I rx ry h
  obtain ⟨z, rfl, rfl, q⟩ := h
  obtain ⟨r, e, es⟩ := kdAt_some (f z)
  exact op_in_kd D pins s σ H _ _ v u Q I rx ry ⟨z, r, rfl, rfl, e, by rw [es]; exact q⟩
theorem op_notIn_dict (D : DictAt X.K X.w d kvs) : OpR X (compareOp .NotIn) (rInDict d kvs true) := by
  obtain ⟨⟨es, n, D⟩, f⟩ := D
  intro pins s σ H x y v u Q I rx ry h
  obtain ⟨z, rfl, rfl, q⟩ := h
  obtain ⟨r, e, es⟩ := kdAt_some (f z)
  exact op_notIn_kd D pins s σ H _ _ v u Q I rx ry ⟨z, r, rfl, rfl, e, by rw [es]; exact q⟩
theorem ix_dict (D : DictAt X.K X.w d kvs) : IxR X (rIxDict d kvs) := by
  obtain ⟨⟨es, n, D⟩, f⟩ := D
  intro value slice pins s σ H x y v u Q I rx ry h hs
  obtain ⟨z, r, rfl, rfl, e, q⟩ := h
  have g := f z
  rw [e] at g
  obtain ⟨u0, e2, rr⟩ := g
  exact ix_kdict value slice pins s σ H _ _ v u Q I rx ry ⟨d, z, r, rfl, rfl, ⟨es, n, u0, D.at_, D.lit, e2, rr⟩, q⟩ hs
theorem s_inDict {H : Hp} {Q : VK} {z : Str} {b : Bool} (e : (valZ kvs z).isSome = b) (q : Q (.bl b) H) : rInDict d kvs false (.str z) (.ref d) H Q := ⟨z, rfl, rfl, by rw [e]; exact q⟩
theorem s_ninDict {H : Hp} {Q : VK} {z : Str} {b : Bool} (e : (valZ kvs z).isSome = b) (q : Q (.bl (!b)) H) : rInDict d kvs true (.str z) (.ref d) H Q := ⟨z, rfl, rfl, by rw [e]; exact q⟩
theorem s_ixDict {H : Hp} {Q : VK} {z : Str} {v : V} (e : valZ kvs z = some v) (q : Q v H) : rIxDict d kvs (.ref d) (.str z) H Q := ⟨z, v, rfl, rfl, e, q⟩
end
end Y
namespace G
open PySem PySem.Spec L2 Y
/-! its facts in the head -/
def valAt (x z : Str) (K : PySem.W.Frag) : Addr := match PySem.W.nsIn K (He.ga K x) z with
  | some (some (.ref a)) => a
  | _ => 0
/-- a tuple at an address found by a path -/
def tupP (K : PySem.W.Frag) (p : PySem.W.Frag → Addr) (vs : List He.Dv) : Bool := match K.lookup (p K) with
  | some ⟨.type c, _, .seq its _, _⟩ => decide (c = "tuple") && (decide (its.size ≤ sizeLine) && He.relAll (vs.map (He.Dv.v K)) its.toList)
  | _ => false
theorem tupP_ok {K : PySem.W.Frag} {p : PySem.W.Frag → Addr} {vs : List He.Dv} (h : tupP K p vs = true) (H : Hp) : SqT K H (p K) (vs.map (He.Dv.v K)) := by
  unfold tupP at h
  split at h
  · rename_i c od its n sl q
    obtain ⟨h1, h2⟩ := He.ba h
    obtain ⟨h3, h4⟩ := He.ba h2
    exact .inr ⟨_, its, n, q, congrArg Value.type (of_decide_eq_true h1), rfl, of_decide_eq_true h3, He.relAll_ok h4⟩
  · cases h
def keysB (K : PySem.W.Frag) (x : Str) (ks : List Str) : Bool := match K.lookup (He.ga K x) with
  | some ⟨_, _, .dict es _, _⟩ => (es.toList.all fun e => ks.any fun z => e.key.isStr z) && !(es.toList.any fun e => e.refKey)
  | _ => false
theorem keysB_none {K : PySem.W.Frag} {x : Str} {ks : List Str} (h : keysB K x ks = true) {z : Str} (hz : z ∉ ks) : PySem.W.nsIn K (He.ga K x) z = some none := by
  unfold keysB at h
  split at h
  · rename_i a b es n sl q
    obtain ⟨h1, h2⟩ := He.ba h
    unfold PySem.W.nsIn
    rw [q]
    have e1 : es.toList.find? (fun e => e.key.isStr z) = none := by
      refine List.find?_eq_none.mpr fun e he hk => ?_
      obtain ⟨y, hy, hk2⟩ := List.any_eq_true.mp (List.all_eq_true.mp h1 e he)
      exact hz (by rw [Value.isStr_inj _ _ _ hk hk2]; exact hy)
    have e2 : (es.toList.any fun e => e.refKey) = false := by
      cases c : es.toList.any fun e => e.refKey with
      | false => rfl
      | true => rw [c] at h2; cases h2
    show (match es.toList.find? (fun e => e.key.isStr z) with
      | some e => some (some e.val)
      | none => if (es.toList.any fun e => e.refKey) then none else some none) = some none
    rw [e1, e2]
    rfl
  · cases h
theorem dictAt_of {K : PySem.W.Frag} {w : World} {x : Str} {kvs : List (Str × He.Dv)} (D : ∃ es n, KDict K w (He.ga K x) es n) (hk : keysB K x (kvs.map (·.1)) = true) (hv : He.valsB K (He.ga K x) kvs = true) : DictAt K w (He.ga K x) (kvs.map fun q => (q.1, q.2.v K)) := by
  refine ⟨D, fun z => ?_⟩
  unfold valZ
  cases e : (kvs.map fun q => (q.1, q.2.v K)).find? fun q => decide (q.1 = z) with
  | none =>
    show PySem.W.nsIn K _ z = some none
    refine keysB_none hk fun m => ?_
    obtain ⟨q, hq, e2⟩ := List.mem_map.mp m
    have := List.find?_eq_none.mp e (q.1, q.2.v K) (List.mem_map_of_mem hq)
    exact this (decide_eq_true e2)
  | some p =>
    have h1 := List.find?_some e
    have h2 := List.mem_of_find?_eq_some e
    obtain ⟨q, hq, rfl⟩ := List.mem_map.mp h2
    obtain ⟨u, h3, h4⟩ := He.valsB_ok hv hq
    have e3 : q.1 = z := of_decide_eq_true h1
    show ∃ u, PySem.W.nsIn K _ z = some (some u) ∧ RelV (q.2.v K) u
    exact ⟨u, by rw [← e3]; exact h3, h4⟩
end G
end
section
/-! ### a dict of the module with int keys -/
namespace Y
open PySem PySem.Spec PyProof.Rows L2
def IDictAt (K : PySem.W.Frag) (d : Addr) (kvs : List (Int × V)) : Prop := ∃ es n, K.lookup d = some ⟨.type "dict", none, .dict es n, #[]⟩ ∧ (∀ e ∈ es, ∃ i t, e.key = .int i t ∧ e.hash = hashInt i) ∧ ∀ q ∈ kvs, ∃ u, findBy Value.isInt es q.1 = some u ∧ RelV q.2 u
def rIxI (d : Addr) (kvs : List (Int × V)) : R2 := fun x y H Q => ∃ i v, x = .ref d ∧ y = .int i ∧ (i, v) ∈ kvs ∧ Q v H
theorem ix_idict {X : Cx} {d : Addr} {kvs : List (Int × V)} (D : IDictAt X.K d kvs) : IxR X (rIxI d kvs) := by
  obtain ⟨es, n, hl, hk, hf⟩ := D
  intro value slice pins s σ H x y v u Q I rx ry h hs
  obtain ⟨i, r, rfl, rfl, m, q⟩ := h
  obtain rfl : v = Value.ref d := rx
  obtain ⟨t, rfl⟩ := ry
  obtain ⟨u0, e, ru⟩ := hf _ m
  have hm : s.heap.MapOf (intKind X.prog X.w) d (fun k => findBy Value.isInt es k) := ⟨_, es, n, I.kIn _ _ hl, ⟨rfl, rfl, rfl⟩, rfl, fun e he => by
    obtain ⟨j, t, e1, e2⟩ := hk e he
    exact ⟨j, by rw [e1]; exact intKind_is X.prog X.w j t, e2⟩, fun _ => rfl⟩
  exact tail_any hm.typeIs slot_dict_getitem.lookup (wpAny_getItem_of (intKind_is X.prog X.w i t) hm e ⟨r, H, I.tok _, ru, q⟩) hs
theorem s_ixI {d : Addr} {kvs : List (Int × V)} {H : Hp} {Q : VK} {i : Int} {v : V} (m : (i, v) ∈ kvs) (q : Q v H) : rIxI d kvs (.ref d) (.int i) H Q := ⟨i, v, rfl, rfl, m, q⟩
end Y
namespace G
open PySem PySem.Spec L2 Y
def idicB (K : PySem.W.Frag) (x : Str) (kvs : List (Int × He.Dv)) : Bool := match K.lookup (He.ga K x) with
  | some ⟨.type c, none, .dict es _, sl⟩ => decide (c = "dict") && (sl.isEmpty && ((es.toList.all fun e => match e.key with
    | .int i _ => decide (e.hash = hashInt i)
    | _ => false) && kvs.all fun q => match findBy Value.isInt es q.1 with
    | some u => He.relB (q.2.v K) u
    | none => false))
  | _ => false
theorem idicB_ok {K : PySem.W.Frag} {x : Str} {kvs : List (Int × He.Dv)} (h : idicB K x kvs = true) : IDictAt K (He.ga K x) (kvs.map fun q => (q.1, q.2.v K)) := by
  unfold idicB at h
  split at h
  · rename_i c es n sl q
    obtain ⟨h1, h⟩ := He.ba h
    obtain ⟨h2, h⟩ := He.ba h
    obtain ⟨h3, h4⟩ := He.ba h
    have e1 : c = "dict" := of_decide_eq_true h1
    have e2 : sl = #[] := Array.isEmpty_iff.mp h2
    subst e1 e2
    refine ⟨es, n, q, fun e he => ?_, fun z hz => ?_⟩
    · have g := List.all_eq_true.mp h3 e (Array.mem_toList_iff.mpr he)
      split at g
      · rename_i i t ek
        exact ⟨i, t, ek, of_decide_eq_true g⟩
      · cases g
    · obtain ⟨y, hy, rfl⟩ := List.mem_map.mp hz
      have g := List.all_eq_true.mp h4 y hy
      split at g
      · rename_i u eu
        exact ⟨u, eu, He.relB_ok g⟩
      · cases g
  · cases h
end G
end
section
/-! ### facts of the head for laws with classes -/
namespace G
open PySem PySem.Spec L2 C8
def noDict (K : PySem.W.Frag) (x : Str) : Bool := match K.lookup (He.ga K x) with
  | some ⟨.type c, none, _, _⟩ => decide (c = "tuple")
  | _ => false
theorem noDict_ok {K : PySem.W.Frag} {x : Str} (h : noDict K x = true) : ∃ o, K.lookup (He.ga K x) = some o ∧ o.cls = .type "tuple" ∧ o.dict = none := by
  unfold noDict at h
  split at h
  · rename_i c d s e
    exact ⟨_, e, congrArg Value.type (of_decide_eq_true h), rfl⟩
  · cases h
end G
end
section
/-! ### the head's hook, its part of the heap gathered by one mask -/
namespace G
open PySem PySem.Spec L2
def addB : List Addr → Nat → List Addr → Nat × List Addr
  | [], m, l => (m, l)
  | a :: r, m, l => match Nat.beq (Nat.land (Nat.shiftRight m a) 1) 0 with
    | true => addB r (Nat.lor m (Nat.shiftLeft 1 a)) (a :: l)
    | false => addB r m l
def goB (g : Addr → Option Obj) : Nat → Nat → List Addr → List Addr → List Addr
  | 0, _, all, _ => all
  | n + 1, m, all, fr => match addB (fr.flatMap fun a => match g a with
      | some o => He.refsD o
      | none => []) m [] with
    | (m2, new) => goB g n m2 (all ++ new) new
def asB (g : Addr → Option Obj) (n : Nat) : List Addr := goB g n (Nat.shiftLeft 1 mainGlobals) [mainGlobals] [mainGlobals]
section
variable (n : Nat) (fa : List He.Fa) (fn : List He.DefD) (ts : List He.Tab) (ex : List (PySem.W.Frag → Bool))
def obB (g : Addr → Option Obj) : AlE := (He.obsT fa fn ts (He.frG g (asB g n)), exAll ex (He.frG g (asB g n)))
def hookB : PySem.W.Hook where
  α := AlE
  obs := fun s => obB n fa fn ts ex s.heap.get?
  val := fun w => (He.valT fn ts w, true)
  says := fun w h => ∃ K : PySem.W.Frag, K.In h ∧ SaysE fa fn ts ex w K
  of := fun _ _ e => ⟨_, He.frG_in, congrArg (fun z : AlE => z.1) e, congrArg (fun z : AlE => z.2) e⟩
  keeps := fun _ _ _ ⟨K, hK, c⟩ k => ⟨K, PySem.W.Frag.In.keeps hK k, c⟩
theorem obB_eq {g : Addr → Option Obj} {s : Shared} (h : ∀ a, g a = s.heap.get? a) : obB n fa fn ts ex g = (hookB n fa fn ts ex).obs s := by
  have e : g = s.heap.get? := funext h
  rw [e] <;> rfl
end
/-- one run of the top, what is looked at told in two parts: each wants less memory -/
def RunAt {α : Type} (r : PySem.W.OpenRow) (q : Program) (o : PySem.W.SharedT → α) (v : α) (M : Nat) (loose : List Str) (w : World) : Prop :=
  ∀ os : OsState, Option.map (fun s => (HandSHeadRun.looksF r.prog (PySem.W.boot_heap w.params) s.abs, HandSHeadRun.seenQ q loose (importedModules r.prog.main.body) (fun s => PySem.W.xlAt q [] s && PySem.W.recOk r.records s) s.abs, o s))
    (HandSHeadRun.endF (HandSHeadRun.stepQ (HandSHeadRun.denQ HandSHeadRun.tabQ) r.prog w) M r.prog w os) = some (true, PySem.W.openGood q loose, v)
theorem run_two {r : PySem.W.OpenRow} {q : Program} {M : Nat} {loose : List Str} {w : World} {H : PySem.W.Hook} {ob : PySem.W.SharedT → H.α} {α β : Type} {oA : PySem.W.SharedT → α} {oB : PySem.W.SharedT → β} {vA : α} {vB : β} (g : α → β → H.α) (h1 : RunAt r q oA vA M loose w) (h2 : RunAt r q oB vB M loose w) (e : ∀ s, ob s = g (oA s) (oB s)) (ev : H.val w = g vA vB) : HandSHeadRun.RunEq r q H ob M loose w := by
  intro os
  have a := h1 os
  have b := h2 os
  cases hs : HandSHeadRun.endF (HandSHeadRun.stepQ (HandSHeadRun.denQ HandSHeadRun.tabQ) r.prog w) M r.prog w os with
  | none => rw [hs] at a; cases a
  | some s =>
    rw [hs] at a b
    have a1 := Option.some.inj a
    have b1 := Option.some.inj b
    have a2 := congrArg (fun z => z.1) a1
    have a3 := congrArg (fun z => z.2.1) a1
    have a4 := congrArg (fun z => z.2.2) a1
    have b4 := congrArg (fun z => z.2.2) b1
    dsimp only at a2 a3 a4 b4
    show some (_, _, ob s) = _
    rw [e s, a4, b4, ev]
    exact congrArg some (Prod.ext a2 (Prod.ext a3 rfl))
end G
end
section
namespace G
open PySem L2 C8
def top (i : Nat) : Stmt := PySem.Challenge.pw_guestworlds_k13_whole_the_unlike_guest.main.body.getD i (.Pass ⟨0, 0, 0, 0⟩)
end G
end
section
/-! ### the head, with classes and tables: what the top leaves, by one run -/
namespace G
open PySem L2 C8
def d__wall : He.DefD := ⟨("_wall", none), "_wall", "_wall", fnArgs (top 0), fnBody (top 0), fnScope (top 0), [], []⟩
def d_is_number : He.DefD := ⟨("is_number", none), "is_number", "is_number", fnArgs (top 17), fnBody (top 17), fnScope (top 17), [], []⟩
def d_is_row : He.DefD := ⟨("is_row", none), "is_row", "is_row", fnArgs (top 18), fnBody (top 18), fnScope (top 18), [], []⟩
def d_is_thing : He.DefD := ⟨("is_thing", none), "is_thing", "is_thing", fnArgs (top 19), fnBody (top 19), fnScope (top 19), [], []⟩
def d_worth : He.DefD := ⟨("worth", none), "worth", "worth", fnArgs (top 20), fnBody (top 20), fnScope (top 20), [], []⟩
def d_check_kind : He.DefD := ⟨("check_kind", none), "check_kind", "check_kind", fnArgs (top 29), fnBody (top 29), fnScope (top 29), [], []⟩
def d_check_cells : He.DefD := ⟨("check_cells", none), "check_cells", "check_cells", fnArgs (top 30), fnBody (top 30), fnScope (top 30), [], []⟩
def d_check_ear : He.DefD := ⟨("check_ear", none), "check_ear", "check_ear", fnArgs (top 31), fnBody (top 31), fnScope (top 31), [], []⟩
def d_check_count : He.DefD := ⟨("check_count", none), "check_count", "check_count", fnArgs (top 32), fnBody (top 32), fnScope (top 32), [], []⟩
def d_check_steps : He.DefD := ⟨("check_steps", none), "check_steps", "check_steps", fnArgs (top 33), fnBody (top 33), fnScope (top 33), [], []⟩
def d_check_way : He.DefD := ⟨("check_way", none), "check_way", "check_way", fnArgs (top 34), fnBody (top 34), fnScope (top 34), [], []⟩
def d_check_share : He.DefD := ⟨("check_share", none), "check_share", "check_share", fnArgs (top 35), fnBody (top 35), fnScope (top 35), [], []⟩
def d_holds : He.DefD := ⟨("holds", none), "holds", "holds", fnArgs (top 42), fnBody (top 42), fnScope (top 42), [], []⟩
def d_unlike : He.DefD := ⟨("unlike", none), "unlike", "unlike", fnArgs (top 43), fnBody (top 43), fnScope (top 43), [], []⟩
def d_lacking : He.DefD := ⟨("lacking", none), "lacking", "lacking", fnArgs (top 44), fnBody (top 44), fnScope (top 44), [], []⟩
def d_own_row : He.DefD := ⟨("own_row", none), "own_row", "own_row", fnArgs (top 45), fnBody (top 45), fnScope (top 45), [], []⟩
def d_Room_init : He.DefD := ⟨("Room", some "__init__"), "__init__", "Room.__init__", fnArgs (inClass (top 47) 0), fnBody (inClass (top 47) 0), fnScope (inClass (top 47) 0), [], []⟩
def d_Room_start : He.DefD := ⟨("Room", some "start"), "start", "Room.start", fnArgs (inClass (top 47) 1), fnBody (inClass (top 47) 1), fnScope (inClass (top 47) 1), [], []⟩
def d_Room_thing_at : He.DefD := ⟨("Room", some "thing_at"), "thing_at", "Room.thing_at", fnArgs (inClass (top 47) 2), fnBody (inClass (top 47) 2), fnScope (inClass (top 47) 2), [], []⟩
def d_Room_all_things : He.DefD := ⟨("Room", some "all_things"), "all_things", "Room.all_things", fnArgs (inClass (top 47) 3), fnBody (inClass (top 47) 3), fnScope (inClass (top 47) 3), [], []⟩
def d_Room_put_things : He.DefD := ⟨("Room", some "put_things"), "put_things", "Room.put_things", fnArgs (inClass (top 47) 4), fnBody (inClass (top 47) 4), fnScope (inClass (top 47) 4), [], []⟩
def d_room_alone : He.DefD := ⟨("room_alone", none), "room_alone", "room_alone", fnArgs (top 48), fnBody (top 48), fnScope (top 48), [], []⟩
def d_take_room : He.DefD := ⟨("take_room", none), "take_room", "take_room", fnArgs (top 49), fnBody (top 49), fnScope (top 49), [], []⟩
def d_first_free : He.DefD := ⟨("first_free", none), "first_free", "first_free", fnArgs (top 50), fnBody (top 50), fnScope (top 50), [], []⟩
def d_is_free : He.DefD := ⟨("is_free", none), "is_free", "is_free", fnArgs (top 51), fnBody (top 51), fnScope (top 51), [], []⟩
def d_Ground_init : He.DefD := ⟨("Ground", some "__init__"), "__init__", "Ground.__init__", fnArgs (inClass (top 55) 0), fnBody (inClass (top 55) 0), fnScope (inClass (top 55) 0), [], []⟩
def d_Ground_all_cells : He.DefD := ⟨("Ground", some "all_cells"), "all_cells", "Ground.all_cells", fnArgs (inClass (top 55) 1), fnBody (inClass (top 55) 1), fnScope (inClass (top 55) 1), [], []⟩
def d_Ground_said : He.DefD := ⟨("Ground", some "said"), "said", "Ground.said", fnArgs (inClass (top 55) 2), fnBody (inClass (top 55) 2), fnScope (inClass (top 55) 2), [], []⟩
def d_Body_init : He.DefD := ⟨("Body", some "__init__"), "__init__", "Body.__init__", fnArgs (inClass (top 57) 0), fnBody (inClass (top 57) 0), fnScope (inClass (top 57) 0), [], []⟩
def d_bundled : He.DefD := ⟨("bundled", none), "bundled", "bundled", fnArgs (top 58), fnBody (top 58), fnScope (top 58), [], []⟩
def d_take_up : He.DefD := ⟨("take_up", none), "take_up", "take_up", fnArgs (top 59), fnBody (top 59), fnScope (top 59), [], []⟩
def d_Guest_init : He.DefD := ⟨("Guest", some "__init__"), "__init__", "Guest.__init__", fnArgs (inClass (top 61) 0), fnBody (inClass (top 61) 0), fnScope (inClass (top 61) 0), [], []⟩
def d_let_go : He.DefD := ⟨("let_go", none), "let_go", "let_go", fnArgs (top 70), fnBody (top 70), fnScope (top 70), [], []⟩
def d_do_step : He.DefD := ⟨("do_step", none), "do_step", "do_step", fnArgs (top 71), fnBody (top 71), fnScope (top 71), [], []⟩
def d_box_worth : He.DefD := ⟨("box_worth", none), "box_worth", "box_worth", fnArgs (top 72), fnBody (top 72), fnScope (top 72), [], []⟩
def d_is_beyond : He.DefD := ⟨("is_beyond", none), "is_beyond", "is_beyond", fnArgs (top 73), fnBody (top 73), fnScope (top 73), [], []⟩
def d_cell_of : He.DefD := ⟨("cell_of", none), "cell_of", "cell_of", fnArgs (top 74), fnBody (top 74), fnScope (top 74), [], []⟩
def d_row_at_place : He.DefD := ⟨("row_at_place", none), "row_at_place", "row_at_place", fnArgs (top 75), fnBody (top 75), fnScope (top 75), [], []⟩
def d_caught_at_place : He.DefD := ⟨("caught_at_place", none), "caught_at_place", "caught_at_place", fnArgs (top 76), fnBody (top 76), fnScope (top 76), [], []⟩
def d_reaches_beyond : He.DefD := ⟨("reaches_beyond", none), "reaches_beyond", "reaches_beyond", fnArgs (top 77), fnBody (top 77), fnScope (top 77), [], []⟩
def d_caught_in_low : He.DefD := ⟨("caught_in_low", none), "caught_in_low", "caught_in_low", fnArgs (top 78), fnBody (top 78), fnScope (top 78), [], []⟩
def d_catch : He.DefD := ⟨("catch", none), "catch", "catch", fnArgs (top 79), fnBody (top 79), fnScope (top 79), [], []⟩
def d_make_high : He.DefD := ⟨("make_high", none), "make_high", "make_high", fnArgs (top 80), fnBody (top 80), fnScope (top 80), [], []⟩
def d_do_row : He.DefD := ⟨("do_row", none), "do_row", "do_row", fnArgs (top 81), fnBody (top 81), fnScope (top 81), [], []⟩
def d_lessen_alarm : He.DefD := ⟨("lessen_alarm", none), "lessen_alarm", "lessen_alarm", fnArgs (top 82), fnBody (top 82), fnScope (top 82), [], []⟩
def d_do_put : He.DefD := ⟨("do_put", none), "do_put", "do_put", fnArgs (top 83), fnBody (top 83), fnScope (top 83), [], []⟩
def d_do_add : He.DefD := ⟨("do_add", none), "do_add", "do_add", fnArgs (top 84), fnBody (top 84), fnScope (top 84), [], []⟩
def d_do_less : He.DefD := ⟨("do_less", none), "do_less", "do_less", fnArgs (top 85), fnBody (top 85), fnScope (top 85), [], []⟩
def d_do_load : He.DefD := ⟨("do_load", none), "do_load", "do_load", fnArgs (top 86), fnBody (top 86), fnScope (top 86), [], []⟩
def d_do_store : He.DefD := ⟨("do_store", none), "do_store", "do_store", fnArgs (top 87), fnBody (top 87), fnScope (top 87), [], []⟩
def d_do_zero : He.DefD := ⟨("do_zero", none), "do_zero", "do_zero", fnArgs (top 88), fnBody (top 88), fnScope (top 88), [], []⟩
def d_do_go : He.DefD := ⟨("do_go", none), "do_go", "do_go", fnArgs (top 89), fnBody (top 89), fnScope (top 89), [], []⟩
def d_do_nothing : He.DefD := ⟨("do_nothing", none), "do_nothing", "do_nothing", fnArgs (top 90), fnBody (top 90), fnScope (top 90), [], []⟩
def d_do_say : He.DefD := ⟨("do_say", none), "do_say", "do_say", fnArgs (top 91), fnBody (top 91), fnScope (top 91), [], []⟩
def d_do_hear : He.DefD := ⟨("do_hear", none), "do_hear", "do_hear", fnArgs (top 92), fnBody (top 92), fnScope (top 92), [], []⟩
def d_do_which_in_high : He.DefD := ⟨("do_which_in_high", none), "do_which_in_high", "do_which_in_high", fnArgs (top 93), fnBody (top 93), fnScope (top 93), [], []⟩
def d_do_which_in_low : He.DefD := ⟨("do_which_in_low", none), "do_which_in_low", "do_which_in_low", fnArgs (top 94), fnBody (top 94), fnScope (top 94), [], []⟩
def d_do_room : He.DefD := ⟨("do_room", none), "do_room", "do_room", fnArgs (top 95), fnBody (top 95), fnScope (top 95), [], []⟩
def d_do_enter : He.DefD := ⟨("do_enter", none), "do_enter", "do_enter", fnArgs (top 96), fnBody (top 96), fnScope (top 96), [], []⟩
def d_do_alarm : He.DefD := ⟨("do_alarm", none), "do_alarm", "do_alarm", fnArgs (top 97), fnBody (top 97), fnScope (top 97), [], []⟩
def d_do_stop : He.DefD := ⟨("do_stop", none), "do_stop", "do_stop", fnArgs (top 98), fnBody (top 98), fnScope (top 98), [], []⟩
def d_do_say_to_ground : He.DefD := ⟨("do_say_to_ground", none), "do_say_to_ground", "do_say_to_ground", fnArgs (top 99), fnBody (top 99), fnScope (top 99), [], []⟩
def d_do_hear_nothing : He.DefD := ⟨("do_hear_nothing", none), "do_hear_nothing", "do_hear_nothing", fnArgs (top 100), fnBody (top 100), fnScope (top 100), [], []⟩
def d_act : He.DefD := ⟨("act", none), "act", "act", fnArgs (top 105), fnBody (top 105), fnScope (top 105), [], []⟩
def d_own_action : He.DefD := ⟨("own_action", none), "own_action", "own_action", fnArgs (top 106), fnBody (top 106), fnScope (top 106), [], []⟩
def d_is_done_by_ground : He.DefD := ⟨("is_done_by_ground", none), "is_done_by_ground", "is_done_by_ground", fnArgs (top 107), fnBody (top 107), fnScope (top 107), [], []⟩
def d_Host_init : He.DefD := ⟨("Host", some "__init__"), "__init__", "Host.__init__", fnArgs (inClass (top 110) 0), fnBody (inClass (top 110) 0), fnScope (inClass (top 110) 0), [], []⟩
def d_Host_come : He.DefD := ⟨("Host", some "come"), "come", "Host.come", fnArgs (inClass (top 110) 1), fnBody (inClass (top 110) 1), fnScope (inClass (top 110) 1), [], []⟩
def d_Host_lay : He.DefD := ⟨("Host", some "lay"), "lay", "Host.lay", fnArgs (inClass (top 110) 2), fnBody (inClass (top 110) 2), fnScope (inClass (top 110) 2), [], []⟩
def d_Host_bring : He.DefD := ⟨("Host", some "bring"), "bring", "Host.bring", fnArgs (inClass (top 110) 3), fnBody (inClass (top 110) 3), fnScope (inClass (top 110) 3), [], []⟩
def d_Host_leave : He.DefD := ⟨("Host", some "leave"), "leave", "Host.leave", fnArgs (inClass (top 110) 4), fnBody (inClass (top 110) 4), fnScope (inClass (top 110) 4), [], []⟩
def d_Host_rooms : He.DefD := ⟨("Host", some "rooms"), "rooms", "Host.rooms", fnArgs (inClass (top 110) 5), fnBody (inClass (top 110) 5), fnScope (inClass (top 110) 5), [], []⟩
def d_Host_move : He.DefD := ⟨("Host", some "move"), "move", "Host.move", fnArgs (inClass (top 110) 6), fnBody (inClass (top 110) 6), fnScope (inClass (top 110) 6), [], []⟩
def d_Host_close_up : He.DefD := ⟨("Host", some "close_up"), "close_up", "Host.close_up", fnArgs (inClass (top 110) 7), fnBody (inClass (top 110) 7), fnScope (inClass (top 110) 7), [], []⟩
def d_Host_go : He.DefD := ⟨("Host", some "go"), "go", "Host.go", fnArgs (inClass (top 110) 8), fnBody (inClass (top 110) 8), fnScope (inClass (top 110) 8), [], []⟩
def d_Host_carried : He.DefD := ⟨("Host", some "carried"), "carried", "Host.carried", fnArgs (inClass (top 110) 9), fnBody (inClass (top 110) 9), fnScope (inClass (top 110) 9), [], []⟩
def d_Host_turn : He.DefD := ⟨("Host", some "turn"), "turn", "Host.turn", fnArgs (inClass (top 110) 10), fnBody (inClass (top 110) 10), fnScope (inClass (top 110) 10), [], []⟩
def d_Host_next_in_turn : He.DefD := ⟨("Host", some "next_in_turn"), "next_in_turn", "Host.next_in_turn", fnArgs (inClass (top 110) 11), fnBody (inClass (top 110) 11), fnScope (inClass (top 110) 11), [], []⟩
def d_Host_inner : He.DefD := ⟨("Host", some "inner"), "inner", "Host.inner", fnArgs (inClass (top 110) 12), fnBody (inClass (top 110) 12), fnScope (inClass (top 110) 12), [], []⟩
def d_Host_any_guest : He.DefD := ⟨("Host", some "any_guest"), "any_guest", "Host.any_guest", fnArgs (inClass (top 110) 13), fnBody (inClass (top 110) 13), fnScope (inClass (top 110) 13), [], []⟩
def d_Host_idle_guest : He.DefD := ⟨("Host", some "idle_guest"), "idle_guest", "Host.idle_guest", fnArgs (inClass (top 110) 14), fnBody (inClass (top 110) 14), fnScope (inClass (top 110) 14), [], []⟩
def d_Machine_init : He.DefD := ⟨("Machine", some "__init__"), "__init__", "Machine.__init__", fnArgs (inClass (top 112) 0), fnBody (inClass (top 112) 0), fnScope (inClass (top 112) 0), [], []⟩
def d_Machine_go : He.DefD := ⟨("Machine", some "go"), "go", "Machine.go", fnArgs (inClass (top 112) 1), fnBody (inClass (top 112) 1), fnScope (inClass (top 112) 1), [], []⟩
def d_Machine_said : He.DefD := ⟨("Machine", some "said"), "said", "Machine.said", fnArgs (inClass (top 112) 2), fnBody (inClass (top 112) 2), fnScope (inClass (top 112) 2), [], []⟩
def d_Machine_carried : He.DefD := ⟨("Machine", some "carried"), "carried", "Machine.carried", fnArgs (inClass (top 112) 3), fnBody (inClass (top 112) 3), fnScope (inClass (top 112) 3), [], []⟩
def d__law_start : He.DefD := ⟨("_law_start", none), "_law_start", "_law_start", fnArgs (top 114), fnBody (top 114), fnScope (top 114), [], []⟩
def d__law_drawn : He.DefD := ⟨("_law_drawn", none), "_law_drawn", "_law_drawn", fnArgs (top 115), fnBody (top 115), fnScope (top 115), [], []⟩
def d__law_same : He.DefD := ⟨("_law_same", none), "_law_same", "_law_same", fnArgs (top 116), fnBody (top 116), fnScope (top 116), [], []⟩
def d__law_number : He.DefD := ⟨("_law_number", none), "_law_number", "_law_number", fnArgs (top 117), fnBody (top 117), fnScope (top 117), [], []⟩
def d__law_row : He.DefD := ⟨("_law_row", none), "_law_row", "_law_row", fnArgs (top 118), fnBody (top 118), fnScope (top 118), [], []⟩
def d__law_any : He.DefD := ⟨("_law_any", none), "_law_any", "_law_any", fnArgs (top 119), fnBody (top 119), fnScope (top 119), [], []⟩
def d__law_ruler : He.DefD := ⟨("_law_ruler", none), "_law_ruler", "_law_ruler", fnArgs (top 120), fnBody (top 120), fnScope (top 120), [], []⟩
def d__law_cells : He.DefD := ⟨("_law_cells", none), "_law_cells", "_law_cells", fnArgs (top 121), fnBody (top 121), fnScope (top 121), [], []⟩
def d__law_kind : He.DefD := ⟨("_law_kind", none), "_law_kind", "_law_kind", fnArgs (top 122), fnBody (top 122), fnScope (top 122), [], []⟩
def d__law_ear : He.DefD := ⟨("_law_ear", none), "_law_ear", "_law_ear", fnArgs (top 123), fnBody (top 123), fnScope (top 123), [], []⟩
def d__law_machine : He.DefD := ⟨("_law_machine", none), "_law_machine", "_law_machine", fnArgs (top 124), fnBody (top 124), fnScope (top 124), [], []⟩
def d__law_bundle : He.DefD := ⟨("_law_bundle", none), "_law_bundle", "_law_bundle", fnArgs (top 125), fnBody (top 125), fnScope (top 125), [], []⟩
def d__law_worth : He.DefD := ⟨("_law_worth", none), "_law_worth", "_law_worth", fnArgs (top 126), fnBody (top 126), fnScope (top 126), [], []⟩
def d__law_caught : He.DefD := ⟨("_law_caught", none), "_law_caught", "_law_caught", fnArgs (top 127), fnBody (top 127), fnScope (top 127), [], []⟩
def d__law_plain : He.DefD := ⟨("_law_plain", none), "_law_plain", "_law_plain", fnArgs (top 128), fnBody (top 128), fnScope (top 128), [], []⟩
def d__law_high : He.DefD := ⟨("_law_high", none), "_law_high", "_law_high", fnArgs (top 129), fnBody (top 129), fnScope (top 129), [], []⟩
def d__law_low : He.DefD := ⟨("_law_low", none), "_law_low", "_law_low", fnArgs (top 130), fnBody (top 130), fnScope (top 130), [], []⟩
def d__law_counts : He.DefD := ⟨("_law_counts", none), "_law_counts", "_law_counts", fnArgs (top 131), fnBody (top 131), fnScope (top 131), [], []⟩
def d__law_own : He.DefD := ⟨("_law_own", none), "_law_own", "_law_own", fnArgs (top 132), fnBody (top 132), fnScope (top 132), [], []⟩
def d__law_step : He.DefD := ⟨("_law_step", none), "_law_step", "_law_step", fnArgs (top 133), fnBody (top 133), fnScope (top 133), [], []⟩
def d__law_goes : He.DefD := ⟨("_law_goes", none), "_law_goes", "_law_goes", fnArgs (top 134), fnBody (top 134), fnScope (top 134), [], []⟩
def d_law : He.DefD := ⟨("law", none), "law", "law", fnArgs (top 135), fnBody (top 135), fnScope (top 135), [], []⟩
def hfn : List He.DefD := [d__wall, d_is_number, d_is_row, d_is_thing, d_worth, d_check_kind, d_check_cells, d_check_ear, d_check_count, d_check_steps, d_check_way, d_check_share, d_holds, d_unlike, d_lacking, d_own_row, d_Room_init, d_Room_start, d_Room_thing_at, d_Room_all_things, d_Room_put_things, d_room_alone, d_take_room, d_first_free, d_is_free, d_Ground_init, d_Ground_all_cells, d_Ground_said, d_Body_init, d_bundled, d_take_up, d_Guest_init, d_let_go, d_do_step, d_box_worth, d_is_beyond, d_cell_of, d_row_at_place, d_caught_at_place, d_reaches_beyond, d_caught_in_low, d_catch, d_make_high, d_do_row, d_lessen_alarm, d_do_put, d_do_add, d_do_less, d_do_load, d_do_store, d_do_zero, d_do_go, d_do_nothing, d_do_say, d_do_hear, d_do_which_in_high, d_do_which_in_low, d_do_room, d_do_enter, d_do_alarm, d_do_stop, d_do_say_to_ground, d_do_hear_nothing, d_act, d_own_action, d_is_done_by_ground, d_Host_init, d_Host_come, d_Host_lay, d_Host_bring, d_Host_leave, d_Host_rooms, d_Host_move, d_Host_close_up, d_Host_go, d_Host_carried, d_Host_turn, d_Host_next_in_turn, d_Host_inner, d_Host_any_guest, d_Host_idle_guest, d_Machine_init, d_Machine_go, d_Machine_said, d_Machine_carried, d__law_start, d__law_drawn, d__law_same, d__law_number, d__law_row, d__law_any, d__law_ruler, d__law_cells, d__law_kind, d__law_ear, d__law_machine, d__law_bundle, d__law_worth, d__law_caught, d__law_plain, d__law_high, d__law_low, d__law_counts, d__law_own, d__law_step, d__law_goes, d_law]
def hfa : List He.Fa := ([.glo "_wall", .glo "WorldError", .glo "BadCells", .glo "BadKind", .glo "BadEar", .glo "BadCount", .glo "BadWay", .glo "BadShare", .glo "NoRoom", .glo "NoGuest", .glo "TooMany", .glo "Busy", .glo "is_number", .glo "is_row", .glo "is_thing", .glo "worth", .glo "check_kind", .glo "check_cells", .glo "check_ear", .glo "check_count", .glo "check_steps", .glo "check_way", .glo "check_share", .glo "holds", .glo "unlike", .glo "lacking", .glo "own_row", .glo "Room", .glo "room_alone", .glo "take_room"] : List He.Fa) ++ ([.glo "first_free", .glo "is_free", .glo "Ground", .glo "Body", .glo "bundled", .glo "take_up", .glo "Guest", .glo "let_go", .glo "do_step", .glo "box_worth", .glo "is_beyond", .glo "cell_of", .glo "row_at_place", .glo "caught_at_place", .glo "reaches_beyond", .glo "caught_in_low", .glo "catch", .glo "make_high", .glo "do_row", .glo "lessen_alarm", .glo "do_put", .glo "do_add", .glo "do_less", .glo "do_load", .glo "do_store", .glo "do_zero", .glo "do_go", .glo "do_nothing", .glo "do_say", .glo "do_hear"] : List He.Fa) ++ ([.glo "do_which_in_high", .glo "do_which_in_low", .glo "do_room", .glo "do_enter", .glo "do_alarm", .glo "do_stop", .glo "do_say_to_ground", .glo "do_hear_nothing", .glo "act", .glo "own_action", .glo "is_done_by_ground", .glo "Host", .glo "Machine", .glo "_law_start", .glo "_law_drawn", .glo "_law_same", .glo "_law_number", .glo "_law_row", .glo "_law_any", .glo "_law_ruler", .glo "_law_cells", .glo "_law_kind", .glo "_law_ear", .glo "_law_machine", .glo "_law_bundle", .glo "_law_worth", .glo "_law_caught", .glo "_law_plain", .glo "_law_high", .glo "_law_low"] : List He.Fa) ++ ([.glo "_law_counts", .glo "_law_own", .glo "_law_step", .glo "_law_goes", .glo "law", .int "LAST_NUMBER" 999, .glo "LIMITS", .glo "OWN", .int "FEWEST_CELLS_checks" 16, .int "MOST_CELLS_checks" 40, .int "LONGEST_EAR" 20, .int "MOST_STEPS" 400, .int "MOST_SHARE" 9, .str "PLAIN" "plain", .str "THROUGH" "through", .glo "NEEDED_BY_PLAIN", .glo "NEEDED_BY_THROUGH", .glo "WAY_IN_HIGH", .glo "WAY_INTO_LOW", .int "MANY_CELLS" 16, .int "FEWEST_CELLS_ground" 16, .int "MOST_CELLS_ground" 200, .int "NOTHING" 0, .int "OWN_ROW" 1, .int "BEYOND" 2, .int "NO_ROW" 3, .int "ALARM" 4, .int "CALL" 5, .glo "WHYS", .glo "ACTIONS"] : List He.Fa) ++ ([.glo "OWN_IN_HIGH", .glo "OWN_IN_LOW", .glo "OWN_BY_GROUND", .int "MOST_GUESTS" 6, .cls "Room", .noat "Room" "floor", .noat "Room" "beneath", .noat "Room" "first", .noat "Room" "wide", .noat "Room" "taken", .meth "Room" "start", .meth "Room" "thing_at", .meth "Room" "all_things", .meth "Room" "put_things", .mkr "Room", .cls "Ground", .noat "Ground" "kind", .noat "Ground" "room", .noat "Ground" "spoken", .noat "Ground" "hosts_beneath", .meth "Ground" "all_cells", .meth "Ground" "said", .mkr "Ground", .cls "Body", .noat "Body" "kind", .noat "Body" "room", .noat "Body" "ground", .noat "Body" "through", .noat "Body" "boxes", .noat "Body" "place"] : List He.Fa) ++ ([.noat "Body" "high", .noat "Body" "window", .noat "Body" "alarm", .noat "Body" "spoken", .noat "Body" "ear", .noat "Body" "why", .noat "Body" "steps", .mkr "Body", .cls "Guest", .noat "Guest" "body", .noat "Guest" "share", .noat "Guest" "busy", .mkr "Guest", .cls "Host", .noat "Host" "ground", .noat "Host" "way", .noat "Host" "guests", .noat "Host" "next_number", .meth "Host" "come", .meth "Host" "lay", .meth "Host" "bring", .meth "Host" "leave", .meth "Host" "rooms", .meth "Host" "move", .meth "Host" "close_up", .meth "Host" "go", .meth "Host" "carried", .meth "Host" "turn", .meth "Host" "next_in_turn", .meth "Host" "inner"] : List He.Fa) ++ ([.meth "Host" "any_guest", .meth "Host" "idle_guest", .mkr "Host", .cls "Machine", .noat "Machine" "body", .meth "Machine" "go", .meth "Machine" "said", .meth "Machine" "carried", .mkr "Machine", .free "all", .free "any", .free "bool", .free "enumerate", .free "int", .free "isinstance", .free "len", .free "list", .free "range", .free "str", .free "tuple", .free "zip"] : List He.Fa)
def loose : List PySem.Str := (["_wall", "WorldError", "BadCells", "BadKind", "BadEar", "BadCount", "BadWay", "BadShare", "NoRoom", "NoGuest", "TooMany", "Busy", "LAST_NUMBER", "LIMITS", "OWN", "is_number", "is_row", "is_thing", "worth", "FEWEST_CELLS_checks", "MOST_CELLS_checks", "LONGEST_EAR", "MOST_STEPS", "MOST_SHARE", "PLAIN", "THROUGH", "check_kind", "check_cells", "check_ear", "check_count"] : List PySem.Str) ++ (["check_steps", "check_way", "check_share", "NEEDED_BY_PLAIN", "NEEDED_BY_THROUGH", "WAY_IN_HIGH", "WAY_INTO_LOW", "MANY_CELLS", "holds", "unlike", "lacking", "own_row", "Room", "room_alone", "take_room", "first_free", "is_free", "FEWEST_CELLS_ground", "MOST_CELLS_ground", "Ground", "Body", "bundled", "take_up", "Guest", "NOTHING", "OWN_ROW", "BEYOND", "NO_ROW", "ALARM", "CALL"] : List PySem.Str) ++ (["WHYS", "let_go", "do_step", "box_worth", "is_beyond", "cell_of", "row_at_place", "caught_at_place", "reaches_beyond", "caught_in_low", "catch", "make_high", "do_row", "lessen_alarm", "do_put", "do_add", "do_less", "do_load", "do_store", "do_zero", "do_go", "do_nothing", "do_say", "do_hear", "do_which_in_high", "do_which_in_low", "do_room", "do_enter", "do_alarm", "do_stop"] : List PySem.Str) ++ (["do_say_to_ground", "do_hear_nothing", "ACTIONS", "OWN_IN_HIGH", "OWN_IN_LOW", "OWN_BY_GROUND", "act", "own_action", "is_done_by_ground", "MOST_GUESTS", "Host", "Machine", "_law_start", "_law_drawn", "_law_same", "_law_number", "_law_row", "_law_any", "_law_ruler", "_law_cells", "_law_kind", "_law_ear", "_law_machine", "_law_bundle", "_law_worth", "_law_caught", "_law_plain", "_law_high", "_law_low", "_law_counts"] : List PySem.Str) ++ (["_law_own", "_law_step", "_law_goes"] : List PySem.Str)
def hex : List (PySem.W.Frag → Bool) := [fun K => He.tupB K "OWN" [.str "say", .str "hear", .str "which", .str "room", .str "enter", .str "alarm", .str "stop"],
  fun K => He.tupB K "NEEDED_BY_PLAIN" [.str "say", .str "hear", .str "which", .str "enter", .str "alarm", .str "stop"],
  fun K => He.tupB K "NEEDED_BY_THROUGH" [.str "say", .str "hear"],
  fun K => He.tupB K "WAY_IN_HIGH" [.adr (itemAt "WAY_IN_HIGH" 0)],
  fun K => He.tupB K "WAY_INTO_LOW" [.adr (itemAt "WAY_INTO_LOW" 0), .adr (itemAt "WAY_INTO_LOW" 1), .adr (itemAt "WAY_INTO_LOW" 2)],
  fun K => keysB K "LIMITS" (([("put", .adr (valAt "LIMITS" "put")), ("add", .adr (valAt "LIMITS" "add")), ("less", .adr (valAt "LIMITS" "less")), ("load", .adr (valAt "LIMITS" "load")), ("store", .adr (valAt "LIMITS" "store")), ("zero", .adr (valAt "LIMITS" "zero")), ("go", .adr (valAt "LIMITS" "go")), ("call", .adr (valAt "LIMITS" "call")), ("say", .adr (valAt "LIMITS" "say")), ("hear", .adr (valAt "LIMITS" "hear")), ("which", .adr (valAt "LIMITS" "which")), ("room", .adr (valAt "LIMITS" "room")), ("enter", .adr (valAt "LIMITS" "enter")), ("alarm", .adr (valAt "LIMITS" "alarm")), ("stop", .adr (valAt "LIMITS" "stop"))] : List (PySem.Str × He.Dv)).map (·.1)),
  fun K => He.valsB K (He.ga K "LIMITS") ([("put", .adr (valAt "LIMITS" "put")), ("add", .adr (valAt "LIMITS" "add")), ("less", .adr (valAt "LIMITS" "less")), ("load", .adr (valAt "LIMITS" "load")), ("store", .adr (valAt "LIMITS" "store")), ("zero", .adr (valAt "LIMITS" "zero")), ("go", .adr (valAt "LIMITS" "go")), ("call", .adr (valAt "LIMITS" "call")), ("say", .adr (valAt "LIMITS" "say")), ("hear", .adr (valAt "LIMITS" "hear")), ("which", .adr (valAt "LIMITS" "which")), ("room", .adr (valAt "LIMITS" "room")), ("enter", .adr (valAt "LIMITS" "enter")), ("alarm", .adr (valAt "LIMITS" "alarm")), ("stop", .adr (valAt "LIMITS" "stop"))] : List (PySem.Str × He.Dv)),
  fun K => tupP K (valAt "LIMITS" "put") [.int 3, .int 999],
  fun K => tupP K (valAt "LIMITS" "add") [.int 3, .int 3, .int 3],
  fun K => tupP K (valAt "LIMITS" "less") [.int 3, .int 3, .int 3],
  fun K => tupP K (valAt "LIMITS" "load") [.int 3, .int 3],
  fun K => tupP K (valAt "LIMITS" "store") [.int 3, .int 3],
  fun K => tupP K (valAt "LIMITS" "zero") [.int 3, .int 999],
  fun K => tupP K (valAt "LIMITS" "go") [.int 999],
  fun K => tupP K (valAt "LIMITS" "call") [.int 999],
  fun K => tupP K (valAt "LIMITS" "say") [.int 3],
  fun K => tupP K (valAt "LIMITS" "hear") [.int 3],
  fun K => tupP K (valAt "LIMITS" "which") [.int 3],
  fun K => tupP K (valAt "LIMITS" "room") [.int 3],
  fun K => tupP K (valAt "LIMITS" "enter") [.int 1],
  fun K => tupP K (valAt "LIMITS" "alarm") [.int 3],
  fun K => tupP K (valAt "LIMITS" "stop") [],
  fun K => keysB K "ACTIONS" (([("put", .glo "do_put"), ("add", .glo "do_add"), ("less", .glo "do_less"), ("load", .glo "do_load"), ("store", .glo "do_store"), ("zero", .glo "do_zero"), ("go", .glo "do_go"), ("call", .glo "do_nothing")] : List (PySem.Str × He.Dv)).map (·.1)),
  fun K => He.valsB K (He.ga K "ACTIONS") ([("put", .glo "do_put"), ("add", .glo "do_add"), ("less", .glo "do_less"), ("load", .glo "do_load"), ("store", .glo "do_store"), ("zero", .glo "do_zero"), ("go", .glo "do_go"), ("call", .glo "do_nothing")] : List (PySem.Str × He.Dv)),
  fun K => keysB K "OWN_IN_HIGH" (([("say", .glo "do_say"), ("hear", .glo "do_hear"), ("which", .glo "do_which_in_high"), ("room", .glo "do_room"), ("enter", .glo "do_enter"), ("alarm", .glo "do_alarm"), ("stop", .glo "do_stop")] : List (PySem.Str × He.Dv)).map (·.1)),
  fun K => He.valsB K (He.ga K "OWN_IN_HIGH") ([("say", .glo "do_say"), ("hear", .glo "do_hear"), ("which", .glo "do_which_in_high"), ("room", .glo "do_room"), ("enter", .glo "do_enter"), ("alarm", .glo "do_alarm"), ("stop", .glo "do_stop")] : List (PySem.Str × He.Dv)),
  fun K => keysB K "OWN_IN_LOW" (([("say", .glo "do_say"), ("hear", .glo "do_hear"), ("which", .glo "do_which_in_low"), ("room", .glo "do_room"), ("enter", .glo "do_nothing"), ("alarm", .glo "do_nothing"), ("stop", .glo "do_nothing")] : List (PySem.Str × He.Dv)).map (·.1)),
  fun K => He.valsB K (He.ga K "OWN_IN_LOW") ([("say", .glo "do_say"), ("hear", .glo "do_hear"), ("which", .glo "do_which_in_low"), ("room", .glo "do_room"), ("enter", .glo "do_nothing"), ("alarm", .glo "do_nothing"), ("stop", .glo "do_nothing")] : List (PySem.Str × He.Dv)),
  fun K => keysB K "OWN_BY_GROUND" (([("say", .glo "do_say_to_ground"), ("hear", .glo "do_hear_nothing")] : List (PySem.Str × He.Dv)).map (·.1)),
  fun K => He.valsB K (He.ga K "OWN_BY_GROUND") ([("say", .glo "do_say_to_ground"), ("hear", .glo "do_hear_nothing")] : List (PySem.Str × He.Dv)),
  fun K => idicB K "WHYS" ([(2, .str "beyond"), (3, .str "no row")] : List (Int × He.Dv)),
  fun K => tupP K (itemAt "WAY_IN_HIGH" 0) [.str "put", .int 0, .int 1],
  fun K => tupP K (itemAt "WAY_INTO_LOW" 0) [.str "put", .int 1, .int 16],
  fun K => tupP K (itemAt "WAY_INTO_LOW" 1) [.str "put", .int 2, .int 3],
  fun K => tupP K (itemAt "WAY_INTO_LOW" 2) [.str "enter", .int 0]] ++ [fun K => noDict K "OWN"]
def htab : List He.Tab := [(fun K => He.ga K "LIMITS", ([("put", .adr (valAt "LIMITS" "put")), ("add", .adr (valAt "LIMITS" "add")), ("less", .adr (valAt "LIMITS" "less")), ("load", .adr (valAt "LIMITS" "load")), ("store", .adr (valAt "LIMITS" "store")), ("zero", .adr (valAt "LIMITS" "zero")), ("go", .adr (valAt "LIMITS" "go")), ("call", .adr (valAt "LIMITS" "call")), ("say", .adr (valAt "LIMITS" "say")), ("hear", .adr (valAt "LIMITS" "hear")), ("which", .adr (valAt "LIMITS" "which")), ("room", .adr (valAt "LIMITS" "room")), ("enter", .adr (valAt "LIMITS" "enter")), ("alarm", .adr (valAt "LIMITS" "alarm")), ("stop", .adr (valAt "LIMITS" "stop"))] : List (PySem.Str × He.Dv)).map (·.1)), (fun K => He.ga K "ACTIONS", ([("put", .glo "do_put"), ("add", .glo "do_add"), ("less", .glo "do_less"), ("load", .glo "do_load"), ("store", .glo "do_store"), ("zero", .glo "do_zero"), ("go", .glo "do_go"), ("call", .glo "do_nothing")] : List (PySem.Str × He.Dv)).map (·.1)), (fun K => He.ga K "OWN_IN_HIGH", ([("say", .glo "do_say"), ("hear", .glo "do_hear"), ("which", .glo "do_which_in_high"), ("room", .glo "do_room"), ("enter", .glo "do_enter"), ("alarm", .glo "do_alarm"), ("stop", .glo "do_stop")] : List (PySem.Str × He.Dv)).map (·.1)), (fun K => He.ga K "OWN_IN_LOW", ([("say", .glo "do_say"), ("hear", .glo "do_hear"), ("which", .glo "do_which_in_low"), ("room", .glo "do_room"), ("enter", .glo "do_nothing"), ("alarm", .glo "do_nothing"), ("stop", .glo "do_nothing")] : List (PySem.Str × He.Dv)).map (·.1)), (fun K => He.ga K "OWN_BY_GROUND", ([("say", .glo "do_say_to_ground"), ("hear", .glo "do_hear_nothing")] : List (PySem.Str × He.Dv)).map (·.1))]
abbrev R : PySem.W.OpenRow := PySem.W.OpenLaw.row PySem.Challenge.rw_guestworlds_k13_whole_the_unlike_guest
abbrev hk : PySem.W.Hook := hookB 4 hfa hfn htab hex
def ob (s : PySem.W.SharedT) : AlE := obB 4 hfa hfn htab hex (HandSHeadRun.getT s)
theorem ob_eq (s : PySem.W.SharedT) : ob s = hk.obs s.abs := obB_eq _ _ _ _ _ (HandSHeadRun.getT_eq s)
abbrev frK (s : PySem.W.SharedT) : PySem.W.Frag := He.frG (HandSHeadRun.getT s) (asB (HandSHeadRun.getT s) 4)
def oA (s : PySem.W.SharedT) : Bool × List (Option (List (Option (Str × Int)))) × Bool := (hfa.all fun f => He.Fa.ok (frK s) f, htab.map fun t => He.dicW (frK s) (t.1 (frK s)), exAll hex (frK s))
def oB (s : PySem.W.SharedT) : Bool × List He.FnW := (hfn.all fun d => He.DefD.ok (frK s) d, hfn.map fun d => He.fnW (frK s) d.at_)
def vA (w : World) : Bool × List (Option (List (Option (Str × Int)))) × Bool := (true, htab.map fun t => some (He.keysIn w.params t.2), true)
def vB : Bool × List He.FnW := (true, hfn.map He.DefD.val)
def RunO {α : Type} (r : PySem.W.OpenRow) (o : PySem.W.SharedT → α) (v : α) (M : Nat) (w : World) : Prop := ∀ os : OsState, Option.map o (HandSHeadRun.endF (HandSHeadRun.stepQ (HandSHeadRun.denQ HandSHeadRun.tabQ) r.prog w) M r.prog w os) = some v
theorem run_all {r : PySem.W.OpenRow} {q : Program} {M : Nat} {loose : List Str} {w : World} {α β γ δ : Type} {o1 : PySem.W.SharedT → α} {o2 : PySem.W.SharedT → β} {o3 : PySem.W.SharedT → γ} {o : PySem.W.SharedT → δ} {v1 : α} {v2 : β} {v3 : γ} {v : δ} (g : α → β → γ → δ) (h0 : RunAt r q (fun _ => ()) () M loose w) (h1 : RunO r o1 v1 M w) (h2 : RunO r o2 v2 M w) (h3 : RunO r o3 v3 M w) (e : ∀ s, o s = g (o1 s) (o2 s) (o3 s)) (ev : v = g v1 v2 v3) : RunAt r q o v M loose w := by
  intro os
  have a := h0 os
  have d := h1 os
  have b := h2 os
  have c := h3 os
  cases hs : HandSHeadRun.endF (HandSHeadRun.stepQ (HandSHeadRun.denQ HandSHeadRun.tabQ) r.prog w) M r.prog w os with
  | none => rw [hs] at a; cases a
  | some s =>
    rw [hs] at a b c d
    have a1 := Option.some.inj a
    have a4 := Option.some.inj d
    have b4 := Option.some.inj b
    have c4 := Option.some.inj c
    have a2 := congrArg (fun z => z.1) a1
    have a3 := congrArg (fun z => z.2.1) a1
    dsimp only at a2 a3
    show some (_, _, o s) = _
    rw [e s, a4, b4, c4, ev]
    exact congrArg some (Prod.ext a2 (Prod.ext a3 rfl))
def oA1 (s : PySem.W.SharedT) : Bool := hfa.all fun f => He.Fa.ok (frK s) f
def oA2 (s : PySem.W.SharedT) : List (Option (List (Option (Str × Int)))) × Bool := (htab.map fun t => He.dicW (frK s) (t.1 (frK s)), exAll hex (frK s))
def vA2 (w : World) : List (Option (List (Option (Str × Int)))) × Bool := (htab.map fun t => some (He.keysIn w.params t.2), true)
def oB1 (s : PySem.W.SharedT) : Bool × List He.FnW := ((hfn.take 56).all fun d => He.DefD.ok (frK s) d, (hfn.take 56).map fun d => He.fnW (frK s) d.at_)
def oB2 (s : PySem.W.SharedT) : Bool × List He.FnW := ((hfn.drop 56).all fun d => He.DefD.ok (frK s) d, (hfn.drop 56).map fun d => He.fnW (frK s) d.at_)
def oC (s : PySem.W.SharedT) : (List (Option (List (Option (Str × Int)))) × Bool) × (Bool × List He.FnW) := (oA2 s, oB1 s)
def vB1 : Bool × List He.FnW := (true, (hfn.take 56).map He.DefD.val)
def vB2 : Bool × List He.FnW := (true, (hfn.drop 56).map He.DefD.val)
def vC (w : World) : (List (Option (List (Option (Str × Int)))) × Bool) × (Bool × List He.FnW) := (vA2 w, vB1)
theorem all_two {α : Type} {p : α → Bool} {l : List α} (n : Nat) : l.all p = ((l.take n).all p && (l.drop n).all p) := by rw [← List.all_append, List.take_append_drop]
theorem map_two {α β : Type} {f : α → β} {l : List α} (n : Nat) : l.map f = (l.take n).map f ++ (l.drop n).map f := by rw [← List.map_append, List.take_append_drop]
abbrev gAZ : Bool → (List (Option (List (Option (Str × Int)))) × Bool) × (Bool × List He.FnW) → Bool × List He.FnW → Bool × List (Option (List (Option (Str × Int)))) × Bool := fun a c _ => (a, c.1.1, c.1.2)
abbrev gBZ : Bool → (List (Option (List (Option (Str × Int)))) × Bool) × (Bool × List He.FnW) → Bool × List He.FnW → Bool × List He.FnW := fun _ c b => (c.2.1 && b.1, c.2.2 ++ b.2)
theorem oA_all (s : PySem.W.SharedT) : oA s = gAZ (oA1 s) (oC s) (oB2 s) := by
  unfold oA oC oA1 oA2
  generalize frK s = F
  dsimp only
theorem oB_all (s : PySem.W.SharedT) : oB s = gBZ (oA1 s) (oC s) (oB2 s) := by
  unfold oB oC oB1 oB2
  generalize frK s = F
  rw [all_two (l := hfn) 56, map_two (l := hfn) 56]
theorem vB_all (w : World) : vB = gBZ true (vC w) vB2 := by
  unfold vB vC vB1 vB2
  rw [map_two (l := hfn) 56]; rfl
theorem run_f1 (w : World) : RunAt R (PySem.W.view R.prog [135]) (fun _ => ()) () 8000 loose (w.withFollow "special-get-raises" false) := fun os => by kernel_rfl
theorem run_f2 (w : World) : RunO R oA1 true 8000 (w.withFollow "special-get-raises" false) := fun os => by kernel_rfl
theorem run_f3 (w : World) : RunO R oC (vC (w.withFollow "special-get-raises" false)) 8000 (w.withFollow "special-get-raises" false) := fun os => by kernel_rfl
theorem run_f4 (w : World) : RunO R oB2 vB2 8000 (w.withFollow "special-get-raises" false) := fun os => by kernel_rfl
theorem run_fA (w : World) : RunAt R (PySem.W.view R.prog [135]) oA (vA (w.withFollow "special-get-raises" false)) 8000 loose (w.withFollow "special-get-raises" false) := run_all gAZ (run_f1 w) (run_f2 w) (run_f3 w) (run_f4 w) oA_all rfl
theorem run_fB (w : World) : RunAt R (PySem.W.view R.prog [135]) oB vB 8000 loose (w.withFollow "special-get-raises" false) := run_all gBZ (run_f1 w) (run_f2 w) (run_f3 w) (run_f4 w) oB_all (vB_all _)
theorem run_t1 (w : World) : RunAt R (PySem.W.view R.prog [135]) (fun _ => ()) () 8000 loose (w.withFollow "special-get-raises" true) := fun os => by kernel_rfl
theorem run_t2 (w : World) : RunO R oA1 true 8000 (w.withFollow "special-get-raises" true) := fun os => by kernel_rfl
theorem run_t3 (w : World) : RunO R oC (vC (w.withFollow "special-get-raises" true)) 8000 (w.withFollow "special-get-raises" true) := fun os => by kernel_rfl
theorem run_t4 (w : World) : RunO R oB2 vB2 8000 (w.withFollow "special-get-raises" true) := fun os => by kernel_rfl
theorem run_tA (w : World) : RunAt R (PySem.W.view R.prog [135]) oA (vA (w.withFollow "special-get-raises" true)) 8000 loose (w.withFollow "special-get-raises" true) := run_all gAZ (run_t1 w) (run_t2 w) (run_t3 w) (run_t4 w) oA_all rfl
theorem run_tB (w : World) : RunAt R (PySem.W.view R.prog [135]) oB vB 8000 loose (w.withFollow "special-get-raises" true) := run_all gBZ (run_t1 w) (run_t2 w) (run_t3 w) (run_t4 w) oB_all (vB_all _)
theorem run_f (w : World) : HandSHeadRun.RunEq R (PySem.W.view R.prog [135]) hk ob 8000 loose (w.withFollow "special-get-raises" false) := run_two (fun a b => (((a.1 && b.1, b.2), a.2.1), a.2.2)) (run_fA w) (run_fB w) (fun _ => rfl) rfl
theorem run_t (w : World) : HandSHeadRun.RunEq R (PySem.W.view R.prog [135]) hk ob 8000 loose (w.withFollow "special-get-raises" true) := run_two (fun a b => (((a.1 && b.1, b.2), a.2.1), a.2.2)) (run_tA w) (run_tB w) (fun _ => rfl) rfl
theorem run (w : World) : HandSHeadRun.RunEq R (PySem.W.view R.prog [135]) hk ob 8000 loose w := PySem.W.byRow2 "special-get-raises" run_f run_t w
end G
end
section
namespace G
open PySem L2 C8
/-- what the top leaves of the built-ins -/
structure Txt (K : PySem.W.Frag) (mg : Str → Option Value) : Prop where
  n_all : mg "all" = none
  n_any : mg "any" = none
  n_bool : mg "bool" = none
  n_enumerate : mg "enumerate" = none
  n_int : mg "int" = none
  n_isinstance : mg "isinstance" = none
  n_len : mg "len" = none
  n_list : mg "list" = none
  n_range : mg "range" = none
  n_str : mg "str" = none
  n_tuple : mg "tuple" = none
  n_zip : mg "zip" = none
def spDrawn (K : PySem.W.Frag) : Sp := fun vs H Q _ => ∃ (a : Addr) (k : Int), vs = [.ref a, .int k] ∧ StAt K H a ∧ 0 < k ∧ k < 1000000 ∧ ∀ (x : Int) (H' : Hp), 0 ≤ x → x < k → Fr a H H' → StAt K H' a → Q (.int x) H'
theorem u_drawn {K : PySem.W.Frag} {H : Hp} {Q : VK} {E : XK} {a : Addr} {k : Int} (h : StAt K H a) (h0 : 0 < k) (h1 : k < 1000000) (q : ∀ (x : Int) (H' : Hp), 0 ≤ x → x < k → Fr a H H' → StAt K H' a → Q (.int x) H') : spDrawn K ([.ref a, .int k] ++ []) H Q E :=
  ⟨a, k, rfl, h, h0, h1, q⟩
section
variable {P : Program} {w : World} {K : PySem.W.Frag} {mg : Str → Option Value} {base : Heap}
abbrev s__law_drawn : Stmt := top 115
theorem sc__law_drawn : FnScope ["_law_state", "_law_many", "_law_found", "_law_cell"] ["_law_state", "_law_many"] (fnScope s__law_drawn) := fnScope_by (by decide +kernel)
theorem ok__law_drawn {f : Addr} {fd : FuncData} (F : Def K mg "_law_drawn" s__law_drawn f fd) (b : Binds K fd ["_law_state", "_law_many"] []) (T : Txt K mg) : Cal P w K mg base 1 "_law_drawn" (spDrawn K) [] := by
  refine cal0 F b .nil sc__law_drawn (fun vs H Q E h => ?_) (fun cdv A outer s H vs Q E hr h => ?_)
  · obtain ⟨a, k, rfl, _⟩ := h
    rfl
  · obtain ⟨a, k, rfl, ⟨s, ns, i, m, r, hA, hs, h0, h1, h2⟩, hk, hk2, q⟩ := h
    have nd := sc__law_drawn.nd
    refine ⟨_, (pss_cons (ps_if (pt_cmpR op_gt (pe_ix ix_seq (pv 0) pe_int (fun _ _ => rfl)) pe_int (nomark _))
      (pss_cons (ps_set (i := 2) nd rfl (by first | exact Or.inl rfl | exact Or.inr rfl) (pe_op op_mod (pe_ix ix_seq (pv 0) pe_int (fun _ _ => rfl)) (pv 1)))
      (pss_cons (ps_asg (pe_op op_fdivN (pe_ix ix_seq (pv 0) pe_int (fun _ _ => rfl)) (pv 1)) (pg_sub (pv 0) pe_int set_list))
      (pss_one (ps_ret (pv 2)))))
      pss_nil)
      (pss_cons (ps_asg (pe_op op_add (pe_ix ix_seq (pv 0) pe_int (fun _ _ => rfl)) pe_int) (pg_sub (pv 0) pe_int set_list))
      (pss_cons (ps_if (pt_cmpR op_le (pe_ix ix_seq (pv 0) pe_int (fun _ _ => rfl)) (pe_callB Y.cl_len (by rfl) T.n_len PySem.boot_len (pa_cons (pe_ix ix_seq (pv 0) pe_int (fun _ _ => rfl)) pa_nil)) (nomark _))
      (pss_cons (ps_set (i := 3) nd rfl (by first | exact Or.inl rfl | exact Or.inr rfl) (pe_ix ix_seq (pe_ix ix_seq (pv 0) pe_int (fun _ _ => rfl)) (pe_op op_sub (pe_ix ix_seq (pv 0) pe_int (fun _ _ => rfl)) pe_int) (fun _ _ => rfl)))
      (pss_cons (ps_asg (pe_ifExp (pt_cmpR op_ge (pv 3) (pe_op op_pow pe_int pe_int) (nomark _)) (pe_op op_fdivN (pv 3) (pv 1)) pe_int) (pg_sub (pv 0) pe_int set_list))
      (pss_one (ps_ret (pe_op op_mod (pv 3) (pv 1))))))
      pss_nil)
      (pss_cons (ps_asg (pe_op op_mod (pe_op op_add (pe_op op_mul (pe_ix ix_seq (pv 0) pe_int (fun _ _ => rfl)) pe_int) pe_int) pe_int) (pg_sub (pv 0) pe_int set_list))
      (pss_one (ps_ret (pe_op op_mod (pe_op op_fdivN (pe_ix ix_seq (pv 0) pe_int (fun _ _ => rfl)) pe_int) (pv 1)))))))), ?_⟩
    have hx : ∀ o, Lk K (upd H a o) s (ns.map V.int) := fun o => hs.upd hA
    have hs' : ∀ o, SqL K (upd H a o) s (ns.map V.int) := fun o => (hx o).sq
    have f' : ∀ o, Fr a H (upd H a o) := fun o => (Fr.refl a H).upd
    have f2 : ∀ o u, Fr a H (upd (upd H a o) a u) := fun o u => (f' o).upd
    walk_at "b"
    refine Y.s_d2 (fun hr0 => ?_) (fun hr0 => ?_)
    · walk_at "s"
      refine Y.s_rI hk ?_
      walk_at "s"
      refine Y.s_rI ⟨by omega, by omega⟩ ?_
      walk_at "s"
      exact q _ _ (Int.emod_nonneg _ (by omega)) (Int.emod_lt_of_pos _ hk) (f' _) ⟨s, ns, i, m, _, upd_same, hx _, h0, h1, h2⟩
    · walk_at "s"
      refine Y.s_lenL (hs' _) ?_
      walk_at "s"
      refine Y.s_d2 (fun hl => ?_) (fun hl => ?_)
      · walk_at "s"
        rw [List.length_map] at hl
        obtain ⟨c, hc⟩ : ∃ c, ns[i.toNat]? = some c := ⟨_, List.getElem?_eq_getElem (by omega)⟩
        refine Y.s_ixL (hs' _) (at_of (j := i.toNat) (v := .int c) (by omega) (by rw [List.getElem?_map, hc]; rfl)) ?_
        walk_at "s"
        refine Y.s_rI ⟨by decide, by decide, by decide⟩ ?_
        walk_at "s"
        refine Y.s_d2 (fun hb => ?_) (fun hb => ?_)
        · walk_at "s"
          refine Y.s_rI ⟨by omega, by omega⟩ ?_
          walk_at "s"
          refine Y.s_rI hk ?_
          walk_at "s"
          exact q _ _ (Int.emod_nonneg _ (by omega)) (Int.emod_lt_of_pos _ hk) (f2 _ _) ⟨s, ns, i + 1, m, _, upd_same, (hx _).upd upd_same, by omega, h1, h2⟩
        · walk_at "s"
          refine Y.s_rI hk ?_
          walk_at "s"
          exact q _ _ (Int.emod_nonneg _ (by omega)) (Int.emod_lt_of_pos _ hk) (f2 _ _) ⟨s, ns, i + 1, m, _, upd_same, (hx _).upd upd_same, by omega, h1, h2⟩
      · walk_at "s"
        refine Y.s_rI (.inl ⟨by omega, by omega⟩) ?_
        walk_at "s"
        refine Y.s_rI hk ?_
        walk_at "s"
        exact q _ _ (Int.emod_nonneg _ (by omega)) (Int.emod_lt_of_pos _ hk) (f2 _ _) ⟨s, ns, i + 1, _, r, upd_same, (hx _).upd upd_same, by omega, Int.emod_nonneg _ (by omega), Int.emod_lt_of_pos _ (by omega)⟩
def spStart (K : PySem.W.Frag) : Sp := fun vs H Q _ => ∃ (s : Addr) (ns : List Int), vs = [.ref s] ∧ Lk K H s (ns.map V.int) ∧ ∀ (a : Addr) (H' : Hp), H a = none → Same H H' → StAt K H' a → Q (.ref a) H'
abbrev s__law_start : Stmt := top 114
theorem sc__law_start : FnScope ["_law_script", "_law_mixed", "_law_cell"] ["_law_script"] (fnScope s__law_start) := fnScope_by (by decide +kernel)
theorem ok__law_start {f : Addr} {fd : FuncData} (F : Def K mg "_law_start" s__law_start f fd) (b : Binds K fd ["_law_script"] []) (T : Txt K mg) : Cal P w K mg base 1 "_law_start" (spStart K) [] := by
  refine cal0 F b .nil sc__law_start (fun vs H Q E h => ?_) (fun cdv A outer s H vs Q E hr h => ?_)
  · obtain ⟨a, k, rfl, _⟩ := h
    rfl
  · obtain ⟨s, ns, rfl, hs, q⟩ := h
    have nd := sc__law_start.nd
    refine ⟨_, (pss_cons (ps_set (i := 1) nd rfl (by first | exact Or.inl rfl | exact Or.inr rfl) pe_int)
      (pss_cons (ps_for PassesOwn.never rfl (pi_list (pv 0)) (pg_name (i := 2) nd rfl (by first | exact Or.inl rfl | exact Or.inr rfl))
      (pss_one (ps_set (i := 1) nd rfl (by first | exact Or.inl rfl | exact Or.inr rfl) (pe_op op_mod (pe_op op_add (pe_op op_add (pe_op op_mul (pv 1) pe_int) (pv 2)) pe_int) pe_int))))
      (pss_one (ps_ret (pe_lst (pa_cons (pv 0) (pa_cons pe_int (pa_cons (pv 1) (pa_cons pe_int pa_nil))))))))), ?_⟩
    walk_at "b"
    refine Y.s_forL hs.sq (fun i σ H' => H' = H ∧ ∃ (m : Int) (v : Option V), σ = [some (.ref s), some (.int m), v] ∧ 0 ≤ m ∧ m < 2147483647) ⟨rfl, _, _, rfl, by decide, by decide⟩ (fun i σ H' ⟨e, _⟩ => e ▸ hs.sq) ?_ ?_
    · rintro i x σ H' hi ⟨rfl, m, v, rfl, h0, h1⟩
      obtain ⟨u, rfl⟩ : ∃ u, x = V.int u := by
        rw [List.getElem?_map] at hi
        cases e : ns[i]? with
        | none => rw [e] at hi; cases hi
        | some u => rw [e] at hi; exact ⟨u, (Option.some.inj hi).symm⟩
      walk_at "s"
      refine Y.s_rI (.inl ⟨by omega, by omega⟩) ?_
      walk_at "s"
      exact ⟨rfl, _, _, rfl, Int.emod_nonneg _ (by omega), Int.emod_lt_of_pos _ (by omega)⟩
    · rintro σ H' ⟨rfl, m, v, rfl, h0, h1⟩
      walk_at "s"
      refine ⟨by show 4 ≤ sizeLine; decide, fun p hp => ?_⟩
      walk_at "s"
      exact q p _ hp (fun b o e => by rw [upd_ne (ne_of_none e hp)]; exact e) ⟨s, ns, 0, m, 0, upd_same, hs.new hp, by decide, h0, h1⟩
end
end G
end
section
/-! ### one bundle for all that is known of the heap: the draws' state, the frame, each live object (to come in the place of hp, ne, st, fr) -/
namespace G
open PySem L2
/-- since H0: the state of the draws stands at a, all else is kept, and of the objects of L (laid since H0) this is known -/
structure Bd (K : PySem.W.Frag) (a : Addr) (H0 H : Hp) (L : List (Addr × HO)) : Prop where
  st : StAt K H a
  fr : Fr a H0 H
  al : ∀ x ∈ L, H0 x.1 = none ∧ x.1 ≠ a ∧ H x.1 = some x.2
theorem Bd.start {K : PySem.W.Frag} {a : Addr} {H : Hp} (h : StAt K H a) : Bd K a H H [] := ⟨h, Fr.refl a H, fun _ m => nomatch m⟩
theorem Bd.get {K : PySem.W.Frag} {a p : Addr} {H0 H : Hp} {L : List (Addr × HO)} {o : HO} (k : Bd K a H0 H L) (m : (p, o) ∈ L) : H p = some o := (k.al _ m).2.2
theorem Bd.none {K : PySem.W.Frag} {a p : Addr} {H0 H : Hp} {L : List (Addr × HO)} (k : Bd K a H0 H L) (h : H p = .none) : H0 p = .none := k.fr.free h (ne_of_none k.st.spec h).symm
/-- a new object -/
theorem Bd.new {K : PySem.W.Frag} {a p : Addr} {H0 H : Hp} {L : List (Addr × HO)} {o : HO} (h : H p = .none) (k : Bd K a H0 H L) : Bd K a H0 (upd H p o) ((p, o) :: L) := by
  refine ⟨k.st.new h, k.fr.new h, fun x m => ?_⟩
  rcases List.mem_cons.mp m with rfl | m
  · exact ⟨k.none h, (ne_of_none k.st.spec h).symm, upd_same⟩
  · obtain ⟨h1, h2, h3⟩ := k.al x m
    exact ⟨h1, h2, by rw [upd_ne (ne_of_none h3 h)]; exact h3⟩
/-- a call that keeps all but a -/
theorem Bd.step {K : PySem.W.Frag} {a : Addr} {H0 H H' : Hp} {L : List (Addr × HO)} (f : Fr a H H') (s : StAt K H' a) (k : Bd K a H0 H L) : Bd K a H0 H' L :=
  ⟨s, k.fr.trans f, fun x m => ⟨(k.al x m).1, (k.al x m).2.1, f _ _ (k.al x m).2.1 (k.al x m).2.2⟩⟩
/-- less is known -/
theorem Bd.less {K : PySem.W.Frag} {a : Addr} {H0 H : Hp} {L L' : List (Addr × HO)} (k : Bd K a H0 H L) (h : ∀ x ∈ L', x ∈ L) : Bd K a H0 H L' := ⟨k.st, k.fr, fun x m => k.al x (h x m)⟩
/-- a list of L is written -/
theorem Bd.set {K : PySem.W.Frag} {a p : Addr} {H0 H : Hp} {L : List (Addr × HO)} {xs : List V} {o : HO} (k : Bd K a H0 H L) (m : (p, HO.lst xs) ∈ L) : Bd K a H0 (upd H p o) ((p, o) :: L.filter fun x => decide (x.1 ≠ p)) := by
  have e := k.get m
  obtain ⟨h0, na, _⟩ := k.al _ m
  refine ⟨k.st.own e na.symm, k.fr.own h0, fun x mx => ?_⟩
  rcases List.mem_cons.mp mx with rfl | mx
  · exact ⟨h0, na, upd_same⟩
  · obtain ⟨mx, ne⟩ := List.mem_filter.mp mx
    obtain ⟨h1, h2, h3⟩ := k.al x mx
    exact ⟨h1, h2, by rw [upd_ne (of_decide_eq_true ne)]; exact h3⟩
theorem Bd.setD {K : PySem.W.Frag} {a p : Addr} {H0 H : Hp} {L : List (Addr × HO)} {xs : List (Key × V)} {o : HO} (k : Bd K a H0 H L) (m : (p, HO.dK xs) ∈ L) : Bd K a H0 (upd H p o) ((p, o) :: L.filter fun x => decide (x.1 ≠ p)) := by
  have e := k.get m
  obtain ⟨h0, na, _⟩ := k.al _ m
  refine ⟨k.st.dic e, k.fr.own h0, fun x mx => ?_⟩
  rcases List.mem_cons.mp mx with rfl | mx
  · exact ⟨h0, na, upd_same⟩
  · obtain ⟨mx, ne⟩ := List.mem_filter.mp mx
    obtain ⟨h1, h2, h3⟩ := k.al x mx
    exact ⟨h1, h2, by rw [upd_ne (of_decide_eq_true ne)]; exact h3⟩
/-- a list or dict of L is written; of the others, L' in L with other addresses -/
theorem Bd.put {K : PySem.W.Frag} {a p : Addr} {H0 H : Hp} {L : List (Addr × HO)} {o u : HO} (L' : List (Addr × HO)) (k : Bd K a H0 H L) (m : (p, u) ∈ L) (hu : (∃ xs, u = .lst xs) ∨ ∃ xs, u = .dK xs) (h : ∀ x ∈ L', x ∈ L) (ht : ∀ x ∈ L', ∃ xs, x.2 = .tup xs) : Bd K a H0 (upd H p o) ((p, o) :: L') := by
  have e := k.get m
  obtain ⟨h0, na, _⟩ := k.al _ m
  refine ⟨?_, k.fr.own h0, fun x mx => ?_⟩
  · rcases hu with ⟨xs, rfl⟩ | ⟨xs, rfl⟩
    · exact k.st.own e na.symm
    · exact k.st.dic e
  · rcases List.mem_cons.mp mx with rfl | mx
    · exact ⟨h0, na, upd_same⟩
    · obtain ⟨h1, h2, h3⟩ := k.al x (h x mx)
      obtain ⟨xs, hx⟩ := ht x mx
      refine ⟨h1, h2, ?_⟩
      rw [upd_ne (fun z => ?_)]
      · exact h3
      · rw [z, e, hx] at h3
        rcases hu with ⟨ys, rfl⟩ | ⟨ys, rfl⟩ <;> cases h3
/-- all tuples of L are tuples since -/
theorem Bd.tu {K : PySem.W.Frag} {a : Addr} {H0 H : Hp} {L : List (Addr × HO)} (k : Bd K a H0 H L) (s : StAt K H0 a) : Tu H0 H := fun p xs h => k.fr p _ (ne_of h s.spec (fun z => nomatch z)) h
theorem s_newT {K : PySem.W.Frag} {a : Addr} {H0 H : Hp} {L : List (Addr × HO)} {xs : List V} {R : Addr → Prop} (k : Bd K a H0 H L) (h : Nat.ble xs.length 1000 = true) (q : ∀ p, H p = none → Bd K a H0 (upd H p (.tup xs)) ((p, .tup xs) :: L) → R p) : xs.length ≤ sizeLine ∧ ∀ p, H p = none → R p :=
  Y.s_new h fun p hp => q p hp (k.new hp)
theorem s_newL {K : PySem.W.Frag} {a : Addr} {H0 H : Hp} {L : List (Addr × HO)} {xs : List V} {R : Addr → Prop} (k : Bd K a H0 H L) (h : Nat.ble xs.length 1000 = true) (q : ∀ p, H p = none → Bd K a H0 (upd H p (.lst xs)) ((p, .lst xs) :: L) → R p) : xs.length ≤ sizeLine ∧ ∀ p, H p = none → R p :=
  Y.s_new h fun p hp => q p hp (k.new hp)
end G
end
section
namespace G
open PySem L2 C8
variable {K : PySem.W.Frag}
/-! ### rows and things -/
inductive Row where
  | put (b n : Int) | add (b c d : Int) | less (b c d : Int) | load (b c : Int) | store (c b : Int) | zero (b n : Int) | go (n : Int) | call (n : Int)
  | say (b : Int) | hear (b : Int) | which (b : Int) | room (b : Int) | enter (b : Int) | alarm (b : Int) | stop
def Row.vs : Row → List V
  | .put b n => [.str "put", .int b, .int n]
  | .add b c d => [.str "add", .int b, .int c, .int d]
  | .less b c d => [.str "less", .int b, .int c, .int d]
  | .load b c => [.str "load", .int b, .int c]
  | .store c b => [.str "store", .int c, .int b]
  | .zero b n => [.str "zero", .int b, .int n]
  | .go n => [.str "go", .int n]
  | .call n => [.str "call", .int n]
  | .say b => [.str "say", .int b]
  | .hear b => [.str "hear", .int b]
  | .which b => [.str "which", .int b]
  | .room b => [.str "room", .int b]
  | .enter b => [.str "enter", .int b]
  | .alarm b => [.str "alarm", .int b]
  | .stop => [.str "stop"]
def Bx (b : Int) : Prop := 0 ≤ b ∧ b < 4
def Nm (n : Int) : Prop := 0 ≤ n ∧ n < 1000
def Row.ok : Row → Prop
  | .put b n => Bx b ∧ Nm n
  | .add b c d => Bx b ∧ Bx c ∧ Bx d
  | .less b c d => Bx b ∧ Bx c ∧ Bx d
  | .load b c => Bx b ∧ Bx c
  | .store c b => Bx c ∧ Bx b
  | .zero b n => Bx b ∧ Nm n
  | .go n => Nm n
  | .call n => Nm n
  | .say b => Bx b
  | .hear b => Bx b
  | .which b => Bx b
  | .room b => Bx b
  | .enter b => 0 ≤ b ∧ b < 2
  | .alarm b => Bx b
  | .stop => True
inductive Thing where
  | num (n : Int) | row (p : Addr) (r : Row)
def Thing.v : Thing → V
  | .num n => .int n
  | .row p _ => .ref p
def Thing.At (K : PySem.W.Frag) (H : Hp) : Thing → Prop
  | .num n => Nm n
  | .row p r => TpAt K H p r.vs ∧ r.ok
def Things (K : PySem.W.Frag) (H : Hp) (ts : List Thing) : Prop := ∀ t ∈ ts, t.At K H
theorem Thing.At.tu {H H' : Hp} {t : Thing} (h : t.At K H) (f : Tu H H') : t.At K H' := by
  cases t with
  | num n => exact h
  | row p r => exact ⟨h.1.tu f, h.2⟩
theorem Things.tu {H H' : Hp} {ts : List Thing} (h : (Things K) H ts) (f : Tu H H') : (Things K) H' ts := fun t m => (h t m).tu f
theorem thing_snoc {H : Hp} {ts : List Thing} {t : Thing} (h : (Things K) H ts) (g : t.At K H) : (Things K) H (ts ++ [t]) := fun u m => by
  rcases List.mem_append.mp m with m | m
  · exact h u m
  · rw [List.mem_singleton] at m; rw [m]; exact g
/-- a new list of things -/
def CellsAt (K : PySem.W.Frag) (H : Hp) (p : Addr) (ts : List Thing) : Prop := H p = some (.lst (ts.map Thing.v)) ∧ (Things K) H ts ∧ 16 ≤ ts.length ∧ ts.length ≤ 40
end G
end
section
/-! ### the bundle, with lists of things -/
namespace G
open PySem L2
variable {K : PySem.W.Frag}
section
variable {α : Type} {x y0 y1 y2 y3 y4 y5 y6 y7 : α} {l : List α}
theorem i0 : x ∈ x :: l := .head _
theorem i1 : x ∈ y0 :: x :: l := .tail _ (.head _)
theorem i2 : x ∈ y0 :: y1 :: x :: l := .tail _ i1
theorem i3 : x ∈ y0 :: y1 :: y2 :: x :: l := .tail _ i2
theorem i4 : x ∈ y0 :: y1 :: y2 :: y3 :: x :: l := .tail _ i3
theorem i5 : x ∈ y0 :: y1 :: y2 :: y3 :: y4 :: x :: l := .tail _ i4
theorem i6 : x ∈ y0 :: y1 :: y2 :: y3 :: y4 :: y5 :: x :: l := .tail _ i5
theorem i7 : x ∈ y0 :: y1 :: y2 :: y3 :: y4 :: y5 :: y6 :: x :: l := .tail _ i6
theorem i8 : x ∈ y0 :: y1 :: y2 :: y3 :: y4 :: y5 :: y6 :: y7 :: x :: l := .tail _ i7
theorem sub0 : ∀ z ∈ ([] : List α), z ∈ l := fun _ m => nomatch m
theorem sub_cons {r : List α} (h : x ∈ l) (t : ∀ z ∈ r, z ∈ l) : ∀ z ∈ x :: r, z ∈ l := fun z m => by
  rcases List.mem_cons.mp m with rfl | m
  · exact h
  · exact t z m
theorem sub1 (h : x ∈ l) : ∀ z ∈ [x], z ∈ l := sub_cons h sub0
theorem sub2 (h : x ∈ l) (h2 : y0 ∈ l) : ∀ z ∈ [x, y0], z ∈ l := sub_cons h (sub1 h2)
theorem sub3 (h : x ∈ l) (h2 : y0 ∈ l) (h3 : y1 ∈ l) : ∀ z ∈ [x, y0, y1], z ∈ l := sub_cons h (sub2 h2 h3)
theorem ks0 {p : Addr} {L : List (Addr × HO)} : ∀ z ∈ ([] : List (Addr × HO)), z ∈ L ∧ z.1 ≠ p := fun _ m => nomatch m
theorem ks_cons {p : Addr} {L r : List (Addr × HO)} {x : Addr × HO} (h : x ∈ L) (n : x.1 ≠ p) (t : ∀ z ∈ r, z ∈ L ∧ z.1 ≠ p) : ∀ z ∈ x :: r, z ∈ L ∧ z.1 ≠ p := fun z m => by
  rcases List.mem_cons.mp m with rfl | m
  · exact ⟨h, n⟩
  · exact t z m
end
theorem things_nil {H : Hp} : (Things K) H [] := fun _ m => nomatch m
theorem things_cons {H : Hp} {t : Thing} {ts : List Thing} (g : t.At K H) (h : (Things K) H ts) : (Things K) H (t :: ts) := fun u m => by
  rcases List.mem_cons.mp m with rfl | m
  · exact g
  · exact h u m
theorem things_set {H : Hp} {t : Thing} {ts : List Thing} {i : Nat} (h : (Things K) H ts) (g : t.At K H) : (Things K) H (ts.set i t) := fun u m => by
  rcases List.mem_or_eq_of_mem_set m with m | rfl
  · exact h u m
  · exact g
theorem things_app {H : Hp} {ts us : List Thing} (h : (Things K) H ts) (g : (Things K) H us) : (Things K) H (ts ++ us) := fun u m => by
  rcases List.mem_append.mp m with m | m
  · exact h u m
  · exact g u m
theorem at_th {ts : List Thing} {i : Int} (h0 : 0 ≤ i) (h1 : i < ts.length) : ∃ t, atI (ts.map Thing.v) i = some t.v ∧ t ∈ ts := by
  have e : ts[i.toNat]? = some ts[i.toNat] := List.getElem?_eq_getElem (by omega)
  exact ⟨_, at_of (j := i.toNat) (by omega) (by rw [List.getElem?_map, e]; rfl), List.getElem_mem _⟩
theorem ixN_nat {n k : Nat} (h : k < n) : ixN n (k : Int) = some k := by
  unfold ixN
  rw [if_pos (by omega), if_pos (by omega)]
  simp
structure Bt (K : PySem.W.Frag) (a : Addr) (H0 H : Hp) (L : List (Addr × HO)) (T : List (List Thing)) : Prop where
  b : Bd K a H0 H L
  t : ∀ ts ∈ T, (Things K) H ts
section
variable {K : PySem.W.Frag} {a p : Addr} {H0 H H' : Hp} {L : List (Addr × HO)} {T : List (List Thing)} {o : HO} {xs ys : List V}
theorem Bt.st (k : Bt K a H0 H L T) : StAt K H a := k.b.st
theorem Bt.fr (k : Bt K a H0 H L T) : Fr a H0 H := k.b.fr
theorem Bt.get (k : Bt K a H0 H L T) (m : (p, o) ∈ L) : H p = some o := k.b.get m
theorem Bt.start (h : StAt K H a) : Bt K a H H [] [] := ⟨Bd.start h, fun _ m => nomatch m⟩
theorem Bt.new (h : H p = .none) (k : Bt K a H0 H L T) : Bt K a H0 (upd H p o) ((p, o) :: L) T :=
  ⟨k.b.new h, fun ts m => (k.t ts m).tu (Tu.new (Tu.refl H) h)⟩
theorem Bt.step (f : Fr a H H') (s : StAt K H' a) (k : Bt K a H0 H L T) : Bt K a H0 H' L T :=
  ⟨k.b.step f s, fun ts m => (k.t ts m).tu (Tu.fr (Tu.refl H) f k.st.spec)⟩
theorem Bt.less (k : Bt K a H0 H L T) {L' : List (Addr × HO)} {T' : List (List Thing)} (h : ∀ x ∈ L', x ∈ L) (ht : ∀ x ∈ T', x ∈ T) : Bt K a H0 H L' T' := ⟨k.b.less h, fun ts m => k.t ts (ht ts m)⟩
theorem Bt.set (k : Bt K a H0 H L T) (m : (p, HO.lst xs) ∈ L) : Bt K a H0 (upd H p o) ((p, o) :: L.filter fun x => decide (x.1 ≠ p)) T :=
  ⟨k.b.set m, fun ts mt => (k.t ts mt).tu (Tu.lst (Tu.refl H) (k.get m))⟩
/-- a list is written; nothing else of L is kept -/
theorem Bt.put1 (k : Bt K a H0 H L T) (m : (p, HO.lst xs) ∈ L) : Bt K a H0 (upd H p o) [(p, o)] T :=
  ⟨k.b.put [] m (.inl ⟨_, rfl⟩) (fun _ m => nomatch m) (fun _ m => nomatch m), fun ts mt => (k.t ts mt).tu (Tu.lst (Tu.refl H) (k.get m))⟩
theorem Bd.setK (k : Bd K a H0 H L) {L' : List (Addr × HO)} (m : (p, HO.lst xs) ∈ L) (h : ∀ x ∈ L', x ∈ L ∧ x.1 ≠ p) : Bd K a H0 (upd H p o) ((p, o) :: L') := by
  have e := k.get m
  obtain ⟨h0, na, _⟩ := k.al _ m
  refine ⟨k.st.own e na.symm, k.fr.own h0, fun x mx => ?_⟩
  rcases List.mem_cons.mp mx with rfl | mx
  · exact ⟨h0, na, upd_same⟩
  · obtain ⟨mx, ne⟩ := h x mx
    obtain ⟨h1, h2, h3⟩ := k.al x mx
    exact ⟨h1, h2, by rw [upd_ne ne]; exact h3⟩
theorem Bt.setK (k : Bt K a H0 H L T) {L' : List (Addr × HO)} (m : (p, HO.lst xs) ∈ L) (h : ∀ x ∈ L', x ∈ L ∧ x.1 ≠ p) : Bt K a H0 (upd H p o) ((p, o) :: L') T :=
  ⟨k.b.setK m h, fun ts mt => (k.t ts mt).tu (Tu.lst (Tu.refl H) (k.get m))⟩
theorem Bt.add (k : Bt K a H0 H L T) {ts : List Thing} (h : (Things K) H ts) : Bt K a H0 H L (ts :: T) := ⟨k.b, fun us m => by
  rcases List.mem_cons.mp m with rfl | m
  · exact h
  · exact k.t us m⟩
theorem Bt.row (k : Bt K a H0 H L T) (r : Row) (m : (p, HO.tup r.vs) ∈ L) (h : r.ok) : (Thing.row p r).At K H := ⟨.inl (k.get m), h⟩
theorem b_newT {R : Addr → Prop} (k : Bt K a H0 H L T) (h : Nat.ble xs.length 1000 = true) (q : ∀ p, H p = none → Bt K a H0 (upd H p (.tup xs)) ((p, .tup xs) :: L) T → R p) : xs.length ≤ sizeLine ∧ ∀ p, H p = none → R p :=
  Y.s_new h fun p hp => q p hp (k.new hp)
theorem b_newL {R : Addr → Prop} (k : Bt K a H0 H L T) (h : Nat.ble xs.length 1000 = true) (q : ∀ p, H p = none → Bt K a H0 (upd H p (.lst xs)) ((p, .lst xs) :: L) T → R p) : xs.length ≤ sizeLine ∧ ∀ p, H p = none → R p :=
  Y.s_new h fun p hp => q p hp (k.new hp)
theorem Bt.none (k : Bt K a H0 H L T) (h : H p = .none) : H0 p = .none := k.b.none h
end
end G
end
section
/-! ### more readings: enumerate, texts, chains -/
namespace Y
open PySem L2 C8
section
variable {σ : L2.St} {H : Hp} {Q : VK} {v x y z : V} {n k : Nat} {i j l : Int} {ta tb tc te : TE} {tt : TT} {A : TA} {K : PySem.W.Frag} {p p1 p2 : Addr} {xs ys : List V} {X : Cx}
def rStrOf : List V → Hp → VK → Prop := fun xs H Q => (∃ i : Int, xs = [V.int i] ∧ i.natAbs.log2 < 1920 ∧ Q (.str (toString i)) H) ∨ ∃ a, xs = [V.str a] ∧ Q (.str a) H
theorem cl_str : CallR X (.type "str") rStrOf := by
  intro pins s σ H xs us Q I r h
  rcases h with h | h
  · exact call_str_int pins s σ H xs us Q I r h
  · exact SkE.call_str_str pins s σ H xs us Q I r h
theorem s_strI (h : i.natAbs.log2 < 1920) (q : Q (.str (toString i)) H) : rStrOf [.int i] H Q := .inl ⟨i, rfl, h, q⟩
theorem s_strS {a : Str} (q : Q (.str a) H) : rStrOf [.str a] H Q := .inr ⟨a, rfl, q⟩
def rLenS : List V → Hp → VK → Prop := fun xs H Q => ∃ z : Str, xs = [V.str z] ∧ z.length ≤ sizeLine ∧ Q (.int z.length) H
theorem cl_lenS : CallR X (.builtin "len") rLenS := call_len_str
theorem s_lenS {a : Str} (h : a.length ≤ sizeLine) (q : Q (.int a.length) H) : rLenS [.str a] H Q := ⟨a, rfl, h, q⟩
def rIntS : List V → Hp → VK → Prop := fun xs H Q => ∃ a n, xs = [V.str a] ∧ PySem.intText? a = some n ∧ a.length ≤ 640 ∧ Q (.int n) H
theorem cl_intS : CallR X (.type "int") rIntS := call_int_str
theorem s_intS {a : Str} {n : Int} (h : PySem.intText? a = some n) (hl : a.length ≤ 640) (q : Q (.int n) H) : rIntS [.str a] H Q := ⟨a, n, rfl, h, hl, q⟩
def rInSign (neg : Bool) : R2 := fun x y H Q => ∃ (c : Nat) (z : Str), x = .str ⟨#[c]⟩ ∧ y = .str z ∧ Q (.bl (if neg then !decide (c ∈ z.cps.toList) else decide (c ∈ z.cps.toList))) H
theorem op_inSign : OpR X (compareOp .In) (rInSign false) := op_in_sign
theorem op_ninSign : OpR X (compareOp .NotIn) (rInSign true) := op_notIn_sign
theorem s_ninSign {c : Nat} {z : Str} (q : Q (.bl (!decide (c ∈ z.cps.toList))) H) : rInSign true (.str ⟨#[c]⟩) (.str z) H Q := ⟨c, z, rfl, rfl, q⟩
def rJoin (K : PySem.W.Frag) : V → List V → Hp → VK → Prop := fun x xs H Q => ∃ a p, ∃ ys : List Str, x = V.str a ∧ xs = [.ref p] ∧ (SqL K H p (ys.map V.str) ∨ SqT K H p (ys.map V.str)) ∧ (ys.map (·.length)).sum + ys.length * a.length ≤ 16777216 ∧ Q (.str (Txt.join a ys)) H
def rSplit : V → List V → Hp → VK → Prop := fun x xs H Q => ∃ a b, x = V.str a ∧ xs = [.str b] ∧ (b.length == 0) = false ∧ a.length + 2 ≤ sizeLine ∧ rNewStrs (Txt.split a b) H Q
variable {o e : Expr} {to : TE}
theorem pe_join {apos pos : Pos} (ho : PE X o to) (he : PE X e te) (hs : starEach [e] X.env = [(false, eval e X.env)] := by rfl) (hbase : attributeBase o "join" X.env (eval o X.env) = eval o X.env := by rfl) (hline : (apos.endLine == pos.line) = true := by rfl) :
    PE X (.Call (.Attribute o "join" apos) [e] [] pos) (tM1 (rJoin X.K) to te) := L2.pe_join ho he hs hbase hline
theorem pe_split {apos pos : Pos} (ho : PE X o to) (he : PE X e te) (hs : starEach [e] X.env = [(false, eval e X.env)] := by rfl) (hbase : attributeBase o "split" X.env (eval o X.env) = eval o X.env := by rfl) (hline : (apos.endLine == pos.line) = true := by rfl) :
    PE X (.Call (.Attribute o "split" apos) [e] [] pos) (tM1 rSplit to te) := L2.pe_split ho he hs hbase hline
def M1R (te : TE) (σ : L2.St) (r : V → List V → Hp → VK → Prop) (Q : VK) : V → Hp → Prop := fun x H1 => (∃ a, x = V.str a) ∧ te σ H1 fun y H2 => r x [y] H2 Q
theorem s_m1 {r : V → List V → Hp → VK → Prop} (q : to σ H (M1R te σ r Q)) : tM1 r to te σ H Q := q
theorem s_m1s {r : V → List V → Hp → VK → Prop} {a : Str} (q : te σ H fun y H2 => r (.str a) [y] H2 Q) : M1R te σ r Q (.str a) H := ⟨⟨a, rfl⟩, q⟩
theorem s_joinL {a : Str} {ys : List Str} (h : SqL K H p (ys.map V.str)) (hl : (ys.map (·.length)).sum + ys.length * a.length ≤ 16777216) (q : Q (.str (Txt.join a ys)) H) : rJoin K (.str a) [.ref p] H Q := ⟨a, p, ys, rfl, rfl, .inl h, hl, q⟩
theorem s_split {a b : Str} (hb : (b.length == 0) = false) (ha : a.length + 2 ≤ sizeLine) (q : ∀ p, H p = none → Q (.ref p) (upd H p (.lst ((Txt.split a b).map V.str)))) : rSplit (.str a) [.str b] H Q := ⟨a, b, rfl, rfl, hb, ha, q⟩
/-- a chained comparison -/
theorem s_chain {r r' : R2} (q : ta σ H fun x H1 => tb σ H1 fun y H2 => r x y H2 fun z H3 => ∃ k, z = .bl k ∧ if k = true then tc σ H3 fun w H4 => r' y w H4 Q else Q (.bl false) H3) : tChain r r' ta tb tc σ H Q := q
/-- enumerate, behind its argument -/
def EnumRest (K : PySem.W.Frag) (R : It → Hp → Prop) : List V → Hp → Prop := fun vs H1 => ∃ a xs, vs = [.ref a] ∧ SqL K H1 a xs ∧ R (Ite K a) H1
theorem s_enum {R : It → Hp → Prop} (q : A σ H (EnumRest K R)) : iEnum K A σ H R := q
theorem s_forE {a : Addr} {g : TG} {tb : TS} {D : Ends} (ha : SqL K H a xs) (Pv : Nat → L2.St → Hp → Prop) (p0 : Pv 0 σ H) (hl : ∀ i σ H, Pv i σ H → SqL K H a xs)
    (hs : ∀ i x T σ H, xs[i]? = some x → Pv i σ H → H T = none → g (.ref T) σ (upd H T (.tup [.int (i : Nat), x])) fun σ2 H2 => tb { D with nx := Pv (i + 1), ct := Pv (i + 1), bk := D.nx } σ2 H2) (hd : ∀ σ H, Pv xs.length σ H → D.nx σ H) :
    EnumRest K (ForRest g tb D σ) [V.ref a] H := by
  refine ⟨a, xs, rfl, ha, for_it walk_enum Pv p0 (fun i σ H _ p => hl i σ H p) (fun i x σ H H' hi p yy => ?_) hd⟩
  obtain ⟨T, u, w, rfl, hT, rfl, f1, f2⟩ := yy
  cases f1
  exact hs i w T σ H f2 p hT
/-- a text, sign by sign -/
def StrRest (R : It → Hp → Prop) : V → Hp → Prop := fun x H1 => ∃ z, x = V.str z ∧ R (Its z) H1
theorem s_its {R : It → Hp → Prop} (q : te σ H (StrRest R)) : iStr te σ H R := q
theorem s_lcS {z : Str} (h : ∀ D, H D = none → ∃ Inv : Nat → List V → Hp → Prop, Inv 0 [] (upd H D (.lst [])) ∧
      (∀ (i : Nat) c acc H, z.cps[i]? = some c → acc.length ≤ i → H D = some (.lst acc) → Inv i acc H → tt ((σ.set k none).set k (some (.str ⟨#[c]⟩))) H fun b H3 =>
        if b = true then te ((σ.set k none).set k (some (.str ⟨#[c]⟩))) H3 fun y H4 => ∃ acc, H4 D = some (.lst acc) ∧ acc.length < sizeLine ∧ LcP D Inv (i + 1) (upd H4 D (.lst (acc ++ [y]))) else LcP D Inv (i + 1) H3) ∧
      ∀ acc H, H D = some (.lst acc) → acc.length ≤ z.cps.size → Inv z.cps.size acc H → Q (.ref D) H) :
    StrRest (LcRest (gName k) tt te [k] σ Q) (V.str z) H := by
  refine ⟨z, rfl, fun D hD => ?_⟩
  obtain ⟨Inv, i0, ht, hd⟩ := h D hD
  refine lc_it walk_str (LcP D Inv) ⟨[], upd_same, Nat.zero_le _, i0⟩ (fun _ _ _ _ => True.intro) (fun i x H H' hi pp yy => ?_) (fun H ⟨acc, ha, hl, hv⟩ => hd acc H ha hl hv)
  obtain ⟨acc, ha, hl, hv⟩ := pp
  obtain ⟨rfl, c, hc, rfl⟩ := yy
  show (((σ.set k none).set k _).set k none) = σ.set k none ∧ _
  refine ⟨by rw [List.set_set, List.set_set], ht i c acc _ hc hl ha hv⟩
theorem s_ixS {z : Str} {c : Nat} (h : z.length ≤ sizeLine) (e : atI z.cps.toList i = some c) (q : Q (.str ⟨#[c]⟩) H) : rIxS (.str z) (.int i) H Q := ⟨z, i, c, rfl, rfl, h, e, q⟩
theorem s_sl {r : V → Option Int → Option Int → Hp → VK → Prop} {tl th : TO} (q : te σ H fun x H1 => tl σ H1 fun l H2 => th σ H2 fun u H3 => r x l u H3 Q) : tSl r te tl th σ H Q := q
def PartR (Q : Option Int → Hp → Prop) : V → Hp → Prop := fun x H1 => ∃ i, x = V.int i ∧ Q (some i) H1
theorem s_part {Q : Option Int → Hp → Prop} (q : te σ H (PartR Q)) : tPart te σ H Q := q
theorem s_partI {Q : Option Int → Hp → Prop} (q : Q (some i) H) : PartR Q (.int i) H := ⟨i, rfl, q⟩
theorem s_noPart {Q : Option Int → Hp → Prop} (q : Q none H) : tNoPart σ H Q := q
theorem cut1 (x : V) (xs : List V) : cutV (x :: xs) (some 1) none = xs ∧ ¬ (HT.sIx (x :: xs).length 0 (some 1) = 0 ∧ HT.sIx (x :: xs).length (x :: xs).length none = (x :: xs).length) := by
  have e1 : HT.sIx (x :: xs).length 0 (some 1) = 1 := by
    simp [HT.sIx]
  have e2 : HT.sIx (x :: xs).length (x :: xs).length none = (x :: xs).length := rfl
  constructor
  · unfold cutV
    rw [e1, e2]
    simp
  · rw [e1]
    intro z
    exact absurd z.1 (by decide)
theorem s_slT1 (h : SqT K H p (x :: xs)) (q : ∀ p', H p' = none → Q (.ref p') (upd H p' (.tup xs))) : rSlT K (.ref p) (some 1) none H Q :=
  ⟨p, x :: xs, rfl, h, (cut1 x xs).2, by rw [(cut1 x xs).1]; exact q⟩
theorem s_slL1 (h : SqL K H p (x :: xs)) (q : ∀ p', H p' = none → Q (.ref p') (upd H p' (.lst xs))) : rSlL K (.ref p) (some 1) none H Q :=
  ⟨p, x :: xs, rfl, h, by rw [(cut1 x xs).1]; exact q⟩
end
end Y
namespace G
open PySem L2
variable {K : PySem.W.Frag}
theorem StAt.same {K : PySem.W.Frag} {H H' : Hp} {a : Addr} (h : StAt K H a) (s : Same H H') : StAt K H' a := by
  obtain ⟨p, ns, i, m, r, e, q, z⟩ := h
  refine ⟨p, ns, i, m, r, s _ _ e, ?_, z⟩
  rcases q with ⟨o, q⟩ | q
  · exact .inl ⟨o, s _ _ q⟩
  · exact .inr q
theorem Bt.same {K : PySem.W.Frag} {a : Addr} {H0 H H' : Hp} {L : List (Addr × HO)} {T : List (List Thing)} (k : Bt K a H0 H L T) (s : Same H H') : Bt K a H0 H' L T :=
  k.step (fun b u _ e => s b u e) (k.st.same s)
theorem Things.same {H H' : Hp} {ts : List Thing} (h : (Things K) H ts) (s : Same H H') : (Things K) H' ts := h.tu fun p xs e => s p _ e
end G
end
section
namespace G
open PySem L2 C8
/-! ### the check of a kind -/
def ownW : List Str := ["say", "hear", "which", "room", "enter", "alarm", "stop"]
def KindAt (H : Hp) (p : Addr) (bs : List Bool) : Prop := H p = some (.tup (bs.map V.bl)) ∧ bs.length = 7
theorem KindAt.mono {H H' : Hp} {p : Addr} {bs : List Bool} (k : KindAt H p bs) (s : Same H H') : KindAt H' p bs := ⟨s _ _ k.1, k.2⟩
def spCheckKind : Sp := fun vs H Q _ => ∃ p bs, vs = [.ref p] ∧ KindAt H p bs ∧ ∀ H', Same H H' → Q .non H'
theorem u_ckind {H : Hp} {Q : VK} {E : XK} {p : Addr} {bs : List Bool} (h : KindAt H p bs) (q : ∀ H', Same H H' → Q .non H') : spCheckKind ([.ref p] ++ []) H Q E := ⟨p, bs, rfl, h, q⟩
section
variable {P : Program} {w : World} {K : PySem.W.Frag} {mg : Str → Option Value} {base : Heap}
abbrev s_check_kind : Stmt := top 29
theorem sc_check_kind : FnScope ["kind", "truth"] ["kind"] (fnScope s_check_kind) := fnScope_by (by decide +kernel)
theorem ok_check_kind {f : Addr} {fd : FuncData} (F : Def K mg "check_kind" s_check_kind f fd) (b : Binds K fd ["kind"] []) (T : Txt K mg) (tO : TupG K mg "OWN" (ownW.map V.str)) : Cal P w K mg base 1 "check_kind" spCheckKind [] := by
  obtain ⟨aO, v_OWN, qO⟩ := tO
  refine cal0 F b .nil sc_check_kind (fun vs H Q E h => ?_) (fun cdv A outer s H vs Q E hr h => ?_)
  · obtain ⟨a, bs, rfl, _⟩ := h
    rfl
  · obtain ⟨p, bs, rfl, ⟨hp, hl⟩, q⟩ := h
    have nd := sc_check_kind.nd
    refine ⟨_, (pss_one (ps_if (PW.pt (pw_or (pt_cmpR op_ne (pe_callB Y.cl_len (by rfl) T.n_len PySem.boot_len (pa_cons (pv 0) pa_nil)) (pe_callB Y.cl_len (by rfl) T.n_len PySem.boot_len (pa_cons (pe_gc (by rfl) v_OWN) pa_nil)) (nomark _)) (pw_or1 (pt_not (pt_val (pe_callB (Y.cl_all rfl) (by rfl) T.n_all (by decide +kernel) (pa_cons (pe_lc (own := [("truth", 1)]) (g := gName 1) (by rfl) nd (pi_tup (pv 0)) (blkOk_by (N := ["kind", "truth"]) (sc := fnScope s_check_kind) (by decide +kernel)) (fun _ _ _ _ _ => (pg_name (i := 1) nd rfl (by first | exact Or.inl rfl | exact Or.inr rfl))) (fun _ _ _ _ _ => pts_nil) (fun _ _ _ _ _ => (pe_callB (show CallR _ _ (rIsi K) from call_isi) (by rfl) T.n_isinstance (by decide +kernel) (pa_cons (pv 1) (pa_cons (Y.pe_bty (T := "bool") (by rfl) T.n_bool (by decide +kernel)) pa_nil))))) pa_nil)))))))
      (pss_one ps_never)
      pss_nil)), ?_⟩
    walk_at "b"
    refine Y.s_lenT (qO _) ?_
    walk_at "s"
    have e7 : (((bs.map V.bl).length : Nat) : Int) = ((ownW.map V.str).length : Nat) := by rw [List.length_map, hl]; rfl
    refine Y.s_dNT e7 ?_
    walk_at "s"
    refine Y.s_lcT (SqT.of hp) fun D hD => ⟨fun i acc Hx => acc = (List.replicate i true).map V.bl ∧ Same H Hx, ?_, ?_, ?_, ?_⟩
    · exact ⟨rfl, by walk_at "sm"⟩
    · rintro i acc Hx _ ⟨_, sx⟩
      exact SqT.of (sx _ _ hp)
    · rintro i x acc Hx hx hl2 hD2 ⟨rfl, sx⟩
      obtain ⟨u, rfl⟩ : ∃ u, x = V.bl u := by
        rw [List.getElem?_map] at hx
        cases e : bs[i]? with
        | none => rw [e] at hx; cases hx
        | some u => rw [e] at hx; exact ⟨u, (Option.some.inj hx).symm⟩
      have hi : i < 7 := by
        obtain ⟨h1, _⟩ := List.getElem?_eq_some_iff.mp hx
        rw [List.length_map, hl] at h1
        exact h1
      walk_at "s"
      exact Y.s_lcE hD2 hl2 (by omega) ⟨by rw [List.replicate_succ', List.map_append]; rfl, Y.same_own hD sx⟩
    · rintro acc Hx hD2 hl2 ⟨rfl, sx⟩
      walk_at "s"
      refine Y.s_all (SqL.of hD2) ?_
      rw [Y.all_true]
      walk_at "s"
      exact q _ sx
end
end G
end
section
namespace G
open PySem L2 C8
variable {K : PySem.W.Frag}
/-! ### the checks of things and cells -/
theorem CellsAt.same {H H' : Hp} {p : Addr} {ts : List Thing} (h : (CellsAt K) H p ts) (s : Same H H') : (CellsAt K) H' p ts := ⟨s _ _ h.1, h.2.1.same s, h.2.2⟩
def limT : List (Str × List Int) := [("put", [3, 999]), ("add", [3, 3, 3]), ("less", [3, 3, 3]), ("load", [3, 3]), ("store", [3, 3]), ("zero", [3, 999]), ("go", [999]), ("call", [999]), ("say", [3]), ("hear", [3]), ("which", [3]), ("room", [3]), ("enter", [1]), ("alarm", [3]), ("stop", [])]
def limOf (z : Str) : Option (List Int) := (limT.find? fun q => decide (q.1 = z)).map (·.2)
def Row.word : Row → Str
  | .put _ _ => "put" | .add _ _ _ => "add" | .less _ _ _ => "less" | .load _ _ => "load" | .store _ _ => "store" | .zero _ _ => "zero" | .go _ => "go" | .call _ => "call"
  | .say _ => "say" | .hear _ => "hear" | .which _ => "which" | .room _ => "room" | .enter _ => "enter" | .alarm _ => "alarm" | .stop => "stop"
def Row.nums : Row → List Int
  | .put b n => [b, n] | .add b c d => [b, c, d] | .less b c d => [b, c, d] | .load b c => [b, c] | .store c b => [c, b] | .zero b n => [b, n] | .go n => [n] | .call n => [n]
  | .say b => [b] | .hear b => [b] | .which b => [b] | .room b => [b] | .enter b => [b] | .alarm b => [b] | .stop => []
theorem Row.vs_eq (r : Row) : r.vs = .str r.word :: r.nums.map V.int := by cases r <;> rfl
def Row.lims : Row → List Int
  | .put _ _ => [3, 999] | .add _ _ _ => [3, 3, 3] | .less _ _ _ => [3, 3, 3] | .load _ _ => [3, 3] | .store _ _ => [3, 3] | .zero _ _ => [3, 999] | .go _ => [999] | .call _ => [999]
  | .say _ => [3] | .hear _ => [3] | .which _ => [3] | .room _ => [3] | .enter _ => [1] | .alarm _ => [3] | .stop => []
theorem limOf_word (r : Row) : limOf r.word = some r.lims := by cases r <;> (dsimp only [Row.word, Row.lims]; decide +kernel)
/-- each number within its limit -/
def Within : List Int → List Int → Prop
  | [], [] => True
  | n :: ns, m :: ms => (0 ≤ n ∧ n ≤ m) ∧ Within ns ms
  | _, _ => False
theorem Row.within (r : Row) (h : r.ok) : Within r.nums r.lims := by
  cases r <;> simp only [Row.ok, Bx, Nm] at h <;> simp only [Row.nums, Row.lims, Within, and_true] <;> omega
theorem Within.len : ∀ {ns ms : List Int}, Within ns ms → ns.length = ms.length
  | [], [], _ => rfl
  | _ :: _, _ :: _, h => congrArg (· + 1) (Within.len h.2)
theorem Within.at_ : ∀ {ns ms : List Int}, Within ns ms → ∀ {i : Nat} {n m : Int}, ns[i]? = some n → ms[i]? = some m → 0 ≤ n ∧ n ≤ m
  | _ :: _, _ :: _, h, 0, _, _, e1, e2 => by cases e1; cases e2; exact h.1
  | _ :: _, _ :: _, h, _ + 1, _, _, e1, e2 => Within.at_ h.2 e1 e2
/-- the table of limits -/
structure LimAt (K : PySem.W.Frag) (w : World) (d : Addr) (kvs : List (Str × V)) : Prop where
  dct : Y.DictAt K w d kvs
  yes : ∀ z ls, limOf z = some ls → ∃ a, Y.valZ kvs z = some (.ref a) ∧ ∀ H : Hp, SqT K H a (ls.map V.int)
  no : ∀ z, limOf z = none → Y.valZ kvs z = none
def LimG (K : PySem.W.Frag) (w : World) (mg : Str → Option Value) : Prop := ∃ d kvs, (∃ u, mg "LIMITS" = some u ∧ RelV (.ref d) u) ∧ LimAt K w d kvs
def NumIs (K : PySem.W.Frag) (H : Hp) (v : V) (lo hi : Int) (b : Bool) : Prop := (∃ i, v = .int i ∧ b = decide (lo ≤ i ∧ i ≤ hi)) ∨ (b = false ∧ ((∃ c, v = .bl c) ∨ (∃ z, v = .str z) ∨ (∃ p xs, v = .ref p ∧ (TpAt K H p xs ∨ H p = some (.lst xs)))))
def spIsNumber (K : PySem.W.Frag) : Sp := fun vs H Q _ => ∃ v lo hi b, vs = [v, .int lo, .int hi] ∧ (NumIs K) H v lo hi b ∧ Q (.bl b) H
def spIsRow (K : PySem.W.Frag) : Sp := fun vs H Q _ => ∃ p r, vs = [.ref p] ∧ (Thing.row p r).At K H ∧ ∀ H', Same H H' → Q (.bl true) H'
def spIsThing (K : PySem.W.Frag) : Sp := fun vs H Q _ => ∃ t : Thing, vs = [t.v] ∧ t.At K H ∧ ∀ H', Same H H' → Q (.bl true) H'
def spCheckCells (K : PySem.W.Frag) : Sp := fun vs H Q _ => ∃ p ts, vs = [.ref p] ∧ (CellsAt K) H p ts ∧ ∀ H', Same H H' → Q .non H'
section
variable {P : Program} {w : World} {K : PySem.W.Frag} {mg : Str → Option Value} {base : Heap}
abbrev s_is_number : Stmt := top 17
theorem sc_is_number : FnScope ["value", "least", "most"] ["value", "least", "most"] (fnScope s_is_number) := fnScope_by (by decide +kernel)
theorem ok_is_number {f : Addr} {fd : FuncData} (F : Def K mg "is_number" s_is_number f fd) (b : Binds K fd ["value", "least", "most"] []) (T : Txt K mg) : Cal P w K mg base 1 "is_number" (spIsNumber K) [] := by
  refine cal0 F b .nil sc_is_number (fun vs H Q E h => ?_) (fun cdv A outer s H vs Q E hr h => ?_)
  · obtain ⟨v, lo, hi, b, rfl, _⟩ := h
    rfl
  · obtain ⟨v, lo, hi, b, rfl, h, q⟩ := h
    have nd := sc_is_number.nd
    refine ⟨_, (pss_one (ps_ret (pe_and (pe_callB call_isi (by rfl) T.n_isinstance (by decide +kernel) (pa_cons (pv 0) (pa_cons (Y.pe_bty (T := "int") (by rfl) T.n_int (by decide +kernel)) pa_nil))) (pe_and (pe_not (pe_callB call_isi (by rfl) T.n_isinstance (by decide +kernel) (pa_cons (pv 0) (pa_cons (Y.pe_bty (T := "bool") (by rfl) T.n_bool (by decide +kernel)) pa_nil)))) (pe_one (pe_chain op_le op_le (pv 1) (pv 0) (pv 2))))))), ?_⟩
    rcases h with ⟨i, rfl, rfl⟩ | ⟨rfl, ⟨c, rfl⟩ | ⟨z, rfl⟩ | ⟨p, xs, rfl, hp | hp⟩⟩
    · walk_at "b"
      refine Y.s_chain ?_
      walk_at "s"
      refine Y.s_d2 (fun h1 => ?_) (fun h1 => ?_)
      · walk_at "s"
        rw [show decide (lo ≤ i ∧ i ≤ hi) = decide (i ≤ hi) from by rw [decide_eq_decide]; exact ⟨And.right, And.intro h1⟩] at q
        exact q
      · rw [decide_eq_false (p := lo ≤ i ∧ i ≤ hi) (fun z => h1 z.1)] at q
        exact q
    · walk_at "b"
      exact q
    · walk_at "b"
      exact q
    · walk_at "b"
      exact q
    · walk_at "b"
      exact q
theorem u_isnum {H : Hp} {Q : VK} {E : XK} {v : V} {lo hi : Int} {b : Bool} (h : (NumIs K) H v lo hi b) (q : Q (.bl b) H) : (spIsNumber K) ([v, .int lo, .int hi] ++ []) H Q E := ⟨v, lo, hi, b, rfl, h, q⟩
abbrev s_is_row : Stmt := top 18
theorem sc_is_row : FnScope ["value", "word", "numbers", "number", "most"] ["value"] (fnScope s_is_row) := fnScope_by (by decide +kernel)
theorem ok_is_row {f : Addr} {fd : FuncData} (F : Def K mg "is_row" s_is_row f fd) (b : Binds K fd ["value"] []) (T : Txt K mg) (L : LimG K w mg) (c_is_number : Cal P w K mg base 1 "is_number" (spIsNumber K) []) : Cal P w K mg base 2 "is_row" (spIsRow K) [] := by
  obtain ⟨d, kvs, v_LIMITS, L⟩ := L
  have q_LIMITS := L.dct
  refine cal0 F b .nil sc_is_row (fun vs H Q E h => ?_) (fun cdv A outer s H vs Q E hr h => ?_)
  · obtain ⟨p, r, rfl, _⟩ := h
    rfl
  · obtain ⟨p, r, rfl, ⟨hp, hok⟩, q⟩ := h
    have nd := sc_is_row.nd
    refine ⟨_, (pss_cons (ps_if (PW.pt (pw_or (pt_not (pt_val (pe_callB call_isi (by rfl) T.n_isinstance (by decide +kernel) (pa_cons (pv 0) (pa_cons (Y.pe_bty (T := "tuple") (by rfl) T.n_tuple (by decide +kernel)) pa_nil))))) (pw_or1 (pt_cmpR op_eq (pe_callB Y.cl_len (by rfl) T.n_len PySem.boot_len (pa_cons (pv 0) pa_nil)) pe_int (nomark _)))))
      (pss_one (ps_ret pe_bl))
      pss_nil)
      (pss_cons (ps_set (i := 1) nd rfl (by first | exact Or.inl rfl | exact Or.inr rfl) (pe_ix ix_tup (pv 0) pe_int (fun _ _ => rfl)))
      (pss_cons (ps_set (i := 2) nd rfl (by first | exact Or.inl rfl | exact Or.inr rfl) (pe_slice sl_tup (pv 0) (po_some pe_int) po_none))
      (pss_cons (ps_if (PW.pt (pw_or (pt_cmpR (Y.op_notIn_dict q_LIMITS) (pv 1) (pe_gc (by rfl) v_LIMITS) (by rfl)) (pw_or1 (pt_cmpR op_ne (pe_callB Y.cl_len (by rfl) T.n_len PySem.boot_len (pa_cons (pv 2) pa_nil)) (pe_callB Y.cl_len (by rfl) T.n_len PySem.boot_len (pa_cons (pe_ix (Y.ix_dict q_LIMITS) (pe_gc (by rfl) v_LIMITS) (pv 1) (fun _ _ => rfl)) pa_nil)) (nomark _)))))
      (pss_one (ps_ret pe_bl))
      pss_nil)
      (pss_one (ps_ret (pe_callB (Y.cl_all rfl) (by rfl) T.n_all (by decide +kernel) (pa_cons (pe_lc (own := [("number", 3), ("most", 4)]) (g := gTup K 2 (gCons (gName 3) (gCons (gName 4) gNil))) (by rfl) nd (RZ.pi_zipA (by rfl) T.n_zip (pa_cons (pv 2) (pa_cons (pe_ix (Y.ix_dict q_LIMITS) (pe_gc (by rfl) v_LIMITS) (pv 1) (fun _ _ => rfl)) pa_nil))) (blkOk_by (N := ["value", "word", "numbers", "number", "most"]) (sc := fnScope s_is_row) (by decide +kernel)) (fun _ _ _ _ _ => (pg_tup (by rfl) (pgs_cons (pg_name (i := 3) nd rfl (by first | exact Or.inl rfl | exact Or.inr rfl)) (pgs_cons (pg_name (i := 4) nd rfl (by first | exact Or.inl rfl | exact Or.inr rfl)) pgs_nil)))) (fun _ _ _ _ _ => pts_nil) (fun _ _ _ _ _ => (pe_c c_is_number hr (by first | decide | omega) (by rfl) (pa_cons (pv 3) (pa_cons pe_int (pa_cons (pv 4) pa_nil)))))) pa_nil)))))))), ?_⟩
    rw [r.vs_eq] at hp
    obtain ⟨aL, eL, qL⟩ := L.yes _ _ (limOf_word r)
    have hw := r.within hok
    walk_at "b"
    refine Y.s_dF (by rw [List.length_cons]; omega) ?_
    walk_at "s"
    refine Y.s_ixT' (w := .str r.word) hp.sq (at_of (j := 0) rfl rfl) ?_
    walk_at "s"
    refine Y.s_sl ?_
    walk_at "s"
    refine Y.s_part ?_
    walk_at "s"
    refine Y.s_partI ?_
    refine Y.s_noPart ?_
    refine Y.s_slT1 hp.sq fun p2 hp2 => ?_
    walk_at "s"
    refine Y.s_ninDict (b := true) (by rw [eL]; rfl) ?_
    walk_at "s"
    refine Y.s_ixDict eL ?_
    walk_at "s"
    refine Y.s_lenT (qL _) ?_
    walk_at "s"
    refine Y.s_dNT (by rw [List.length_map, List.length_map, hw.len]) ?_
    walk_at "s"
    refine Y.s_zip ?_
    walk_at "s"
    refine Y.s_ixDict eL ?_
    walk_at "s"
    refine Y.s_lcZT (SqT.of upd_same) (qL _) (by rw [List.length_map, List.length_map, hw.len]) fun D hD => ⟨fun i acc Hx => Same (upd H p2 (.tup (r.nums.map V.int))) Hx ∧ acc = (List.replicate i true).map V.bl, ?_, ?_, ?_, ?_⟩
    · exact ⟨Y.same_new hD (Same.refl _), rfl⟩
    · rintro i acc Hx _ ⟨sx, _⟩
      exact ⟨SqT.of (sx _ _ upd_same), qL _⟩
    · rintro i x y t acc Hx hx hy hl2 hD2 ⟨sx, rfl⟩ ht
      obtain ⟨n, hn, rfl⟩ : ∃ n, r.nums[i]? = some n ∧ x = V.int n := by
        rw [List.getElem?_map] at hx
        cases e : r.nums[i]? with
        | none => rw [e] at hx; cases hx
        | some u => rw [e] at hx; exact ⟨u, rfl, (Option.some.inj hx).symm⟩
      obtain ⟨m, hm, rfl⟩ : ∃ m, r.lims[i]? = some m ∧ y = V.int m := by
        rw [List.getElem?_map] at hy
        cases e : r.lims[i]? with
        | none => rw [e] at hy; cases hy
        | some u => rw [e] at hy; exact ⟨u, rfl, (Option.some.inj hy).symm⟩
      obtain ⟨h0, h1⟩ := hw.at_ hn hm
      have hi : i < 1000 := by
        have := (List.getElem?_eq_some_iff.mp hn).1
        have : r.nums.length ≤ 3 := by cases r <;> exact Nat.le_of_ble_eq_true rfl
        omega
      refine Y.s_gTup (SqT.of upd_same) rfl ?_
      refine Y.s_gCons ?_
      walk_at "s"
      refine Y.s_gCons ?_
      walk_at "s"
      refine Y.s_gNil ⟨rfl, ?_⟩
      refine Y.s_yes ?_
      walk_at "s"
      refine u_isnum (b := true) (.inl ⟨n, rfl, (decide_eq_true ⟨h0, h1⟩).symm⟩) ?_
      have e6 : upd Hx t (.tup [.int n, .int m]) D = some (.lst ((List.replicate i true).map V.bl)) := by walk_at "hp"
      exact Y.s_lcE e6 hl2 (by omega) ⟨Y.same_own hD (Y.same_new ht sx), by rw [List.replicate_succ', List.map_append]; rfl⟩
    · rintro acc Hx hD2 hl2 ⟨sx, rfl⟩
      walk_at "s"
      refine Y.s_all (SqL.of hD2) ?_
      rw [Y.all_true]
      exact q _ (Y.same_tr sx (Y.same_new hp2 (Same.refl _)))
theorem u_isrow {H : Hp} {Q : VK} {E : XK} {p : Addr} {r : Row} (h : (Thing.row p r).At K H) (q : ∀ H', Same H H' → Q (.bl true) H') : (spIsRow K) ([.ref p] ++ []) H Q E := ⟨p, r, rfl, h, q⟩
abbrev s_is_thing : Stmt := top 19
theorem sc_is_thing : FnScope ["value"] ["value"] (fnScope s_is_thing) := fnScope_by (by decide +kernel)
theorem ok_is_thing {f : Addr} {fd : FuncData} (F : Def K mg "is_thing" s_is_thing f fd) (b : Binds K fd ["value"] []) (T : Txt K mg) (v_LAST_NUMBER : IntG mg "LAST_NUMBER" 999) (c_is_number : Cal P w K mg base 1 "is_number" (spIsNumber K) []) (c_is_row : Cal P w K mg base 2 "is_row" (spIsRow K) []) : Cal P w K mg base 3 "is_thing" (spIsThing K) [] := by
  refine cal0 F b .nil sc_is_thing (fun vs H Q E h => ?_) (fun cdv A outer s H vs Q E hr h => ?_)
  · obtain ⟨t, rfl, _⟩ := h
    rfl
  · obtain ⟨t, rfl, ht, q⟩ := h
    have nd := sc_is_thing.nd
    refine ⟨_, (pss_one (ps_ret (pe_or (pe_c c_is_number hr (by first | decide | omega) (by rfl) (pa_cons (pv 0) (pa_cons pe_int (pa_cons (pe_gc (by rfl) v_LAST_NUMBER) pa_nil)))) (pe_one (pe_c c_is_row hr (by first | decide | omega) (by rfl) (pa_cons (pv 0) pa_nil)))))), ?_⟩
    walk_at "b"
    cases t with
    | num n =>
      refine u_isnum (b := true) (.inl ⟨n, rfl, (decide_eq_true ⟨ht.1, by have := ht.2; omega⟩).symm⟩) ?_
      walk_at "s"
      exact q _ (Same.refl _)
    | row p r =>
      refine u_isnum (b := false) (.inr ⟨rfl, .inr (.inr ⟨p, _, rfl, .inl ht.1⟩)⟩) ?_
      walk_at "s"
      exact u_isrow ht q
theorem u_isthing {H : Hp} {Q : VK} {E : XK} {t : Thing} {v : V} (e : v = t.v) (h : t.At K H) (q : ∀ H', Same H H' → Q (.bl true) H') : (spIsThing K) ([v] ++ []) H Q E := ⟨t, by rw [e]; rfl, h, q⟩
abbrev s_check_cells : Stmt := top 30
theorem sc_check_cells : FnScope ["cells", "at", "thing"] ["cells"] (fnScope s_check_cells) := fnScope_by (by decide +kernel)
theorem ok_check_cells {f : Addr} {fd : FuncData} (F : Def K mg "check_cells" s_check_cells f fd) (b : Binds K fd ["cells"] []) (T : Txt K mg) (v_MOST_CELLS : IntG mg "MOST_CELLS_checks" 40) (v_FEWEST_CELLS : IntG mg "FEWEST_CELLS_checks" 16) (c_is_thing : Cal P w K mg base 3 "is_thing" (spIsThing K) []) : Cal P w K mg base 4 "check_cells" (spCheckCells K) [] := by
  refine cal0 F b .nil sc_check_cells (fun vs H Q E h => ?_) (fun cdv A outer s H vs Q E hr h => ?_)
  · obtain ⟨p, ts, rfl, _⟩ := h
    rfl
  · obtain ⟨p, ts, rfl, ⟨hp, ht, l1, l2⟩, q⟩ := h
    have nd := sc_check_cells.nd
    refine ⟨_, (pss_cons (ps_for PassesOwn.never rfl (pi_enum (by rfl) T.n_enumerate (pa_cons (pv 0) pa_nil)) (pg_tup (by rfl) (pgs_cons (pg_name (i := 1) nd rfl (by first | exact Or.inl rfl | exact Or.inr rfl)) (pgs_cons (pg_name (i := 2) nd rfl (by first | exact Or.inl rfl | exact Or.inr rfl)) pgs_nil)))
      (pss_one (ps_if (PW.pt (pw_or (pt_cmpR op_eq (pv 1) (pe_gc (by rfl) v_MOST_CELLS) (nomark _)) (pw_or1 (pt_not (pt_val (pe_c c_is_thing hr (by first | decide | omega) (by rfl) (pa_cons (pv 2) pa_nil)))))))
      (pss_one ps_never)
      pss_nil)))
      (pss_one (ps_if (pt_cmpR op_lt (pe_callB Y.cl_len (by rfl) T.n_len PySem.boot_len (pa_cons (pv 0) pa_nil)) (pe_gc (by rfl) v_FEWEST_CELLS) (nomark _))
      (pss_one ps_never)
      pss_nil))), ?_⟩
    walk_at "b"
    refine Y.s_enum ?_
    walk_at "s"
    refine Y.s_forE (SqL.of hp) (fun i σ H' => Same H H' ∧ ∃ v1 v2, σ = [some (.ref p), v1, v2]) ⟨Same.refl _, _, _, rfl⟩ (fun i σ H' ⟨s1, _⟩ => SqL.of (s1 _ _ hp)) ?_ ?_
    · rintro i x t σ H1 hx ⟨s1, v1, v2, rfl⟩ hT
      obtain ⟨u, hu, rfl⟩ : ∃ u, ts[i]? = some u ∧ x = Thing.v u := by
        rw [List.getElem?_map] at hx
        cases e : ts[i]? with
        | none => rw [e] at hx; cases hx
        | some u => rw [e] at hx; exact ⟨u, rfl, (Option.some.inj hx).symm⟩
      have hi := (List.getElem?_eq_some_iff.mp hu).1
      refine Y.s_gTup (SqT.of upd_same) rfl ?_
      refine Y.s_gCons ?_
      walk_at "s"
      refine Y.s_gCons ?_
      walk_at "s"
      refine Y.s_gNil ?_
      walk_at "s"
      refine Y.s_dF (by omega) ?_
      walk_at "s"
      have s2 : Same H (upd H1 t (.tup [.int (i : Nat), u.v])) := Y.same_new hT s1
      refine u_isthing rfl ((ht u (List.mem_of_getElem? hu)).tu fun p xs h => s2 p _ h) fun H3 s3 => ?_
      walk_at "s"
      exact ⟨s2.trans s3, _, _, rfl⟩
    · rintro σ H1 ⟨s1, v1, v2, rfl⟩
      have hp1 := s1 _ _ hp
      walk_at "s"
      refine Y.s_dF (by rw [List.length_map]; omega) ?_
      walk_at "s"
      exact q _ s1
theorem u_ccells {H : Hp} {Q : VK} {E : XK} {p : Addr} {ts : List Thing} (h : (CellsAt K) H p ts) (q : ∀ H', Same H H' → Q .non H') : (spCheckCells K) ([.ref p] ++ []) H Q E := ⟨p, ts, rfl, h, q⟩
end
end G
end
section
/-! ### o[lo:hi] = a list -/
namespace Y
open PySem PySem.Spec PyProof.Rows L2
def rSetSl : V → V → V → V → Hp → (Hp → Prop) → Prop := fun x a c v H Q => ∃ l b xs ys i j, x = .ref l ∧ v = .ref b ∧ a = .int i ∧ c = .int j ∧ H l = some (.lst xs) ∧ H b = some (.lst ys) ∧ l ≠ b ∧ 0 ≤ i ∧ i ≤ j ∧ j ≤ xs.length ∧ xs.length + ys.length ≤ sizeLine ∧
  Q (upd H l (.lst (xs.take i.toNat ++ ys ++ xs.drop j.toNat)))
def gSl (to tl th : TE) : TG := fun v σ H Q => to σ H fun x H1 => tl σ H1 fun a H2 => th σ H2 fun c H3 => rSetSl x a c v H3 fun H4 => Q σ H4
theorem pg_slice {X : Cx} {o lo hi : Expr} {to tl th : TE} {p2 pos : Pos} (ho : PE X o to) (hl : PE X lo tl) (hh : PE X hi th)
    (ha : ∀ v, assign (.Subscript o (.Slice (some lo) (some hi) none p2) pos) X.env v = (do
      let ov ← holding [v] (eval o X.env)
      let iv ← holding [v, ov] (eval (.Slice (some lo) (some hi) none p2) X.env)
      standAt pos
      holding [v, ov, iv] (setItem ov iv v)
      release [iv, v, ov] []) := by intro _; rfl) : PG X (.Subscript o (.Slice (some lo) (some hi) none p2) pos) (gSl to tl th) := by
  refine ⟨fun pins s σ H v u Q I r h => ?_⟩
  rw [ha]
  refine wpAny_bind (wpAny_holding (thn (ho.run pins s σ H _ I h) fun ov s1 ⟨x, H1, I1, r1, q1⟩ => ?_))
  refine wpAny_bind (wpAny_holding (wpAny_Slice ?_))
  rw [evalPart_some, evalPart_some]
  refine thn (hl.run pins s1 σ H1 _ I1 q1) fun va s2 ⟨a, H2, I2, ra, q2⟩ => ?_
  refine thn (hh.run pins s2 σ H2 _ I2 q2) fun vc s3 ⟨c, H3, I3, rc, q3⟩ => ?_
  rw [evalPart_none]
  refine wpAny_pure ?_
  obtain ⟨l, b, xs, ys, i, j, rfl, rfl, rfl, rfl, e1, e2, hne, h0, h1, h2, hz, q⟩ := q3
  have I4 : Inv X pins σ H3 { s3 with heap := s3.heap.push { cls := .type "slice", data := .fields #[va, vc, .none] } } := I3.kept (t' := s3.toks) fun b ob q => Heap.get?_push_of_some _ q
  obtain rfl : ov = Value.ref l := r1
  obtain rfl : u = Value.ref b := r
  refine wpAny_bind (wpAny_standAt (wpAny_bind (wpAny_holding (set_slice I4 e1 e2 hne (Heap.IsSliceOf.new ..) ra rc h0 h1 h2 hz fun s5 I5 => ?_))))
  exact wpAny_release ⟨σ, _, I5, q⟩
theorem s_gSl {to tl th : TE} {v : V} {σ : L2.St} {H : Hp} {Q : L2.St → Hp → Prop} (q : to σ H fun x H1 => tl σ H1 fun a H2 => th σ H2 fun c H3 => rSetSl x a c v H3 fun H4 => Q σ H4) : gSl to tl th v σ H Q := q
theorem s_setSl {l b : Addr} {xs ys : List V} {i j : Int} {H : Hp} {Q : Hp → Prop} (e1 : H l = some (.lst xs)) (e2 : H b = some (.lst ys)) (hne : l ≠ b) (h0 : 0 ≤ i) (h1 : i ≤ j) (h2 : j ≤ xs.length) (hz : xs.length + ys.length ≤ 100000)
    (q : Q (upd H l (.lst (xs.take i.toNat ++ ys ++ xs.drop j.toNat)))) : rSetSl (.ref l) (.int i) (.int j) (.ref b) H Q := ⟨l, b, xs, ys, i, j, rfl, rfl, rfl, rfl, e1, e2, hne, h0, h1, h2, Nat.le_trans hz (by decide), q⟩
end Y
end
section
/-! ### what a machine is in the heap -/
namespace G
open PySem L2 C8
variable {K : PySem.W.Frag}
/-- all that was tracked but at S is as it was -/
def FrS (S : List Addr) (H H' : Hp) : Prop := ∀ b o, b ∉ S → H b = some o → H' b = some o
section
variable {S S' : List Addr} {H H1 H2 : Hp} {p : Addr} {o : HO}
theorem FrS.refl : FrS S H H := fun _ _ _ h => h
theorem FrS.trans (x : FrS S H H1) (y : FrS S H1 H2) : FrS S H H2 := fun b o n h => y b o n (x b o n h)
theorem FrS.upd (x : FrS S H H1) (h : p ∈ S) : FrS S H (L2.upd H1 p o) := fun b u n e => by rw [upd_ne (fun z => n (by rw [z]; exact h))]; exact x b u n e
theorem FrS.new (x : FrS S H H1) (h : H1 p = none) : FrS S H (L2.upd H1 p o) := fun b u n e => by rw [upd_ne (ne_of_none (x b u n e) h)]; exact x b u n e
theorem FrS.own (x : FrS S H H1) (h : H p = none) : FrS S H (L2.upd H1 p o) := fun b u n e => by rw [upd_ne (ne_of_none e h)]; exact x b u n e
theorem FrS.same (x : FrS S H H1) (s : Same H1 H2) : FrS S H H2 := fun b u n e => s b u (x b u n e)
theorem FrS.sub (x : FrS S H H1) (h : ∀ a ∈ S, a ∈ S') : FrS S' H H1 := fun b u n e => x b u (fun m => n (h b m)) e
end
/-- these objects stand -/
def Holds (H : Hp) (L : List (Addr × HO)) : Prop := ∀ x ∈ L, H x.1 = some x.2
section
variable {H H' : Hp} {L M : List (Addr × HO)} {p : Addr} {o : HO} {S : List Addr}
theorem Holds.get (h : Holds H L) (m : (p, o) ∈ L) : H p = some o := h _ m
theorem Holds.same (h : Holds H L) (s : Same H H') : Holds H' L := fun x m => s _ _ (h x m)
theorem Holds.new (h : Holds H L) (n : H p = none) : Holds (upd H p o) L := fun x m => by rw [upd_ne (ne_of_none (h x m) n)]; exact h x m
theorem Holds.fr (h : Holds H L) (f : FrS S H H') (n : ∀ x ∈ L, x.1 ∉ S) : Holds H' L := fun x m => f _ _ (n x m) (h x m)
theorem Holds.app (h : Holds H L) (g : Holds H M) : Holds H (L ++ M) := fun x m => by
  rcases List.mem_append.mp m with m | m
  · exact h x m
  · exact g x m
theorem Holds.sub (h : Holds H L) (s : ∀ x ∈ M, x ∈ L) : Holds H M := fun x m => h x (s x m)
/-- the i-th of them is written -/
theorem Holds.set (h : Holds H L) (nd : (L.map (·.1)).Nodup) (i : Nat) {u : HO} (e : L[i]? = some (p, u)) : Holds (upd H p o) (L.set i (p, o)) := by
  intro x m
  obtain ⟨j, ej⟩ := List.mem_iff_getElem?.mp m
  rw [List.getElem?_set] at ej
  by_cases hij : i = j
  · subst hij
    rw [if_pos rfl] at ej
    split at ej
    · cases ej; exact upd_same
    · cases ej
  · rw [if_neg hij] at ej
    have ne : x.1 ≠ p := fun z => by
      have e1 : (L.map (·.1))[j]? = some x.1 := by rw [List.getElem?_map, ej]; rfl
      have e2 : (L.map (·.1))[i]? = some p := by rw [List.getElem?_map, e]; rfl
      rw [z] at e1
      exact hij (nd_ix nd e2 e1)
    rw [upd_ne ne]
    exact h x (List.mem_of_getElem? ej)
end
/-! rooms -/
structure Rm where
  pm : Addr
  dx : Addr
  first : Int
  wide : Int
  pt : Addr
def Rm.flds (r : Rm) (pf : Addr) (b : V) : List (Str × V) := [("floor", .ref pf), ("beneath", b), ("first", .int r.first), ("wide", .int r.wide), ("taken", .ref r.pt)]
def below : List Rm → V
  | [] => .non
  | r :: _ => .ref r.pm
def rmObjs (CR pf : Addr) : List Rm → List (Addr × HO)
  | [] => []
  | r :: rs => (r.pm, .ins CR r.dx (r.flds pf (below rs))) :: rmObjs CR pf rs
def startOf : List Rm → Int
  | [] => 0
  | r :: rs => startOf rs + r.first
theorem rmObjs_fst (CR pf : Addr) : ∀ rs : List Rm, (rmObjs CR pf rs).map (·.1) = rs.map Rm.pm
  | [] => rfl
  | r :: rs => by show r.pm :: (rmObjs CR pf rs).map (·.1) = _; rw [rmObjs_fst CR pf rs]; rfl
/-- what a class is to its objects -/
structure Cz (K : PySem.W.Frag) (C : Addr) (fs : List Str) : Prop where
  cls : Cls K C
  na : ∀ f ∈ fs, NoAttr K C f
def fldB : List Str := ["kind", "room", "ground", "through", "boxes", "place", "high", "window", "alarm", "spoken", "ear", "why", "steps"]
def fldR : List Str := ["floor", "beneath", "first", "wide", "taken"]
def fldG : List Str := ["kind", "room", "spoken", "hosts_beneath"]
structure Zs (K : PySem.W.Frag) where
  CB : Addr
  CR : Addr
  CG : Addr
  b : Cz K CB fldB
  r : Cz K CR fldR
  g : Cz K CG fldG
/-- what is worth what -/
def Thing.worth : Thing → Int
  | .num n => n
  | .row _ _ => 0
theorem Thing.worth_nm {H : Hp} {t : Thing} (h : t.At K H) : Nm t.worth := by
  cases t with
  | num n => exact h
  | row p r => exact ⟨Int.le_refl 0, (by decide : (0 : Int) < 1000)⟩
/-- a machine -/
structure Mc where
  cells : List Thing
  boxes : List Thing
  place : Int
  high : Bool
  w0 : Int
  w1 : Int
  alarm : Int
  said : List Int
  ear : List Int
  why : Str
  steps : Int
  gsaid : List Int
/-- its ground, if it is a guest -/
structure Gd where
  pg : Addr
  dx : Addr
  pgs : Addr
  k : V
  rm : V
  hb : Int
/-- where it lies -/
structure Adr where
  pb : Addr
  dx : Addr
  pk : Addr
  px : Addr
  ps : Addr
  pe : Addr
  pf : Addr
  bs : List Bool
  grd : Option Gd
  thr : Bool
  rm : Rm
  rms : List Rm
  pre : List Thing
  post : List Thing
def Adr.grV (A : Adr) : V := match A.grd with
  | none => .non
  | some g => .ref g.pg
def Adr.flds (A : Adr) (pw : Addr) (m : Mc) : List (Str × V) := [("kind", .ref A.pk), ("room", .ref A.rm.pm), ("ground", A.grV), ("through", .bl A.thr), ("boxes", .ref A.px), ("place", .int m.place), ("high", .bl m.high), ("window", .ref pw), ("alarm", .int m.alarm), ("spoken", .ref A.ps), ("ear", .ref A.pe), ("why", .str m.why), ("steps", .int m.steps)]
def Gd.objs (CG : Addr) (s : List Int) : Option Gd → List (Addr × HO)
  | none => []
  | some g => [(g.pgs, .lst (s.map V.int)), (g.pg, .ins CG g.dx [("kind", g.k), ("room", g.rm), ("spoken", .ref g.pgs), ("hosts_beneath", .int g.hb)])]
def Gd.adrs : Option Gd → List Addr
  | none => []
  | some g => [g.pgs, g.pg]
/-- the floor's list -/
def Adr.floor (A : Adr) (m : Mc) : List Thing := A.pre ++ m.cells ++ A.post
section
variable {K : PySem.W.Frag} (Z : Zs K)
def Adr.objs (A : Adr) (pw : Addr) (m : Mc) : List (Addr × HO) :=
  (A.pb, .ins Z.CB A.dx (A.flds pw m)) :: (A.px, .lst (m.boxes.map Thing.v)) :: (A.ps, .lst (m.said.map V.int)) :: (A.pe, .lst (m.ear.map V.int)) :: (A.pf, .lst ((A.floor m).map Thing.v)) :: (Gd.objs Z.CG m.gsaid A.grd ++ rmObjs Z.CR A.pf (A.rm :: A.rms))
def Adr.adrs (A : Adr) : List Addr := A.pb :: A.px :: A.ps :: A.pe :: A.pf :: (Gd.adrs A.grd ++ (A.rm :: A.rms).map Rm.pm)
/-- what it writes -/
def Adr.own (A : Adr) : List Addr := A.pb :: A.px :: A.ps :: A.pe :: A.pf :: (match A.grd with
  | none => []
  | some g => [g.pgs])
theorem Adr.objs_fst (A : Adr) (pw : Addr) (m : Mc) : (A.objs Z pw m).map (·.1) = A.adrs := by
  unfold Adr.objs Adr.adrs
  simp only [List.map_cons, List.map_append, rmObjs_fst]
  congr 6
  cases A.grd with
  | none => rfl
  | some g => rfl
structure Mc.Wf (A : Adr) (m : Mc) : Prop where
  box : m.boxes.length = 4
  n16 : 16 ≤ m.cells.length
  n40 : m.cells.length ≤ 40
  pl : Nm m.place
  w0 : 0 ≤ m.w0
  w1 : 0 ≤ m.w1
  win : m.w0 + m.w1 ≤ m.cells.length
  al : Nm m.alarm
  ear : ∀ n ∈ m.ear, Nm n
  el : m.ear.length ≤ 1000
  bs : A.bs.length = 7
  st : startOf (A.rm :: A.rms) = A.pre.length
  wd : A.rm.wide = m.cells.length
  fl : (A.floor m).length ≤ 1000
  dp : A.rms.length ≤ 4
structure BodyAt (H : Hp) (A : Adr) (m : Mc) : Prop where
  ob : ∃ pw, Holds H (A.objs Z pw m) ∧ H pw = some (.tup [.int m.w0, .int m.w1])
  kd : H A.pk = some (.tup (A.bs.map V.bl))
  th : (Things K) H (A.floor m)
  tb : (Things K) H m.boxes
  nd : A.adrs.Nodup
  wf : m.Wf A
end
end G
end
section
/-! ### how a machine's parts are read and written -/
namespace Y
open PySem L2 C8
section
variable {σ : L2.St} {H : Hp} {Q : VK} {v y : V} {ta tv te : TE} {K : PySem.W.Frag} {a C dx : Addr} {f : Str} {fs : List (Str × V)} {D : Ends}
def FldR (K : PySem.W.Frag) (f : Str) (Q : VK) : V → Hp → Prop := fun x H1 => ∃ a C dx fs v, x = .ref a ∧ H1 a = some (.ins C dx fs) ∧ Cls K C ∧ NoAttr K C f ∧ fs.lookup f = some v ∧ Q v H1
theorem s_fld (q : ta σ H (FldR K f Q)) : tFld K ta f σ H Q := q
theorem s_fldI (e : H a = some (.ins C dx fs)) (c : Cls K C) (n : NoAttr K C f) (l : fs.lookup f = some v) (q : Q v H) : FldR K f Q (.ref a) H := ⟨a, C, dx, fs, v, rfl, e, c, n, l, q⟩
def SetR (K : PySem.W.Frag) (f : Str) (y : V) (q : Hp → Prop) : V → Hp → Prop := fun x H2 => ∃ a C dx fs, x = .ref a ∧ H2 a = some (.ins C dx fs) ∧ Cls K C ∧ NoAttr K C f ∧ fs.length < 1000 ∧ q (upd H2 a (.ins C dx (putF f y fs)))
theorem s_setF (q : tv σ H fun y H1 => ta σ H1 (SetR K f y (D.nx σ))) : sFld K ta tv f D σ H := q
theorem s_setFI {q : Hp → Prop} (e : H a = some (.ins C dx fs)) (c : Cls K C) (n : NoAttr K C f) (hl : fs.length < 1000) (h : q (upd H a (.ins C dx (putF f y fs)))) : SetR K f y q (.ref a) H := ⟨a, C, dx, fs, rfl, e, c, n, hl, h⟩
def AugR (K : PySem.W.Frag) (tv : TE) (rd : V → V → Hp → VK → Prop) (f : Str) (σ : L2.St) (q : Hp → Prop) : V → Hp → Prop := fun x H1 => ∃ a C dx fs v, x = .ref a ∧ H1 a = some (.ins C dx fs) ∧ Cls K C ∧ NoAttr K C f ∧ fs.lookup f = some v ∧
  tv σ H1 fun y H2 => rd v y H2 fun z H3 => ∃ dx' fs', H3 a = some (.ins C dx' fs') ∧ fs'.length < 1000 ∧ q (upd H3 a (.ins C dx' (putF f z fs')))
theorem s_aug {rd : V → V → Hp → VK → Prop} (q : ta σ H (AugR K tv rd f σ (D.nx σ))) : sFldAug K ta tv rd f D σ H := q
def MethR (m : Str) (C : Addr) (sp : Sp) (dvs : List V) (E : XK) (t : TA) (σ : L2.St) (Q : VK) : V → Hp → Prop := fun x H1 => ∃ a dx fs, x = .ref a ∧ H1 a = some (.ins C dx fs) ∧ fs.lookup m = none ∧ t σ H1 fun vs H2 => sp (x :: (vs ++ dvs)) H2 Q E
theorem s_meth {m : Str} {sp : Sp} {dvs : List V} {E : XK} {t : TA} (q : ta σ H (MethR m C sp dvs E t σ Q)) : tMeth C m sp dvs E ta t σ H Q := q
theorem s_methI {m : Str} {sp : Sp} {dvs : List V} {E : XK} {t : TA} (e : H a = some (.ins C dx fs)) (l : fs.lookup m = none) (q : t σ H fun vs H2 => sp (.ref a :: (vs ++ dvs)) H2 Q E) : MethR m C sp dvs E t σ Q (.ref a) H := ⟨a, dx, fs, rfl, e, l, q⟩
end
end Y
namespace G
open PySem L2 C8
variable {K : PySem.W.Frag}
section
variable {K : PySem.W.Frag} {Z : Zs K} {H H' : Hp} {A : Adr} {m m' : Mc} {p : Addr} {o : HO}
theorem BodyAt.same (k : BodyAt Z H A m) (s : Same H H') : BodyAt Z H' A m := by
  obtain ⟨⟨pw, h, hw⟩, kd, th, tb, nd, wf⟩ := k
  exact ⟨⟨pw, h.same s, s _ _ hw⟩, s _ _ kd, th.same s, tb.same s, nd, wf⟩
theorem BodyAt.new (k : BodyAt Z H A m) (n : H p = none) : BodyAt Z (upd H p o) A m := k.same (Y.same_new n (Same.refl H))
/-- all that is not the machine's own may change -/
theorem BodyAt.fr {S : List Addr} (k : BodyAt Z H A m) (f : FrS S H H') (d : ∀ a ∈ A.adrs, a ∉ S) (tu : Tu H H') : BodyAt Z H' A m := by
  obtain ⟨⟨pw, h, hw⟩, kd, th, tb, nd, wf⟩ := k
  refine ⟨⟨pw, h.fr f fun x hx => ?_, tu _ _ hw⟩, tu _ _ kd, th.tu tu, tb.tu tu, nd, wf⟩
  have e := A.objs_fst Z pw m
  exact d x.1 (by rw [← e]; exact List.mem_map_of_mem hx)
/-- what a write keeps -/
theorem tu_ins {C dx : Addr} {fs : List (Str × V)} (e : H p = some (.ins C dx fs)) : Tu H (upd H p o) := fun q xs h => by
  rw [upd_ne (ne_of h e (fun z => nomatch z))]; exact h
theorem tu_lst {xs : List V} (e : H p = some (.lst xs)) : Tu H (upd H p o) := (Tu.refl H).lst e
/-- a field is written -/
theorem BodyAt.fld (k : BodyAt Z H A m) {f : Str} {y : V} (hm : ∀ pw, putF f y (A.flds pw m) = A.flds pw m') (e1 : m'.cells = m.cells) (e2 : m'.boxes = m.boxes) (e3 : m'.said = m.said) (e4 : m'.ear = m.ear) (e5 : m'.gsaid = m.gsaid) (e6 : m'.w0 = m.w0) (e7 : m'.w1 = m.w1) (wf : m'.Wf A) :
    ∃ dx fs, H A.pb = some (.ins Z.CB dx fs) ∧ fs.length < 1000 ∧ BodyAt Z (upd H A.pb (.ins Z.CB dx (putF f y fs))) A m' := by
  obtain ⟨⟨pw, h, hw⟩, kd, th, tb, nd, wf0⟩ := k
  have e0 : H A.pb = some (.ins Z.CB A.dx (A.flds pw m)) := h.get (.head _)
  have tu : Tu H (upd H A.pb (.ins Z.CB A.dx (putF f y (A.flds pw m)))) := tu_ins e0
  refine ⟨A.dx, A.flds pw m, e0, by show 13 < 1000; decide, ⟨pw, ?_, by rw [e6, e7]; exact tu _ _ hw⟩, tu _ _ kd, ?_, ?_, nd, wf⟩
  · have g := h.set (o := .ins Z.CB A.dx (putF f y (A.flds pw m))) (by rw [A.objs_fst]; exact nd) 0 rfl
    have e : (A.objs Z pw m).set 0 (A.pb, .ins Z.CB A.dx (putF f y (A.flds pw m))) = A.objs Z pw m' := by
      unfold Adr.objs Adr.floor
      rw [hm, e1, e2, e3, e4, e5]; rfl
    rw [← e]; exact g
  · unfold Adr.floor; rw [e1]; exact th.tu tu
  · rw [e2]; exact tb.tu tu
/-- the boxes' list is written -/
theorem BodyAt.boxes (k : BodyAt Z H A m) {bx : List Thing} (hb : bx.length = 4) (ht : (Things K) H bx) : H A.px = some (.lst (m.boxes.map Thing.v)) ∧ BodyAt Z (upd H A.px (.lst (bx.map Thing.v))) A { m with boxes := bx } := by
  obtain ⟨⟨pw, h, hw⟩, kd, th, tb, nd, wf⟩ := k
  have e0 : H A.px = some (.lst (m.boxes.map Thing.v)) := h.get (.tail _ (.head _))
  have tu : Tu H (upd H A.px (.lst (bx.map Thing.v))) := tu_lst e0
  exact ⟨e0, ⟨pw, h.set (o := .lst (bx.map Thing.v)) (by rw [A.objs_fst]; exact nd) 1 rfl, tu _ _ hw⟩, tu _ _ kd, th.tu tu, ht.tu tu, nd, ⟨hb, wf.2, wf.3, wf.4, wf.5, wf.6, wf.7, wf.8, wf.9, wf.10, wf.11, wf.12, wf.13, wf.14, wf.15⟩⟩
/-- what was said -/
theorem BodyAt.said (k : BodyAt Z H A m) {ns : List Int} : H A.ps = some (.lst (m.said.map V.int)) ∧ BodyAt Z (upd H A.ps (.lst (ns.map V.int))) A { m with said := ns } := by
  obtain ⟨⟨pw, h, hw⟩, kd, th, tb, nd, wf⟩ := k
  have e0 : H A.ps = some (.lst (m.said.map V.int)) := h.get (.tail _ (.tail _ (.head _)))
  have tu : Tu H (upd H A.ps (.lst (ns.map V.int))) := tu_lst e0
  exact ⟨e0, ⟨pw, h.set (o := .lst (ns.map V.int)) (by rw [A.objs_fst]; exact nd) 2 rfl, tu _ _ hw⟩, tu _ _ kd, th.tu tu, tb.tu tu, nd, ⟨wf.1, wf.2, wf.3, wf.4, wf.5, wf.6, wf.7, wf.8, wf.9, wf.10, wf.11, wf.12, wf.13, wf.14, wf.15⟩⟩
theorem BodyAt.hears (k : BodyAt Z H A m) {ns : List Int} (hn : ∀ n ∈ ns, Nm n) (hl : ns.length ≤ 1000) : H A.pe = some (.lst (m.ear.map V.int)) ∧ BodyAt Z (upd H A.pe (.lst (ns.map V.int))) A { m with ear := ns } := by
  obtain ⟨⟨pw, h, hw⟩, kd, th, tb, nd, wf⟩ := k
  have e0 : H A.pe = some (.lst (m.ear.map V.int)) := h.get (.tail _ (.tail _ (.tail _ (.head _))))
  have tu : Tu H (upd H A.pe (.lst (ns.map V.int))) := tu_lst e0
  exact ⟨e0, ⟨pw, h.set (o := .lst (ns.map V.int)) (by rw [A.objs_fst]; exact nd) 3 rfl, tu _ _ hw⟩, tu _ _ kd, th.tu tu, tb.tu tu, nd, ⟨wf.1, wf.2, wf.3, wf.4, wf.5, wf.6, wf.7, wf.8, hn, hl, wf.11, wf.12, wf.13, wf.14, wf.15⟩⟩
/-- the floor's list is written: its cells -/
theorem BodyAt.floor (k : BodyAt Z H A m) {cs : List Thing} (hc : cs.length = m.cells.length) (ht : (Things K) H cs) : H A.pf = some (.lst ((A.floor m).map Thing.v)) ∧ BodyAt Z (upd H A.pf (.lst ((A.floor { m with cells := cs }).map Thing.v))) A { m with cells := cs } := by
  obtain ⟨⟨pw, h, hw⟩, kd, th, tb, nd, wf⟩ := k
  have e0 : H A.pf = some (.lst ((A.floor m).map Thing.v)) := h.get (.tail _ (.tail _ (.tail _ (.tail _ (.head _)))))
  have tu : Tu H (upd H A.pf (.lst ((A.floor { m with cells := cs }).map Thing.v))) := tu_lst e0
  have lf : (A.floor { m with cells := cs }).length = (A.floor m).length := by unfold Adr.floor; simp only [List.length_append, hc]
  refine ⟨e0, ⟨pw, h.set (o := .lst ((A.floor { m with cells := cs }).map Thing.v)) (by rw [A.objs_fst]; exact nd) 4 rfl, tu _ _ hw⟩, tu _ _ kd, ?_, tb.tu tu, nd, ⟨wf.1, by rw [hc]; exact wf.2, by rw [hc]; exact wf.3, wf.4, wf.5, wf.6, by rw [hc]; exact wf.7, wf.8, wf.9, wf.10, wf.11, wf.12, by rw [hc]; exact wf.13, by rw [lf]; exact wf.14, wf.15⟩⟩
  intro t mt
  unfold Adr.floor at mt
  have th' : ∀ t ∈ A.pre ++ m.cells ++ A.post, t.At K H := th
  rcases List.mem_append.mp mt with mt | mt
  · rcases List.mem_append.mp mt with mt | mt
    · exact (th' t (List.mem_append_left _ (List.mem_append_left _ mt))).tu tu
    · exact (ht t mt).tu tu
  · exact (th' t (List.mem_append_right _ mt)).tu tu
end
end G
end
section
namespace G
open PySem L2 C8
variable {K : PySem.W.Frag}
section
variable {K : PySem.W.Frag} {Z : Zs K} {H H' : Hp} {A : Adr} {m m' : Mc} {p : Addr} {o : HO}
theorem Cz.at_ {C : Addr} {fs : List Str} (c : Cz K C fs) (i : Nat) {f : Str} (h : fs[i]? = some f) : NoAttr K C f := c.na f (List.mem_of_getElem? h)
/-- the window is another pair -/
theorem BodyAt.win (k : BodyAt Z H A m) {pw' : Addr} {a b : Int} (hp : H pw' = some (.tup [.int a, .int b])) (h0 : 0 ≤ a) (h1 : 0 ≤ b) (h2 : a + b ≤ m.cells.length) :
    ∃ dx fs, H A.pb = some (.ins Z.CB dx fs) ∧ fs.length < 1000 ∧ BodyAt Z (upd H A.pb (.ins Z.CB dx (putF "window" (.ref pw') fs))) A { m with w0 := a, w1 := b } := by
  obtain ⟨⟨pw, h, hw⟩, kd, th, tb, nd, wf⟩ := k
  have e0 : H A.pb = some (.ins Z.CB A.dx (A.flds pw m)) := h.get (.head _)
  have tu : Tu H (upd H A.pb (.ins Z.CB A.dx (putF "window" (.ref pw') (A.flds pw m)))) := tu_ins e0
  exact ⟨A.dx, A.flds pw m, e0, by show 13 < 1000; decide, ⟨pw', h.set (o := .ins Z.CB A.dx (putF "window" (.ref pw') (A.flds pw m))) (by rw [A.objs_fst]; exact nd) 0 rfl, tu _ _ hp⟩, tu _ _ kd, th.tu tu, tb.tu tu, nd,
    ⟨wf.1, wf.2, wf.3, wf.4, h0, h1, h2, wf.8, wf.9, wf.10, wf.11, wf.12, wf.13, wf.14, wf.15⟩⟩
theorem BodyAt.ins (k : BodyAt Z H A m) : ∃ pw, H A.pb = some (.ins Z.CB A.dx (A.flds pw m)) ∧ H pw = some (.tup [.int m.w0, .int m.w1]) := by
  obtain ⟨⟨pw, h, hw⟩, _⟩ := k
  exact ⟨pw, h.get (.head _), hw⟩
theorem BodyAt.room (k : BodyAt Z H A m) : Holds H (rmObjs Z.CR A.pf (A.rm :: A.rms)) := by
  obtain ⟨⟨pw, h, hw⟩, _⟩ := k
  exact h.sub fun x mx => .tail _ (.tail _ (.tail _ (.tail _ (.tail _ (List.mem_append_right _ mx)))))
theorem BodyAt.flr (k : BodyAt Z H A m) : H A.pf = some (.lst ((A.floor m).map Thing.v)) := by
  obtain ⟨⟨pw, h, hw⟩, _⟩ := k
  exact h.get (.tail _ (.tail _ (.tail _ (.tail _ (.head _)))))
theorem BodyAt.bx (k : BodyAt Z H A m) : H A.px = some (.lst (m.boxes.map Thing.v)) := by
  obtain ⟨⟨pw, h, hw⟩, _⟩ := k
  exact h.get (.tail _ (.head _))
end
def spRmStart {K : PySem.W.Frag} (Z : Zs K) (n : Nat) : Sp := fun vs H Q _ => ∃ r rs pf, vs = [.ref r.pm] ∧ rs.length < n ∧ Holds H (rmObjs Z.CR pf (r :: rs)) ∧ Q (.int (startOf (r :: rs))) H
def spThingAt {K : PySem.W.Frag} (Z : Zs K) : Sp := fun vs H Q _ => ∃ A m c t, vs = [.ref A.rm.pm, .int (c : Nat)] ∧ BodyAt Z H A m ∧ m.cells[c]? = some t ∧ Q t.v H
def spAllThings {K : PySem.W.Frag} (Z : Zs K) : Sp := fun vs H Q _ => ∃ A m, vs = [.ref A.rm.pm] ∧ BodyAt Z H A m ∧ ∀ p, H p = none → Q (.ref p) (upd H p (.lst (m.cells.map Thing.v)))
/-- things laid into the cells from c on -/
def lay (cs : List Thing) (c : Nat) (ts : List Thing) : List Thing := cs.take c ++ ts ++ cs.drop (c + ts.length)
theorem lay_length {cs ts : List Thing} {c : Nat} (h : c + ts.length ≤ cs.length) : (lay cs c ts).length = cs.length := by
  unfold lay; rw [List.length_append, List.length_append, List.length_take, List.length_drop]; omega
theorem lay_things {H : Hp} {cs ts : List Thing} {c : Nat} (h : (Things K) H cs) (g : (Things K) H ts) : (Things K) H (lay cs c ts) := by
  intro t mt
  unfold lay at mt
  rcases List.mem_append.mp mt with mt | mt
  · rcases List.mem_append.mp mt with mt | mt
    · exact h t (List.mem_of_mem_take mt)
    · exact g t mt
  · exact h t (List.mem_of_mem_drop mt)
def spPutThings {K : PySem.W.Frag} (Z : Zs K) : Sp := fun vs H Q _ => ∃ (A : Adr) (m : Mc) (c : Nat) (p : Addr) (ts : List Thing), vs = [.ref A.rm.pm, .int (c : Nat), .ref p] ∧ BodyAt Z H A m ∧ c + ts.length ≤ m.cells.length ∧ H p = some (.lst (ts.map Thing.v)) ∧ (Things K) H ts ∧
  ∀ H', FrS A.own H H' → BodyAt Z H' A { m with cells := lay m.cells c ts } → Q .non H'
section
variable {P : Program} {w : World} {K : PySem.W.Frag} {mg : Str → Option Value} {base : Heap} {Z : Zs K}
theorem cells_in {K : PySem.W.Frag} {Z : Zs K} {H : Hp} {A : Adr} {m : Mc} (k : BodyAt Z H A m) : (Things K) H m.cells := fun t mt => k.th t (List.mem_append_left _ (List.mem_append_right _ mt))
abbrev s_Room_start : Stmt := inClass (top 47) 1
theorem sc_Room_start : FnScope ["self"] ["self"] (fnScope s_Room_start) := fnScope_by (by decide +kernel)
theorem ok_Room_start {f : Addr} {fd : FuncData} (me : Meth K Z.CR "start" f) (F : C8.Fun K "start" "Room.start" s_Room_start f fd) (b : Binds K fd ["self"] []) (T : Txt K mg) : ∀ n, Met P w K mg base (n + 1) Z.CR "start" (spRmStart Z n) [] := by
  intro n
  induction n with
  | zero =>
    refine met0 Z.r.cls me F b sc_Room_start (fun vs H Q E h => ?_) (fun cdv A outer s H vs Q E hr h => ?_)
    · obtain ⟨r, rs, pf, rfl, _⟩ := h
      rfl
    · obtain ⟨r, rs, pf, rfl, hl, _⟩ := h
      exact absurd hl (Nat.not_lt_zero _)
  | succ n ih =>
    have m_Room_start := ih
    refine met0 Z.r.cls me F b sc_Room_start (fun vs H Q E h => ?_) (fun cdv A outer s H vs Q E hr h => ?_)
    · obtain ⟨r, rs, pf, rfl, _⟩ := h
      rfl
    · obtain ⟨r, rs, pf, rfl, hl, h, q⟩ := h
      have nd := sc_Room_start.nd
      refine ⟨_, (pss_cons (ps_if (pt_cmpR op_isN1 (pe_fld (pv 0) rfl) pe_non (nomark _))
      (pss_one (ps_ret (pe_fld (pv 0) rfl)))
      pss_nil)
      (pss_one (ps_ret (pe_op op_add (pe_mt0 m_Room_start hr (by first | decide | omega) (pe_fld (pv 0) rfl)) (pe_fld (pv 0) rfl))))), ?_⟩
      have e0 := h.get (.head _)
      cases rs with
      | nil =>
        walk_at "b"
        refine Y.s_fld ?_
        walk_at "s"
        refine Y.s_fldI e0 Z.r.cls (Z.r.at_ 1 rfl) rfl ?_
        walk_at "s"
        refine Y.s_isNn ?_
        walk_at "s"
        refine Y.s_fld ?_
        walk_at "s"
        refine Y.s_fldI e0 Z.r.cls (Z.r.at_ 2 rfl) rfl ?_
        walk_at "s"
        rw [show startOf [r] = r.first from Int.zero_add _] at q
        exact q
      | cons r2 rs =>
        walk_at "b"
        refine Y.s_fld ?_
        walk_at "s"
        refine Y.s_fldI e0 Z.r.cls (Z.r.at_ 1 rfl) rfl ?_
        walk_at "s"
        refine Y.s_isNF Y.nn_ref ?_
        walk_at "s"
        refine Y.s_meth ?_
        refine Y.s_fld ?_
        walk_at "s"
        refine Y.s_fldI e0 Z.r.cls (Z.r.at_ 1 rfl) rfl ?_
        refine Y.s_methI (h.get (.tail _ (.head _))) rfl ?_
        walk_at "s"
        refine ⟨r2, rs, pf, rfl, by rw [List.length_cons] at hl; omega, h.sub fun x mx => .tail _ mx, ?_⟩
        refine Y.s_fld ?_
        walk_at "s"
        refine Y.s_fldI e0 Z.r.cls (Z.r.at_ 2 rfl) rfl ?_
        walk_at "s"
        exact q
end
end G
end
section
namespace G
open PySem L2 C8
section
variable {P : Program} {w : World} {K : PySem.W.Frag} {mg : Str → Option Value} {base : Heap} {Z : Zs K}
theorem u_rmstart {H : Hp} {Q : VK} {E : XK} {A : Adr} {m : Mc} (k : BodyAt Z H A m) (q : Q (.int (A.pre.length : Nat)) H) : spRmStart Z 5 (.ref A.rm.pm :: ([] ++ [])) H Q E :=
  ⟨A.rm, A.rms, A.pf, rfl, by have := k.wf.dp; omega, k.room, by rw [k.wf.st]; exact q⟩
theorem floor_at {A : Adr} {m : Mc} {c : Nat} {t : Thing} (h : m.cells[c]? = some t) : (A.floor m)[A.pre.length + c]? = some t := by
  have hc := (List.getElem?_eq_some_iff.mp h).1
  unfold Adr.floor
  rw [List.append_assoc, List.getElem?_append_right (by omega), show A.pre.length + c - A.pre.length = c by omega, List.getElem?_append_left hc, h]
abbrev s_Room_thing_at : Stmt := inClass (top 47) 2
theorem sc_Room_thing_at : FnScope ["self", "cell"] ["self", "cell"] (fnScope s_Room_thing_at) := fnScope_by (by decide +kernel)
theorem ok_Room_thing_at {f : Addr} {fd : FuncData} (me : Meth K Z.CR "thing_at" f) (F : C8.Fun K "thing_at" "Room.thing_at" s_Room_thing_at f fd) (b : Binds K fd ["self", "cell"] []) (T : Txt K mg) (m_Room_start : Met P w K mg base 6 Z.CR "start" (spRmStart Z 5) []) : Met P w K mg base 7 Z.CR "thing_at" (spThingAt Z) [] := by
  refine met0 Z.r.cls me F b sc_Room_thing_at (fun vs H Q E h => ?_) (fun cdv A outer s H vs Q E hr h => ?_)
  · obtain ⟨A, m, c, t, rfl, _⟩ := h
    rfl
  · obtain ⟨A, m, c, t, rfl, k, hc, q⟩ := h
    have nd := sc_Room_thing_at.nd
    refine ⟨_, (pss_one (ps_ret (pe_ix ix_list (pe_fld (pv 0) rfl) (pe_op op_add (pe_mt0 m_Room_start hr (by first | decide | omega) (pv 0)) (pv 1)) (fun _ _ => rfl)))), ?_⟩
    have e0 := k.room.get (.head _)
    have hcl := (List.getElem?_eq_some_iff.mp hc).1
    walk_at "b"
    refine Y.s_fld ?_
    walk_at "s"
    refine Y.s_fldI e0 Z.r.cls (Z.r.at_ 0 rfl) rfl ?_
    walk_at "s"
    refine Y.s_meth ?_
    walk_at "s"
    refine Y.s_methI e0 rfl ?_
    walk_at "s"
    refine u_rmstart k ?_
    walk_at "s"
    refine Y.s_ixL' (w := t.v) (SqL.of k.flr) (at_of (j := A.pre.length + c) (by omega) (by rw [List.getElem?_map, floor_at hc]; rfl)) ?_
    exact q
abbrev s_Room_all_things : Stmt := inClass (top 47) 3
theorem sc_Room_all_things : FnScope ["self", "start"] ["self"] (fnScope s_Room_all_things) := fnScope_by (by decide +kernel)
theorem ok_Room_all_things {f : Addr} {fd : FuncData} (me : Meth K Z.CR "all_things" f) (F : C8.Fun K "all_things" "Room.all_things" s_Room_all_things f fd) (b : Binds K fd ["self"] []) (T : Txt K mg) (m_Room_start : Met P w K mg base 6 Z.CR "start" (spRmStart Z 5) []) : Met P w K mg base 7 Z.CR "all_things" (spAllThings Z) [] := by
  refine met0 Z.r.cls me F b sc_Room_all_things (fun vs H Q E h => ?_) (fun cdv A outer s H vs Q E hr h => ?_)
  · obtain ⟨A, m, rfl, _⟩ := h
    rfl
  · obtain ⟨A, m, rfl, k, q⟩ := h
    have nd := sc_Room_all_things.nd
    refine ⟨_, (pss_cons (ps_set (i := 1) nd rfl (by first | exact Or.inl rfl | exact Or.inr rfl) (pe_mt0 m_Room_start hr (by first | decide | omega) (pv 0)))
      (pss_one (ps_ret (pe_slice sl_list (pe_fld (pv 0) rfl) (po_some (pv 1)) (po_some (pe_op op_add (pv 1) (pe_fld (pv 0) rfl))))))), ?_⟩
    have e0 := k.room.get (.head _)
    walk_at "b"
    refine Y.s_meth ?_
    walk_at "s"
    refine Y.s_methI e0 rfl ?_
    walk_at "s"
    refine u_rmstart k ?_
    walk_at "s"
    refine Y.s_sl ?_
    refine Y.s_fld ?_
    walk_at "s"
    refine Y.s_fldI e0 Z.r.cls (Z.r.at_ 0 rfl) rfl ?_
    refine Y.s_part ?_
    walk_at "s"
    refine Y.s_partI ?_
    refine Y.s_part ?_
    walk_at "s"
    refine Y.s_fld ?_
    walk_at "s"
    refine Y.s_fldI e0 Z.r.cls (Z.r.at_ 3 rfl) rfl ?_
    walk_at "s"
    refine Y.s_partI ?_
    have ec : cutV ((A.floor m).map Thing.v) (some (A.pre.length : Nat)) (some ((A.pre.length : Nat) + A.rm.wide)) = m.cells.map Thing.v := by
      rw [k.wf.wd]
      unfold cutV Adr.floor
      rw [show ((A.pre.length : Nat) : Int) + ((m.cells.length : Nat) : Int) = ((A.pre.length + m.cells.length : Nat) : Int) by omega, HT.sIx_nat, HT.sIx_nat]
      simp only [List.length_map, List.length_append]
      rw [show min A.pre.length (A.pre.length + m.cells.length + A.post.length) = A.pre.length by omega, show min (A.pre.length + m.cells.length) (A.pre.length + m.cells.length + A.post.length) = A.pre.length + m.cells.length by omega, ← List.map_drop, ← List.map_take]
      rw [List.append_assoc, List.drop_left, show A.pre.length + m.cells.length - A.pre.length = m.cells.length by omega, List.take_left]
    refine ⟨A.pf, _, rfl, SqL.of k.flr, fun p hp => ?_⟩
    rw [ec]
    exact q p hp
abbrev s_Room_put_things : Stmt := inClass (top 47) 4
theorem sc_Room_put_things : FnScope ["self", "cell", "things", "start"] ["self", "cell", "things"] (fnScope s_Room_put_things) := fnScope_by (by decide +kernel)
theorem ok_Room_put_things {f : Addr} {fd : FuncData} (me : Meth K Z.CR "put_things" f) (F : C8.Fun K "put_things" "Room.put_things" s_Room_put_things f fd) (b : Binds K fd ["self", "cell", "things"] []) (T : Txt K mg) (m_Room_start : Met P w K mg base 6 Z.CR "start" (spRmStart Z 5) []) : Met P w K mg base 7 Z.CR "put_things" (spPutThings Z) [] := by
  refine met0 Z.r.cls me F b sc_Room_put_things (fun vs H Q E h => ?_) (fun cdv A outer s H vs Q E hr h => ?_)
  · obtain ⟨A, m, c, p, ts, rfl, _⟩ := h
    rfl
  · obtain ⟨A, m, c, p, ts, rfl, k, hc, hp, ht, q⟩ := h
    have nd := sc_Room_put_things.nd
    refine ⟨_, (pss_cons (ps_set (i := 3) nd rfl (by first | exact Or.inl rfl | exact Or.inr rfl) (pe_op op_add (pe_mt0 m_Room_start hr (by first | decide | omega) (pv 0)) (pv 1)))
      (pss_one (ps_asg (pe_callTy Y.cl_list (by rfl) T.n_list (by decide +kernel) (pa_cons (pv 2) pa_nil)) (Y.pg_slice (pe_fld (pv 0) rfl) (pv 3) (pe_op op_add (pv 3) (pe_callB Y.cl_len (by rfl) T.n_len PySem.boot_len (pa_cons (pv 2) pa_nil))))))), ?_⟩
    have e0 := k.room.get (.head _)
    walk_at "b"
    refine Y.s_meth ?_
    walk_at "s"
    refine Y.s_methI e0 rfl ?_
    walk_at "s"
    refine u_rmstart k ?_
    walk_at "s"
    intro l hl
    refine Y.s_gSl ?_
    refine Y.s_fld ?_
    walk_at "s"
    have k1 := k.new (o := .lst (ts.map Thing.v)) hl
    have np : p ≠ l := ne_of_none hp hl
    have nf : A.pf ≠ l := ne_of_none k.flr hl
    refine Y.s_fldI (k1.room.get (.head _)) Z.r.cls (Z.r.at_ 0 rfl) rfl ?_
    walk_at "s"
    have hfl : (A.floor m).length = A.pre.length + m.cells.length + A.post.length := by unfold Adr.floor; rw [List.length_append, List.length_append]
    have h1000 := k.wf.fl
    refine Y.s_setSl k1.flr upd_same nf (by omega) (by rw [List.length_map]; omega) (by rw [List.length_map, List.length_map]; omega) (by rw [List.length_map, List.length_map]; have := k.wf.n40; omega) ?_
    have ll := lay_length hc
    obtain ⟨_, k2⟩ := k1.floor (cs := lay m.cells c ts) ll (lay_things (cells_in k1) (ht.same (Y.same_new hl (Same.refl _))))
    have ef : ((A.floor m).map Thing.v).take (((A.pre.length : Nat) : Int) + ((c : Nat) : Int)).toNat ++ ts.map Thing.v ++ ((A.floor m).map Thing.v).drop (((A.pre.length : Nat) : Int) + ((c : Nat) : Int) + (((ts.map Thing.v).length : Nat) : Int)).toNat = (A.floor { m with cells := lay m.cells c ts }).map Thing.v := by
      rw [List.length_map, show (((A.pre.length : Nat) : Int) + ((c : Nat) : Int)).toNat = A.pre.length + c by omega, show (((A.pre.length : Nat) : Int) + ((c : Nat) : Int) + ((ts.length : Nat) : Int)).toNat = A.pre.length + (c + ts.length) by omega]
      rw [← List.map_take, ← List.map_drop, ← List.map_append, ← List.map_append]
      congr 1
      unfold Adr.floor lay
      rw [List.append_assoc A.pre, List.take_append, List.drop_append, List.take_of_length_le (by omega), List.drop_of_length_le (by omega), show A.pre.length + c - A.pre.length = c by omega, show A.pre.length + (c + ts.length) - A.pre.length = c + ts.length by omega]
      rw [List.take_append_of_le_length (by omega), List.drop_append_of_le_length hc, List.nil_append]
      simp only [List.append_assoc]
    rw [ef]
    walk_at "s"
    exact q _ ((FrS.refl.new hl).upd (.tail _ (.tail _ (.tail _ (.tail _ (.head _)))))) k2
end
end G
end
section
namespace Y
open PySem L2 C8
def rTIndex (K : PySem.W.Frag) : V → List V → Hp → VK → Prop := fun x xs H Q => ∃ p, ∃ ys : List Str, ∃ z j, x = V.ref p ∧ xs = [.str z] ∧ SqT K H p (ys.map V.str) ∧ ys[j]? = some z ∧ (∀ m, m < j → ys[m]? ≠ some z) ∧ Q (.int (j : Nat)) H
theorem mt_tindex {X : Cx} : MtR X "tuple.index" (rTIndex X.K) := mt_tup_index
end Y
namespace G
open PySem L2 C8
variable {K : PySem.W.Frag}
/-! ### what is caught -/
def Mc.bw (m : Mc) (b : Int) : Int := match m.boxes[b.toNat]? with
  | some t => t.worth
  | none => 0
def Mc.at_ (m : Mc) (a : Int) : Option Thing := m.cells[(m.w0 + a).toNat]?
def Mc.reaches (m : Mc) : Row → Bool
  | .load _ c => decide (m.w1 ≤ m.bw c)
  | .store c _ => decide (m.w1 ≤ m.bw c)
  | _ => false
def lowN (bs : List Bool) (z : Str) : Int := if z = "call" then 5 else match ownW.findIdx? fun y => decide (y = z) with
  | some j => if bs.getD j false then 1 else 0
  | none => 0
def Mc.caught (bs : List Bool) (m : Mc) : Int := if m.w1 ≤ m.place then 2 else match m.at_ m.place with
  | some (.row _ r) => if m.reaches r then 2 else if m.high then 0 else lowN bs r.word
  | _ => 3
def spWorth (K : PySem.W.Frag) : Sp := fun vs H Q _ => ∃ t : Thing, vs = [t.v] ∧ t.At K H ∧ Q (.int t.worth) H
def spBoxWorth {K : PySem.W.Frag} (Z : Zs K) : Sp := fun vs H Q _ => ∃ A m b, vs = [.ref A.pb, .int b] ∧ BodyAt Z H A m ∧ Bx b ∧ Q (.int (m.bw b)) H
def spIsBeyond {K : PySem.W.Frag} (Z : Zs K) : Sp := fun vs H Q _ => ∃ A m a, vs = [.ref A.pb, .int a] ∧ BodyAt Z H A m ∧ Q (.bl (decide (m.w1 ≤ a))) H
def spCellOf {K : PySem.W.Frag} (Z : Zs K) : Sp := fun vs H Q _ => ∃ A m a, vs = [.ref A.pb, .int a] ∧ BodyAt Z H A m ∧ Q (.int (m.w0 + a)) H
def spRowAt {K : PySem.W.Frag} (Z : Zs K) : Sp := fun vs H Q _ => ∃ A m t, vs = [.ref A.pb] ∧ BodyAt Z H A m ∧ m.place < m.w1 ∧ m.at_ m.place = some t ∧ Q t.v H
def spReaches {K : PySem.W.Frag} (Z : Zs K) : Sp := fun vs H Q _ => ∃ A m p r, vs = [.ref A.pb, .ref p] ∧ BodyAt Z H A m ∧ (Thing.row p r).At K H ∧ Q (.bl (m.reaches r)) H
def spCaughtLow : Sp := fun vs H Q _ => ∃ p bs z, vs = [.ref p, .str z] ∧ H p = some (.tup (bs.map V.bl)) ∧ bs.length = 7 ∧ Q (.int (lowN bs z)) H
def spCaught {K : PySem.W.Frag} (Z : Zs K) : Sp := fun vs H Q _ => ∃ A m, vs = [.ref A.pb] ∧ BodyAt Z H A m ∧ Q (.int (m.caught A.bs)) H
theorem Bx.lt {m : Mc} {A : Adr} (w : m.Wf A) {b : Int} (h : Bx b) : ∃ t, m.boxes[b.toNat]? = some t ∧ t ∈ m.boxes ∧ m.bw b = t.worth := by
  have hl : b.toNat < m.boxes.length := by rw [w.box]; have := h.1; have := h.2; omega
  refine ⟨m.boxes[b.toNat], List.getElem?_eq_getElem hl, List.getElem_mem _, ?_⟩
  unfold Mc.bw
  rw [List.getElem?_eq_getElem hl]
theorem Mc.at_some {m : Mc} {A : Adr} (w : m.Wf A) {a : Int} (h0 : 0 ≤ a) (h1 : a < m.w1) : ∃ t, m.at_ a = some t ∧ t ∈ m.cells := by
  have hl : (m.w0 + a).toNat < m.cells.length := by have := w.win; have := w.w0; omega
  exact ⟨m.cells[(m.w0 + a).toNat], List.getElem?_eq_getElem hl, List.getElem_mem _⟩
section
variable {K : PySem.W.Frag} {Z : Zs K} {H : Hp} {Q : VK} {E : XK} {A : Adr} {m : Mc}
theorem u_worth {t : Thing} {v : V} (e : v = t.v) (h : t.At K H) (q : Q (.int t.worth) H) : (spWorth K) ([v] ++ []) H Q E := ⟨t, by rw [e]; rfl, h, q⟩
theorem u_bw {b : Int} (k : BodyAt Z H A m) (h : Bx b) (q : Q (.int (m.bw b)) H) : spBoxWorth Z ([.ref A.pb, .int b] ++ []) H Q E := ⟨A, m, b, rfl, k, h, q⟩
theorem u_bey {a : Int} (k : BodyAt Z H A m) (q : Q (.bl (decide (m.w1 ≤ a))) H) : spIsBeyond Z ([.ref A.pb, .int a] ++ []) H Q E := ⟨A, m, a, rfl, k, q⟩
theorem u_cell {a : Int} (k : BodyAt Z H A m) (q : Q (.int (m.w0 + a)) H) : spCellOf Z ([.ref A.pb, .int a] ++ []) H Q E := ⟨A, m, a, rfl, k, q⟩
theorem u_rowat {t : Thing} (k : BodyAt Z H A m) (h : m.place < m.w1) (e : m.at_ m.place = some t) (q : Q t.v H) : spRowAt Z ([.ref A.pb] ++ []) H Q E := ⟨A, m, t, rfl, k, h, e, q⟩
theorem u_reach {p : Addr} {r : Row} (k : BodyAt Z H A m) (h : (Thing.row p r).At K H) (q : Q (.bl (m.reaches r)) H) : spReaches Z ([.ref A.pb, .ref p] ++ []) H Q E := ⟨A, m, p, r, rfl, k, h, q⟩
theorem u_low {p : Addr} {bs : List Bool} {z : Str} (h : H p = some (.tup (bs.map V.bl))) (hl : bs.length = 7) (q : Q (.int (lowN bs z)) H) : spCaughtLow ([.ref p, .str z] ++ []) H Q E := ⟨p, bs, z, rfl, h, hl, q⟩
theorem u_caught (k : BodyAt Z H A m) (q : Q (.int (m.caught A.bs)) H) : spCaught Z ([.ref A.pb] ++ []) H Q E := ⟨A, m, rfl, k, q⟩
theorem u_thingat {c : Int} {t : Thing} (k : BodyAt Z H A m) (h0 : 0 ≤ c) (h : m.cells[c.toNat]? = some t) (q : Q t.v H) : spThingAt Z (.ref A.rm.pm :: ([.int c] ++ [])) H Q E := ⟨A, m, c.toNat, t, by rw [Int.toNat_of_nonneg h0]; rfl, k, h, q⟩
end
/-- a field of the body, read -/
theorem body_fld {K : PySem.W.Frag} {Z : Zs K} {H : Hp} {Q : VK} {A : Adr} {pw : Addr} {m : Mc} {f : Str} {v : V} (e : H A.pb = some (.ins Z.CB A.dx (A.flds pw m))) (i : Nat) (hf : fldB[i]? = some f) (l : (A.flds pw m).lookup f = some v) (q : Q v H) : Y.FldR K f Q (.ref A.pb) H :=
  Y.s_fldI e Z.b.cls (Z.b.at_ i hf) l q
section
variable {P : Program} {w : World} {K : PySem.W.Frag} {mg : Str → Option Value} {base : Heap} {Z : Zs K}
abbrev s_worth : Stmt := top 20
theorem sc_worth : FnScope ["thing"] ["thing"] (fnScope s_worth) := fnScope_by (by decide +kernel)
theorem ok_worth {f : Addr} {fd : FuncData} (F : Def K mg "worth" s_worth f fd) (b : Binds K fd ["thing"] []) (T : Txt K mg) : Cal P w K mg base 1 "worth" (spWorth K) [] := by
  refine cal0 F b .nil sc_worth (fun vs H Q E h => ?_) (fun cdv A outer s H vs Q E hr h => ?_)
  · obtain ⟨t, rfl, _⟩ := h
    rfl
  · obtain ⟨t, rfl, ht, q⟩ := h
    have nd := sc_worth.nd
    refine ⟨_, (pss_one (ps_ret (pe_ifExp (pt_val (pe_callB call_isi (by rfl) T.n_isinstance (by decide +kernel) (pa_cons (pv 0) (pa_cons (Y.pe_bty (T := "tuple") (by rfl) T.n_tuple (by decide +kernel)) pa_nil)))) pe_int (pv 0)))), ?_⟩
    cases t with
    | num n =>
      dsimp only [Thing.v]
      walk_at "b"
      exact q
    | row p r =>
      have hp := ht.1
      dsimp only [Thing.v]
      walk_at "b"
      exact q
abbrev s_box_worth : Stmt := top 72
theorem sc_box_worth : FnScope ["body", "box"] ["body", "box"] (fnScope s_box_worth) := fnScope_by (by decide +kernel)
theorem ok_box_worth {f : Addr} {fd : FuncData} (F : Def K mg "box_worth" s_box_worth f fd) (b : Binds K fd ["body", "box"] []) (T : Txt K mg) (c_worth : Cal P w K mg base 1 "worth" (spWorth K) []) : Cal P w K mg base 2 "box_worth" (spBoxWorth Z) [] := by
  refine cal0 F b .nil sc_box_worth (fun vs H Q E h => ?_) (fun cdv A outer s H vs Q E hr h => ?_)
  · obtain ⟨A, m, bb, rfl, _⟩ := h
    rfl
  · obtain ⟨A, m, bb, rfl, k, hb, q⟩ := h
    have nd := sc_box_worth.nd
    refine ⟨_, (pss_one (ps_ret (pe_c c_worth hr (by first | decide | omega) (by rfl) (pa_cons (pe_ix ix_list (pe_fld (pv 0) rfl) (pv 1) (fun _ _ => rfl)) pa_nil)))), ?_⟩
    obtain ⟨pw, e0, ew⟩ := k.ins
    obtain ⟨t, et, mt, ewo⟩ := hb.lt k.wf
    walk_at "b"
    refine Y.s_fld ?_
    walk_at "s"
    refine body_fld e0 4 rfl rfl ?_
    walk_at "s"
    refine Y.s_ixL' (w := t.v) (SqL.of k.bx) (at_of (j := bb.toNat) (by have := hb.1; omega) (by rw [List.getElem?_map, et]; rfl)) ?_
    walk_at "s"
    refine u_worth rfl (k.tb t mt) ?_
    rw [← ewo]
    exact q
abbrev s_is_beyond : Stmt := top 73
theorem sc_is_beyond : FnScope ["body", "address"] ["body", "address"] (fnScope s_is_beyond) := fnScope_by (by decide +kernel)
theorem ok_is_beyond {f : Addr} {fd : FuncData} (F : Def K mg "is_beyond" s_is_beyond f fd) (b : Binds K fd ["body", "address"] []) (T : Txt K mg) : Cal P w K mg base 1 "is_beyond" (spIsBeyond Z) [] := by
  refine cal0 F b .nil sc_is_beyond (fun vs H Q E h => ?_) (fun cdv A outer s H vs Q E hr h => ?_)
  · obtain ⟨A, m, bb, rfl, _⟩ := h
    rfl
  · obtain ⟨A, m, bb, rfl, k, q⟩ := h
    have nd := sc_is_beyond.nd
    refine ⟨_, (pss_one (ps_ret (pe_cmpR op_ge (pv 1) (pe_ix ix_tup (pe_fld (pv 0) rfl) pe_int (fun _ _ => rfl)) (nomark _)))), ?_⟩
    obtain ⟨pw, e0, ew⟩ := k.ins
    walk_at "b"
    refine Y.s_fld ?_
    walk_at "s"
    refine body_fld e0 7 rfl rfl ?_
    walk_at "s"
    exact q
abbrev s_cell_of : Stmt := top 74
theorem sc_cell_of : FnScope ["body", "address"] ["body", "address"] (fnScope s_cell_of) := fnScope_by (by decide +kernel)
theorem ok_cell_of {f : Addr} {fd : FuncData} (F : Def K mg "cell_of" s_cell_of f fd) (b : Binds K fd ["body", "address"] []) (T : Txt K mg) : Cal P w K mg base 1 "cell_of" (spCellOf Z) [] := by
  refine cal0 F b .nil sc_cell_of (fun vs H Q E h => ?_) (fun cdv A outer s H vs Q E hr h => ?_)
  · obtain ⟨A, m, bb, rfl, _⟩ := h
    rfl
  · obtain ⟨A, m, bb, rfl, k, q⟩ := h
    have nd := sc_cell_of.nd
    refine ⟨_, (pss_one (ps_ret (pe_op op_add (pe_ix ix_tup (pe_fld (pv 0) rfl) pe_int (fun _ _ => rfl)) (pv 1)))), ?_⟩
    obtain ⟨pw, e0, ew⟩ := k.ins
    walk_at "b"
    refine Y.s_fld ?_
    walk_at "s"
    refine body_fld e0 7 rfl rfl ?_
    walk_at "s"
    exact q
abbrev s_row_at_place : Stmt := top 75
theorem sc_row_at_place : FnScope ["body"] ["body"] (fnScope s_row_at_place) := fnScope_by (by decide +kernel)
theorem ok_row_at_place {f : Addr} {fd : FuncData} (F : Def K mg "row_at_place" s_row_at_place f fd) (b : Binds K fd ["body"] []) (T : Txt K mg) (c_cell_of : Cal P w K mg base 1 "cell_of" (spCellOf Z) []) (m_Room_thing_at : Met P w K mg base 7 Z.CR "thing_at" (spThingAt Z) []) : Cal P w K mg base 8 "row_at_place" (spRowAt Z) [] := by
  refine cal0 F b .nil sc_row_at_place (fun vs H Q E h => ?_) (fun cdv A outer s H vs Q E hr h => ?_)
  · obtain ⟨A, m, t, rfl, _⟩ := h
    rfl
  · obtain ⟨A, m, t, rfl, k, hp, et, q⟩ := h
    have nd := sc_row_at_place.nd
    refine ⟨_, (pss_one (ps_ret (pe_mt m_Room_thing_at hr (by first | decide | omega) (pe_fld (pv 0) rfl) (pa_cons (pe_c c_cell_of hr (by first | decide | omega) (by rfl) (pa_cons (pv 0) (pa_cons (pe_fld (pv 0) rfl) pa_nil))) pa_nil)))), ?_⟩
    obtain ⟨pw, e0, ew⟩ := k.ins
    walk_at "b"
    refine Y.s_meth ?_
    refine Y.s_fld ?_
    walk_at "s"
    refine body_fld e0 1 rfl rfl ?_
    refine Y.s_methI (k.room.get (.head _)) rfl ?_
    walk_at "s"
    refine Y.s_fld ?_
    walk_at "s"
    refine body_fld e0 5 rfl rfl ?_
    walk_at "s"
    refine u_cell k ?_
    walk_at "s"
    refine u_thingat k (by have := k.wf.w0; have := k.wf.pl.1; omega) et ?_
    exact q
end
end G
end
section
namespace G
open PySem L2 C8
/-- a module's tuple of texts, its index method at hand -/
def TupGD (K : PySem.W.Frag) (mg : Str → Option Value) (x : Str) (vs : List V) : Prop := ∃ a : Addr, (∃ u, mg x = some u ∧ RelV (.ref a) u) ∧ (∀ H : Hp, SqT K H a vs) ∧ ∃ o, K.lookup a = some o ∧ o.cls = .type "tuple" ∧ o.dict = none
theorem s_bmT {K : PySem.W.Frag} {r : V → List V → Hp → VK → Prop} {t : TA} {σ : L2.St} {H : Hp} {Q : VK} {p : Addr} (h : ∃ o, K.lookup p = some o ∧ o.cls = .type "tuple" ∧ o.dict = none) (q : t σ H fun xs H2 => r (.ref p) xs H2 Q) : tyV K "tuple" (.ref p) H ∧ t σ H fun xs H2 => r (.ref p) xs H2 Q := ⟨.inr (.inl ⟨rfl, h⟩), q⟩
theorem word_load {r : Row} : r.word = "load" → ∃ b c, r = .load b c := by
  cases r <;> dsimp only [Row.word] <;> intro h <;> first | exact ⟨_, _, rfl⟩ | exact absurd h (by decide +kernel)
theorem word_store {r : Row} : r.word = "store" → ∃ c b, r = .store c b := by
  cases r <;> dsimp only [Row.word] <;> intro h <;> first | exact ⟨_, _, rfl⟩ | exact absurd h (by decide +kernel)
theorem find_own : ∀ z : Str, (∃ j, ownW.findIdx? (fun y => decide (y = z)) = some j ∧ ownW[j]? = some z ∧ (∀ m, m < j → ownW[m]? ≠ some z) ∧ ownW.contains z = true ∧ j < 7) ∨ (ownW.findIdx? (fun y => decide (y = z)) = none ∧ ownW.contains z = false) := by
  intro z
  cases e : ownW.findIdx? (fun y => decide (y = z)) with
  | none =>
    refine .inr ⟨rfl, ?_⟩
    have h := List.findIdx?_eq_none_iff.mp e
    cases c : ownW.contains z with
    | false => rfl
    | true =>
      have hm : z ∈ ownW := by simpa using c
      have := h z hm
      simp at this
  | some j =>
    obtain ⟨h1, h2, h3⟩ := List.findIdx?_eq_some_iff_getElem.mp e
    have ej : ownW[j] = z := of_decide_eq_true h2
    refine .inl ⟨j, rfl, by rw [List.getElem?_eq_getElem h1, ej], fun m hm em => ?_, ?_, h1⟩
    · obtain ⟨h4, h5⟩ := List.getElem?_eq_some_iff.mp em
      have := h3 m hm
      simp [h5] at this
    · have : z ∈ ownW := by rw [← ej]; exact List.getElem_mem _
      simpa using this
section
variable {P : Program} {w : World} {K : PySem.W.Frag} {mg : Str → Option Value} {base : Heap} {Z : Zs K}
abbrev s_reaches_beyond : Stmt := top 77
theorem sc_reaches_beyond : FnScope ["body", "row"] ["body", "row"] (fnScope s_reaches_beyond) := fnScope_by (by decide +kernel)
theorem ok_reaches_beyond {f : Addr} {fd : FuncData} (F : Def K mg "reaches_beyond" s_reaches_beyond f fd) (b : Binds K fd ["body", "row"] []) (T : Txt K mg) (c_is_beyond : Cal P w K mg base 1 "is_beyond" (spIsBeyond Z) []) (c_box_worth : Cal P w K mg base 2 "box_worth" (spBoxWorth Z) []) : Cal P w K mg base 3 "reaches_beyond" (spReaches Z) [] := by
  refine cal0 F b .nil sc_reaches_beyond (fun vs H Q E h => ?_) (fun cdv A outer s H vs Q E hr h => ?_)
  · obtain ⟨A, m, p, r, rfl, _⟩ := h
    rfl
  · obtain ⟨A, m, p, r, rfl, k, ⟨hp, hok⟩, q⟩ := h
    have nd := sc_reaches_beyond.nd
    refine ⟨_, (pss_cons (ps_if (pt_cmpR op_eq (pe_ix ix_tup (pv 1) pe_int (fun _ _ => rfl)) pe_str (nomark _))
      (pss_one (ps_ret (pe_c c_is_beyond hr (by first | decide | omega) (by rfl) (pa_cons (pv 0) (pa_cons (pe_c c_box_worth hr (by first | decide | omega) (by rfl) (pa_cons (pv 0) (pa_cons (pe_ix ix_tup (pv 1) pe_int (fun _ _ => rfl)) pa_nil))) pa_nil)))))
      pss_nil)
      (pss_one (ps_ret (pe_and (pe_cmpR op_eq (pe_ix ix_tup (pv 1) pe_int (fun _ _ => rfl)) pe_str (nomark _)) (pe_one (pe_c c_is_beyond hr (by first | decide | omega) (by rfl) (pa_cons (pv 0) (pa_cons (pe_c c_box_worth hr (by first | decide | omega) (by rfl) (pa_cons (pv 0) (pa_cons (pe_ix ix_tup (pv 1) pe_int (fun _ _ => rfl)) pa_nil))) pa_nil)))))))), ?_⟩
    by_cases hl : r.word = "load"
    · obtain ⟨bb, cc, rfl⟩ := word_load hl
      have hp' : TpAt K H p [.str "load", .int bb, .int cc] := hp
      walk_at "b"
      refine u_bw k hok.2 ?_
      walk_at "s"
      exact u_bey k q
    · by_cases hs : r.word = "store"
      · obtain ⟨cc, bb, rfl⟩ := word_store hs
        have hp' : TpAt K H p [.str "store", .int cc, .int bb] := hp
        walk_at "b"
        refine u_bw k hok.1 ?_
        walk_at "s"
        exact u_bey k q
      · have hf : m.reaches r = false := by
          cases r <;> first | rfl | exact absurd rfl hl | exact absurd rfl hs
        rw [hf] at q
        rw [r.vs_eq] at hp
        walk_at "b"
        refine Y.s_ixT' (w := .str r.word) hp.sq (at_of (j := 0) rfl rfl) ?_
        walk_at "s"
        refine Y.s_dF hl ?_
        walk_at "s"
        refine Y.s_ixT' (w := .str r.word) hp.sq (at_of (j := 0) rfl rfl) ?_
        walk_at "s"
        rw [decide_eq_false (p := r.word = Str.ofString "store") hs]
        walk_at "s"
        exact q
abbrev s_caught_in_low : Stmt := top 78
theorem sc_caught_in_low : FnScope ["kind", "word"] ["kind", "word"] (fnScope s_caught_in_low) := fnScope_by (by decide +kernel)
theorem ok_caught_in_low {f : Addr} {fd : FuncData} (F : Def K mg "caught_in_low" s_caught_in_low f fd) (b : Binds K fd ["kind", "word"] []) (T : Txt K mg) (tO : TupGD K mg "OWN" (ownW.map V.str)) (v_CALL : IntG mg "CALL" 5) (v_OWN_ROW : IntG mg "OWN_ROW" 1) (v_NOTHING : IntG mg "NOTHING" 0) : Cal P w K mg base 1 "caught_in_low" spCaughtLow [] := by
  obtain ⟨aO, v_OWN, qO, oO⟩ := tO
  refine cal0 F b .nil sc_caught_in_low (fun vs H Q E h => ?_) (fun cdv A outer s H vs Q E hr h => ?_)
  · obtain ⟨p, bs, z, rfl, _⟩ := h
    rfl
  · obtain ⟨p, bs, z, rfl, hp, hl, q⟩ := h
    have nd := sc_caught_in_low.nd
    refine ⟨_, (pss_cons (ps_if (pt_cmpR op_eq (pv 1) pe_str (nomark _))
      (pss_one (ps_ret (pe_gc (by rfl) v_CALL)))
      pss_nil)
      (pss_cons (ps_if (PW.pt (pw_and (pt_cmpR op_in_seq (pv 1) (pe_gc (by rfl) v_OWN) (by rfl)) (pw_and1 (pt_val (pe_ix ix_tup (pv 0) (pe_bm PySem.F.plainAttrs_tuple PySem.F.slot_tuple_index PySem.F.type_tuple_index Y.mt_tindex (pe_gc (by rfl) v_OWN) (pa_cons (pv 1) pa_nil)) (fun _ _ => rfl))))))
      (pss_one (ps_ret (pe_gc (by rfl) v_OWN_ROW)))
      pss_nil)
      (pss_one (ps_ret (pe_gc (by rfl) v_NOTHING))))), ?_⟩
    unfold lowN at q
    walk_at "b"
    refine Y.s_d2 (fun hz => ?_) (fun hz => ?_)
    · rw [if_pos hz] at q
      walk_at "s"
      exact q
    · rw [if_neg hz] at q
      walk_at "s"
      refine Y.s_inT (b := ownW.contains z) (qO _) rfl (Y.flat_strs _) (Y.inV_strs z ownW) ?_
      refine Y.s_bl ?_
      rcases find_own z with ⟨j, e1, e2, e3, e4, e5⟩ | ⟨e1, e4⟩
      · rw [e1] at q
        dsimp only at q
        rw [e4]
        walk_at "s"
        refine ⟨.inr (.inl ⟨rfl, oO⟩), ?_⟩
        walk_at "s"
        refine ⟨aO, ownW, z, j, rfl, rfl, qO _, e2, e3, ?_⟩
        have hj : bs[j]? = some (bs.getD j false) := by rw [List.getD_eq_getElem?_getD, List.getElem?_eq_getElem (by omega)]; rfl
        refine Y.s_ixT' (w := .bl (bs.getD j false)) (SqT.of hp) (at_of (j := j) rfl (by rw [List.getElem?_map, hj]; rfl)) ?_
        walk_at "s"
        cases hc : bs.getD j false with
        | true =>
          rw [hc] at q
          walk_at "s"
          exact q
        | false =>
          rw [hc] at q
          walk_at "s"
          exact q
      · rw [e1] at q
        rw [e4]
        walk_at "s"
        exact q
abbrev s_caught_at_place : Stmt := top 76
theorem sc_caught_at_place : FnScope ["body", "row"] ["body"] (fnScope s_caught_at_place) := fnScope_by (by decide +kernel)
theorem ok_caught_at_place {f : Addr} {fd : FuncData} (F : Def K mg "caught_at_place" s_caught_at_place f fd) (b : Binds K fd ["body"] []) (T : Txt K mg) (v_BEYOND : IntG mg "BEYOND" 2) (v_NO_ROW : IntG mg "NO_ROW" 3) (v_NOTHING : IntG mg "NOTHING" 0)
    (c_is_beyond : Cal P w K mg base 1 "is_beyond" (spIsBeyond Z) []) (c_row_at_place : Cal P w K mg base 8 "row_at_place" (spRowAt Z) []) (c_reaches_beyond : Cal P w K mg base 3 "reaches_beyond" (spReaches Z) []) (c_caught_in_low : Cal P w K mg base 1 "caught_in_low" spCaughtLow []) : Cal P w K mg base 9 "caught_at_place" (spCaught Z) [] := by
  refine cal0 F b .nil sc_caught_at_place (fun vs H Q E h => ?_) (fun cdv A outer s H vs Q E hr h => ?_)
  · obtain ⟨A, m, rfl, _⟩ := h
    rfl
  · obtain ⟨A, m, rfl, k, q⟩ := h
    have nd := sc_caught_at_place.nd
    refine ⟨_, (pss_cons (ps_if (pt_val (pe_c c_is_beyond hr (by first | decide | omega) (by rfl) (pa_cons (pv 0) (pa_cons (pe_fld (pv 0) rfl) pa_nil))))
      (pss_one (ps_ret (pe_gc (by rfl) v_BEYOND)))
      pss_nil)
      (pss_cons (ps_set (i := 1) nd rfl (by first | exact Or.inl rfl | exact Or.inr rfl) (pe_c c_row_at_place hr (by first | decide | omega) (by rfl) (pa_cons (pv 0) pa_nil)))
      (pss_cons (ps_if (pt_not (pt_val (pe_callB call_isi (by rfl) T.n_isinstance (by decide +kernel) (pa_cons (pv 1) (pa_cons (Y.pe_bty (T := "tuple") (by rfl) T.n_tuple (by decide +kernel)) pa_nil)))))
      (pss_one (ps_ret (pe_gc (by rfl) v_NO_ROW)))
      pss_nil)
      (pss_cons (ps_if (pt_val (pe_c c_reaches_beyond hr (by first | decide | omega) (by rfl) (pa_cons (pv 0) (pa_cons (pv 1) pa_nil))))
      (pss_one (ps_ret (pe_gc (by rfl) v_BEYOND)))
      pss_nil)
      (pss_one (ps_ret (pe_ifExp (pt_val (pe_fld (pv 0) rfl)) (pe_gc (by rfl) v_NOTHING) (pe_c c_caught_in_low hr (by first | decide | omega) (by rfl) (pa_cons (pe_fld (pv 0) rfl) (pa_cons (pe_ix ix_tup (pv 1) pe_int (fun _ _ => rfl)) pa_nil)))))))))), ?_⟩
    obtain ⟨pw, e0, ew⟩ := k.ins
    unfold Mc.caught at q
    walk_at "b"
    refine Y.s_fld ?_
    walk_at "s"
    refine body_fld e0 5 rfl rfl ?_
    walk_at "s"
    refine u_bey k ?_
    refine Y.s_bl ?_
    refine Y.s_d2 (fun hb => ?_) (fun hb => ?_)
    · rw [if_pos hb] at q
      walk_at "s"
      exact q
    · rw [if_neg hb] at q
      obtain ⟨t, et, mt⟩ := Mc.at_some k.wf k.wf.pl.1 (Int.not_le.mp hb)
      rw [et] at q
      have hat := cells_in k t mt
      walk_at "s"
      refine u_rowat k (Int.not_le.mp hb) et ?_
      cases t with
      | num n =>
        dsimp only [Thing.v]
        walk_at "s"
        exact q
      | row p r =>
        have hp := hat.1
        have hp' := hp
        rw [r.vs_eq] at hp'
        dsimp only [Thing.v]
        walk_at "s"
        refine u_reach k hat ?_
        cases hre : m.reaches r with
        | true =>
          dsimp only at q
          rw [hre] at q
          walk_at "s"
          exact q
        | false =>
          dsimp only at q
          rw [hre] at q
          walk_at "s"
          refine Y.s_fld ?_
          walk_at "s"
          refine body_fld e0 6 rfl rfl ?_
          walk_at "s"
          cases hh : m.high with
          | true =>
            rw [hh] at q
            walk_at "s"
            exact q
          | false =>
            rw [hh] at q
            walk_at "s"
            refine Y.s_fld ?_
            walk_at "s"
            refine body_fld e0 0 rfl rfl ?_
            walk_at "s"
            refine Y.s_ixT' (w := .str r.word) hp'.sq (at_of (j := 0) rfl rfl) ?_
            walk_at "s"
            exact u_low k.kd k.wf.bs q
end
end G
end
section
namespace G
open PySem L2 C8
variable {K : PySem.W.Frag}
/-! ### what follows when something is caught -/
section
variable {A : Adr} {m : Mc}
theorem Mc.Wf.high (w : m.Wf A) (b : Bool) : Mc.Wf A { m with high := b } := ⟨w.1, w.2, w.3, w.4, w.5, w.6, w.7, w.8, w.9, w.10, w.11, w.12, w.13, w.14, w.15⟩
theorem Mc.Wf.why_ (w : m.Wf A) (b : Str) : Mc.Wf A { m with why := b } := ⟨w.1, w.2, w.3, w.4, w.5, w.6, w.7, w.8, w.9, w.10, w.11, w.12, w.13, w.14, w.15⟩
theorem Mc.Wf.steps_ (w : m.Wf A) (b : Int) : Mc.Wf A { m with steps := b } := ⟨w.1, w.2, w.3, w.4, w.5, w.6, w.7, w.8, w.9, w.10, w.11, w.12, w.13, w.14, w.15⟩
theorem Mc.Wf.place_ (w : m.Wf A) {b : Int} (h : Nm b) : Mc.Wf A { m with place := b } := ⟨w.1, w.2, w.3, h, w.5, w.6, w.7, w.8, w.9, w.10, w.11, w.12, w.13, w.14, w.15⟩
theorem Mc.Wf.alarm_ (w : m.Wf A) {b : Int} (h : Nm b) : Mc.Wf A { m with alarm := b } := ⟨w.1, w.2, w.3, w.4, w.5, w.6, w.7, h, w.9, w.10, w.11, w.12, w.13, w.14, w.15⟩
end
section
variable {K : PySem.W.Frag} {Z : Zs K} {H : Hp} {A : Adr} {m : Mc}
/-- a field of the body is written, as a step -/
theorem body_set {f : Str} {y : V} {q : Hp → Prop} (i : Nat) (hf : fldB[i]? = some f) {m' : Mc} (k : BodyAt Z H A m) (hm : ∀ pw, putF f y (A.flds pw m) = A.flds pw m') (e1 : m'.cells = m.cells) (e2 : m'.boxes = m.boxes) (e3 : m'.said = m.said) (e4 : m'.ear = m.ear) (e5 : m'.gsaid = m.gsaid) (e6 : m'.w0 = m.w0) (e7 : m'.w1 = m.w1) (wf : m'.Wf A)
    (h : ∀ H', FrS A.own H H' → BodyAt Z H' A m' → q H') : Y.SetR K f y q (.ref A.pb) H := by
  obtain ⟨dx, fs, e, l, k'⟩ := k.fld hm e1 e2 e3 e4 e5 e6 e7 wf
  exact Y.s_setFI e Z.b.cls (Z.b.at_ i hf) l (h _ (FrS.refl.upd (.head _)) k')
theorem set_high {q : Hp → Prop} {b : Bool} (k : BodyAt Z H A m) (h : ∀ H', FrS A.own H H' → BodyAt Z H' A { m with high := b } → q H') : Y.SetR K "high" (.bl b) q (.ref A.pb) H := body_set (m' := { m with high := b }) 6 rfl k (fun _ => rfl) rfl rfl rfl rfl rfl rfl rfl (k.wf.high b) h
theorem set_why {q : Hp → Prop} {b : Str} (k : BodyAt Z H A m) (h : ∀ H', FrS A.own H H' → BodyAt Z H' A { m with why := b } → q H') : Y.SetR K "why" (.str b) q (.ref A.pb) H := body_set (m' := { m with why := b }) 11 rfl k (fun _ => rfl) rfl rfl rfl rfl rfl rfl rfl (k.wf.why_ b) h
theorem set_place {q : Hp → Prop} {b : Int} (k : BodyAt Z H A m) (hb : Nm b) (h : ∀ H', FrS A.own H H' → BodyAt Z H' A { m with place := b } → q H') : Y.SetR K "place" (.int b) q (.ref A.pb) H := body_set (m' := { m with place := b }) 5 rfl k (fun _ => rfl) rfl rfl rfl rfl rfl rfl rfl (k.wf.place_ hb) h
theorem set_alarm {q : Hp → Prop} {b : Int} (k : BodyAt Z H A m) (hb : Nm b) (h : ∀ H', FrS A.own H H' → BodyAt Z H' A { m with alarm := b } → q H') : Y.SetR K "alarm" (.int b) q (.ref A.pb) H := body_set (m' := { m with alarm := b }) 8 rfl k (fun _ => rfl) rfl rfl rfl rfl rfl rfl rfl (k.wf.alarm_ hb) h
theorem set_window {q : Hp → Prop} {pw' : Addr} {a b : Int} (k : BodyAt Z H A m) (hp : H pw' = some (.tup [.int a, .int b])) (h0 : 0 ≤ a) (h1 : 0 ≤ b) (h2 : a + b ≤ m.cells.length) (h : ∀ H', FrS A.own H H' → BodyAt Z H' A { m with w0 := a, w1 := b } → q H') : Y.SetR K "window" (.ref pw') q (.ref A.pb) H := by
  obtain ⟨dx, fs, e, l, k'⟩ := k.win hp h0 h1 h2
  exact Y.s_setFI e Z.b.cls (Z.b.at_ 7 rfl) l (h _ (FrS.refl.upd (.head _)) k')
/-- body.f op= an int -/
theorem body_aug {f : Str} {tv : TE} {rd : V → V → Hp → VK → Prop} {σ : L2.St} {q : Hp → Prop} (i : Nat) (hf : fldB[i]? = some f) {x y z : V} {m' : Mc} (k : BodyAt Z H A m) (hx : ∀ pw, (A.flds pw m).lookup f = some x) (ht : ∀ R : VK, R y H → tv σ H R) (hrd : ∀ R : VK, R z H → rd x y H R)
    (hm : ∀ pw, putF f z (A.flds pw m) = A.flds pw m') (e1 : m'.cells = m.cells) (e2 : m'.boxes = m.boxes) (e3 : m'.said = m.said) (e4 : m'.ear = m.ear) (e5 : m'.gsaid = m.gsaid) (e6 : m'.w0 = m.w0) (e7 : m'.w1 = m.w1) (wf : m'.Wf A)
    (h : ∀ H', FrS A.own H H' → BodyAt Z H' A m' → q H') : Y.AugR K tv rd f σ q (.ref A.pb) H := by
  obtain ⟨pw, e0, _⟩ := k.ins
  obtain ⟨dx, fs, e, l, k'⟩ := k.fld hm e1 e2 e3 e4 e5 e6 e7 wf
  rw [e0] at e
  cases e
  exact ⟨A.pb, Z.CB, A.dx, _, x, rfl, e0, Z.b.cls, Z.b.at_ i hf, hx pw, ht _ (hrd _ ⟨A.dx, _, e0, l, h _ (FrS.refl.upd (.head _)) k'⟩)⟩
end
def WHYKV : List (Int × V) := [(2, .str "beyond"), (3, .str "no row")]
def Mc.mkHigh (m : Mc) (n c : Int) : Mc :=
  { m with cells := lay (lay m.cells 0 [.num m.place, .num m.w0, .num m.w1, .num n, .num c]) 6 m.boxes, high := true, w0 := 0, w1 := m.cells.length, alarm := 0,
           place := match (lay (lay m.cells 0 [.num m.place, .num m.w0, .num m.w1, .num n, .num c]) 6 m.boxes)[5]? with
             | some t => t.worth
             | none => 0 }
def Mc.calledAt (m : Mc) : Int := match m.at_ m.place with
  | some (.row _ (.call n)) => n
  | _ => 0
def Mc.catch_ (m : Mc) (n : Int) : Mc := if m.high then { m with why := if n = 2 then "beyond" else "no row" } else if n = 5 then { m with place := m.place + 1 }.mkHigh 5 m.calledAt else m.mkHigh n 0
def spMakeHigh {K : PySem.W.Frag} (Z : Zs K) : Sp := fun vs H Q _ => ∃ A m n c, vs = [.ref A.pb, .int n, .int c] ∧ BodyAt Z H A m ∧ Nm n ∧ Nm c ∧ ∀ H', FrS A.own H H' → BodyAt Z H' A (m.mkHigh n c) → Q .non H'
def spCatch {K : PySem.W.Frag} (Z : Zs K) : Sp := fun vs H Q _ => ∃ A m n, vs = [.ref A.pb, .int n] ∧ BodyAt Z H A m ∧ 0 ≤ n ∧ n ≤ 5 ∧ (m.high = true → n = 2 ∨ n = 3) ∧ (n = 5 → m.place < m.w1 ∧ ∃ p c, m.at_ m.place = some (.row p (.call c)) ∧ Nm c) ∧ ∀ H', FrS A.own H H' → BodyAt Z H' A (m.catch_ n) → Q .non H'
section
variable {K : PySem.W.Frag} {Z : Zs K} {H : Hp} {Q : VK} {E : XK} {A : Adr} {m : Mc}
theorem u_makehigh {n c : Int} (k : BodyAt Z H A m) (hn : Nm n) (hc : Nm c) (q : ∀ H', FrS A.own H H' → BodyAt Z H' A (m.mkHigh n c) → Q .non H') : spMakeHigh Z ([.ref A.pb, .int n, .int c] ++ []) H Q E := ⟨A, m, n, c, rfl, k, hn, hc, q⟩
theorem u_put {c : Nat} {p : Addr} {ts : List Thing} (k : BodyAt Z H A m) (hc : c + ts.length ≤ m.cells.length) (hp : H p = some (.lst (ts.map Thing.v))) (ht : (Things K) H ts) (q : ∀ H', FrS A.own H H' → BodyAt Z H' A { m with cells := lay m.cells c ts } → Q .non H') :
    spPutThings Z (.ref A.rm.pm :: ([.int (c : Nat), .ref p] ++ [])) H Q E := ⟨A, m, c, p, ts, rfl, k, hc, hp, ht, q⟩
end
section
variable {P : Program} {w : World} {K : PySem.W.Frag} {mg : Str → Option Value} {base : Heap} {Z : Zs K}
abbrev s_make_high : Stmt := top 80
theorem sc_make_high : FnScope ["body", "number", "called"] ["body", "number", "called"] (fnScope s_make_high) := fnScope_by (by decide +kernel)
theorem ok_make_high {f : Addr} {fd : FuncData} (F : Def K mg "make_high" s_make_high f fd) (b : Binds K fd ["body", "number", "called"] []) (T : Txt K mg) (c_worth : Cal P w K mg base 1 "worth" (spWorth K) []) (m_Room_put_things : Met P w K mg base 7 Z.CR "put_things" (spPutThings Z) []) (m_Room_thing_at : Met P w K mg base 7 Z.CR "thing_at" (spThingAt Z) []) : Cal P w K mg base 8 "make_high" (spMakeHigh Z) [] := by
  refine cal0 F b .nil sc_make_high (fun vs H Q E h => ?_) (fun cdv A outer s H vs Q E hr h => ?_)
  · obtain ⟨A, m, n, c, rfl, _⟩ := h
    rfl
  · obtain ⟨A, m, n, c, rfl, k, hn, hc, q⟩ := h
    have nd := sc_make_high.nd
    refine ⟨_, (pss_cons (ps_expr (pe_mt m_Room_put_things hr (by first | decide | omega) (pe_fld (pv 0) rfl) (pa_cons pe_int (pa_cons (pe_lst (pa_cons (pe_fld (pv 0) rfl) (pa_cons (pe_ix ix_tup (pe_fld (pv 0) rfl) pe_int (fun _ _ => rfl)) (pa_cons (pe_ix ix_tup (pe_fld (pv 0) rfl) pe_int (fun _ _ => rfl)) (pa_cons (pv 1) (pa_cons (pv 2) pa_nil)))))) pa_nil))))
      (pss_cons (ps_expr (pe_mt m_Room_put_things hr (by first | decide | omega) (pe_fld (pv 0) rfl) (pa_cons pe_int (pa_cons (pe_fld (pv 0) rfl) pa_nil))))
      (pss_cons (ps_fld (pv 0) pe_bl rfl)
      (pss_cons (ps_fld (pv 0) (pe_tup (pa_cons pe_int (pa_cons (pe_fld (pe_fld (pv 0) rfl) rfl) pa_nil))) rfl)
      (pss_cons (ps_fld (pv 0) pe_int rfl)
      (pss_one (ps_fld (pv 0) (pe_c c_worth hr (by first | decide | omega) (by rfl) (pa_cons (pe_mt m_Room_thing_at hr (by first | decide | omega) (pe_fld (pv 0) rfl) (pa_cons pe_int pa_nil)) pa_nil)) rfl))))))), ?_⟩
    obtain ⟨pw, e0, ew⟩ := k.ins
    have wf := k.wf
    have h16 := wf.n16
    have h40 := wf.n40
    walk_at "b"
    refine Y.s_meth ?_
    refine Y.s_fld ?_
    walk_at "s"
    refine body_fld e0 1 rfl rfl ?_
    refine Y.s_methI (k.room.get (.head _)) rfl ?_
    walk_at "s"
    refine Y.s_fld ?_
    walk_at "s"
    refine body_fld e0 5 rfl rfl ?_
    walk_at "s"
    refine Y.s_fld ?_
    walk_at "s"
    refine body_fld e0 7 rfl rfl ?_
    walk_at "s"
    refine Y.s_fld ?_
    walk_at "s"
    refine body_fld e0 7 rfl rfl ?_
    walk_at "s"
    refine Y.s_new rfl fun p1 hp1 => ?_
    have k1 := k.new (o := .lst [.int m.place, .int m.w0, .int m.w1, .int n, .int c]) hp1
    walk_at "s"
    refine u_put (c := 0) (ts := [.num m.place, .num m.w0, .num m.w1, .num n, .num c]) k1 (by show 0 + 5 ≤ _; omega) upd_same (things_cons wf.pl (things_cons ⟨wf.w0, by have := wf.win; have := wf.w1; omega⟩ (things_cons ⟨wf.w1, by have := wf.win; have := wf.w0; omega⟩ (things_cons hn (things_cons hc things_nil))))) fun H2 f2 k2 => ?_
    have f2 := FrS.trans (FrS.refl.new (S := A.own) (o := .lst [.int m.place, .int m.w0, .int m.w1, .int n, .int c]) hp1) f2
    obtain ⟨pw2, e2, ew2⟩ := k2.ins
    have l2 : (lay m.cells 0 [.num m.place, .num m.w0, .num m.w1, .num n, .num c]).length = m.cells.length := lay_length (by show 0 + 5 ≤ _; omega)
    walk_at "s"
    refine Y.s_meth ?_
    refine Y.s_fld ?_
    walk_at "s"
    refine body_fld e2 1 rfl rfl ?_
    refine Y.s_methI (k2.room.get (.head _)) rfl ?_
    walk_at "s"
    refine Y.s_fld ?_
    walk_at "s"
    refine body_fld e2 4 rfl rfl ?_
    walk_at "s"
    refine u_put (c := 6) (ts := m.boxes) k2 (by show 6 + m.boxes.length ≤ (lay m.cells 0 _).length; rw [l2, wf.box]; omega) k2.bx k2.tb fun H3 f3 k3 => ?_
    have f3 := f2.trans f3
    have l3 : (lay (lay m.cells 0 [.num m.place, .num m.w0, .num m.w1, .num n, .num c]) 6 m.boxes).length = m.cells.length := by rw [lay_length (by rw [l2, wf.box]; omega), l2]
    walk_at "s"
    refine Y.s_setF ?_
    walk_at "s"
    refine set_high k3 fun H4 f4 k4 => ?_
    have f4 := f3.trans f4
    obtain ⟨pw4, e4, ew4⟩ := k4.ins
    walk_at "s"
    refine Y.s_setF ?_
    walk_at "s"
    refine Y.s_fld ?_
    refine Y.s_fld ?_
    walk_at "s"
    refine body_fld e4 1 rfl rfl ?_
    refine Y.s_fldI (k4.room.get (.head _)) Z.r.cls (Z.r.at_ 3 rfl) rfl ?_
    walk_at "s"
    refine Y.s_new rfl fun p5 hp5 => ?_
    have k5 := k4.new (o := .tup [.int 0, .int A.rm.wide]) hp5
    have f5 := f4.new (o := .tup [.int 0, .int A.rm.wide]) hp5
    walk_at "s"
    refine set_window k5 upd_same (by decide) (by rw [wf.wd]; omega) (by show 0 + A.rm.wide ≤ ((lay (lay m.cells 0 _) 6 m.boxes).length : Nat); rw [l3, wf.wd]; omega) fun H6 f6 k6 => ?_
    have f6 := f5.trans f6
    walk_at "s"
    refine Y.s_setF ?_
    walk_at "s"
    refine set_alarm k6 ⟨by decide, by decide⟩ fun H7 f7 k7 => ?_
    have f7 := f6.trans f7
    obtain ⟨pw7, e7, ew7⟩ := k7.ins
    walk_at "s"
    refine Y.s_setF ?_
    walk_at "s"
    refine Y.s_meth ?_
    refine Y.s_fld ?_
    walk_at "s"
    refine body_fld e7 1 rfl rfl ?_
    refine Y.s_methI (k7.room.get (.head _)) rfl ?_
    walk_at "s"
    obtain ⟨t, et⟩ : ∃ t, (lay (lay m.cells 0 [.num m.place, .num m.w0, .num m.w1, .num n, .num c]) 6 m.boxes)[5]? = some t := ⟨_, List.getElem?_eq_getElem (by rw [l3]; omega)⟩
    refine u_thingat (c := 5) k7 (by decide) et ?_
    walk_at "s"
    have hat := cells_in k7 t (List.mem_of_getElem? et)
    refine u_worth rfl hat ?_
    walk_at "s"
    refine set_place k7 (Thing.worth_nm hat) fun H8 f8 k8 => ?_
    have f8 := f7.trans f8
    walk_at "s"
    refine q _ f8 ?_
    have em : m.mkHigh n c = { m with cells := lay (lay m.cells 0 [.num m.place, .num m.w0, .num m.w1, .num n, .num c]) 6 m.boxes, high := true, w0 := 0, w1 := A.rm.wide, alarm := 0, place := t.worth } := by
      unfold Mc.mkHigh
      rw [et, wf.wd]
    rw [em]
    exact k8
end
end G
end
section
namespace G
open PySem L2 C8
/-! ### catch, and what the rows do -/
section
variable {K : PySem.W.Frag} {Z : Zs K} {H : Hp} {Q : VK} {E : XK} {A : Adr} {m : Mc}
theorem u_catch {n : Int} (k : BodyAt Z H A m) (h0 : 0 ≤ n) (h5 : n ≤ 5) (hh : m.high = true → n = 2 ∨ n = 3) (hc : n = 5 → m.place < m.w1 ∧ ∃ p c, m.at_ m.place = some (.row p (.call c)) ∧ Nm c) (q : ∀ H', FrS A.own H H' → BodyAt Z H' A (m.catch_ n) → Q .non H') : spCatch Z ([.ref A.pb, .int n] ++ []) H Q E := ⟨A, m, n, rfl, k, h0, h5, hh, hc, q⟩
end
section
variable {P : Program} {w : World} {K : PySem.W.Frag} {mg : Str → Option Value} {base : Heap} {Z : Zs K}
abbrev s_catch : Stmt := top 79
theorem sc_catch : FnScope ["body", "number", "called"] ["body", "number"] (fnScope s_catch) := fnScope_by (by decide +kernel)
theorem ok_catch {f : Addr} {fd : FuncData} {dW : Addr} (F : Def K mg "catch" s_catch f fd) (b : Binds K fd ["body", "number"] []) (T : Txt K mg) (v_CALL : IntG mg "CALL" 5) (v_WHYS : ∃ u, mg "WHYS" = some u ∧ RelV (.ref dW) u) (q_WHYS : Y.IDictAt K dW WHYKV)
    (c_row_at_place : Cal P w K mg base 8 "row_at_place" (spRowAt Z) []) (c_make_high : Cal P w K mg base 8 "make_high" (spMakeHigh Z) []) : Cal P w K mg base 9 "catch" (spCatch Z) [] := by
  refine cal0 F b .nil sc_catch (fun vs H Q E h => ?_) (fun cdv A outer s H vs Q E hr h => ?_)
  · obtain ⟨A, m, n, rfl, _⟩ := h
    rfl
  · obtain ⟨A, m, n, rfl, k, h0, h5, hh, hc, q⟩ := h
    have nd := sc_catch.nd
    refine ⟨_, (pss_cons (ps_if (pt_val (pe_fld (pv 0) rfl))
      (pss_cons (ps_fld (pv 0) (pe_ix (Y.ix_idict q_WHYS) (pe_gc (by rfl) v_WHYS) (pv 1) (fun _ _ => rfl)) rfl)
      (pss_one ps_retN))
      pss_nil)
      (pss_cons (ps_set (i := 2) nd rfl (by first | exact Or.inl rfl | exact Or.inr rfl) pe_int)
      (pss_cons (ps_if (pt_cmpR op_eq (pv 1) (pe_gc (by rfl) v_CALL) (nomark _))
      (pss_cons (ps_set (i := 2) nd rfl (by first | exact Or.inl rfl | exact Or.inr rfl) (pe_ix ix_tup (pe_c c_row_at_place hr (by first | decide | omega) (by rfl) (pa_cons (pv 0) pa_nil)) pe_int (fun _ _ => rfl)))
      (pss_one (ps_fldaug (pv 0) pe_int in_add)))
      pss_nil)
      (pss_one (ps_expr (pe_c c_make_high hr (by first | decide | omega) (by rfl) (pa_cons (pv 0) (pa_cons (pv 1) (pa_cons (pv 2) pa_nil))))))))), ?_⟩
    obtain ⟨pw, e0, ew⟩ := k.ins
    unfold Mc.catch_ at q
    walk_at "b"
    refine Y.s_fld ?_
    walk_at "s"
    refine body_fld e0 6 rfl rfl ?_
    walk_at "s"
    cases hi : m.high with
    | true =>
      rw [if_pos hi] at q
      walk_at "s"
      refine Y.s_setF ?_
      walk_at "s"
      rcases hh hi with rfl | rfl
      · rw [if_pos rfl] at q
        refine Y.s_ixI (v := .str "beyond") (.head _) ?_
        walk_at "s"
        refine set_why k fun H1 f1 k1 => ?_
        walk_at "s"
        exact q _ f1 k1
      · rw [if_neg (by decide)] at q
        refine Y.s_ixI (v := .str "no row") (.tail _ (.head _)) ?_
        walk_at "s"
        refine set_why k fun H1 f1 k1 => ?_
        walk_at "s"
        exact q _ f1 k1
    | false =>
      rw [if_neg (by rw [hi]; exact Bool.false_ne_true)] at q
      walk_at "s"
      refine Y.s_d2 (fun h5' => ?_) (fun h5' => ?_)
      · rw [if_pos h5'] at q
        obtain ⟨hp, p, c, et, hn⟩ := hc h5'
        have hat := cells_in k _ (List.mem_of_getElem? et)
        have hpt : TpAt K H p [.str "call", .int c] := hat.1
        have ec : m.calledAt = c := by unfold Mc.calledAt; rw [et]
        walk_at "s"
        refine u_rowat k hp et ?_
        dsimp only [Thing.v]
        walk_at "s"
        refine Y.s_aug ?_
        walk_at "s"
        refine body_aug (y := .int 1) (z := .int (m.place + 1)) (m' := { m with place := m.place + 1 }) 5 rfl k (fun _ => rfl) (fun R h => by walk_at "s"; exact h) (fun R h => ⟨_, _, rfl, rfl, h⟩) (fun _ => rfl) rfl rfl rfl rfl rfl rfl rfl (k.wf.place_ ⟨by have := k.wf.pl.1; omega, by have := k.wf.win; have := k.wf.w0; have := k.wf.n40; omega⟩) fun H1 f1 k1 => ?_
        walk_at "s"
        subst h5'
        refine u_makehigh k1 ⟨by decide, by decide⟩ hn fun H2 f2 k2 => ?_
        walk_at "s"
        rw [ec] at q
        exact q _ (f1.trans f2) k2
      · rw [if_neg h5'] at q
        walk_at "s"
        refine u_makehigh k ⟨h0, by omega⟩ ⟨by decide, by decide⟩ fun H2 f2 k2 => ?_
        walk_at "s"
        exact q _ f2 k2
end
end G
end
section
/-! ### word, *rest = a tuple; a def in a local name, called f(x, *xs) -/
namespace Y
open PySem PySem.Spec PyProof.Rows L2 C8
/-- a tuple's iterator, from i on -/
theorem walks_from {prog : Program} {w : World} {A : Around} (hh : A.handled = none) (I ax : Addr) (hne : ax ≠ I) (items : Array Value) (i : Nat) (hi : i ≤ items.size) :
    Walks prog w A I [I, ax] [I] (items.size - i) (fun j v => items[i + j]? = some v) (fun j h => h.IsTupleIter I ax (i + j) ∧ h.IsTuple ax items) where
  sub := (Walks.tuple (prog := prog) (w := w) hh I ax hne items).sub
  frame := fun j => (Walks.tuple (prog := prog) (w := w) hh I ax hne items).frame (i + j)
  item := fun j s Q E hj st hQ => (Walks.tuple (prog := prog) (w := w) hh I ax hne items).item (i + j) s Q E (by omega) st hQ
  done := fun s Q E st hQ => (Walks.tuple (prog := prog) (w := w) hh I ax hne items).done s Q E (by rw [show items.size = i + (items.size - i) by omega]; exact st) hQ
  self := fun j => (Walks.tuple (prog := prog) (w := w) hh I ax hne items).self (i + j)
theorem itemsOf_toList {items : Array Value} {acc : Array Value} {i : Nat} (h : ItemsOf (fun j v => items[i + j]? = some v) acc (items.size - i)) : acc.toList = items.toList.drop i := by
  obtain ⟨h1, h2⟩ := h
  apply List.ext_getElem?
  intro j
  rw [List.getElem?_drop, Array.getElem?_toList, Array.getElem?_toList]
  by_cases hj : j < acc.size
  · have e : acc[j]? = some acc[j] := by simp [hj]
    rw [e, h2 j _ e]
  · rw [Array.getElem?_eq_none (by omega), Array.getElem?_eq_none (by omega)]
def gStar1 (K : PySem.W.Frag) (t1 t2 : TG) : TG := fun v σ H Q => ∃ a x xs, v = .ref a ∧ SqT K H a (x :: xs) ∧ ∀ p, H p = none → t1 x σ (upd H p (.lst xs)) fun σ1 H1 => t2 (.ref p) σ1 H1 Q
theorem pg_star1 {X : Cx} {e1 e2 : Expr} {sp pos : Pos} {k : Nat} {t1 t2 : TG} (hc : X.calm = true) (h1 : PG X e1 t1) (h2 : PG X e2 t2)
    (hs : assignEach [e1, .Starred e2 sp] X.env = [(false, assign e1 X.env), (true, assign e2 X.env)] := by rfl) : PG X (.Tuple [e1, .Starred e2 sp] k pos) (gStar1 X.K t1 t2) := by
  refine ⟨fun pins s σ H v u Q I r hw => ?_⟩
  obtain ⟨a, x, xs, rfl, hq, hw⟩ := hw
  cases r
  obtain ⟨its, rv, ht, hz⟩ := I.tuple hq
  rw [assign_Tuple]
  refine wpAny_bind (wpAny_standAt ?_)
  unfold unpack
  rw [hs]
  have hlt : a ≠ s.heap.objs.size := by obtain ⟨o, ho, _⟩ := ht; exact Nat.ne_of_lt (Heap.lt_size ho)
  cases rv with
  | cons r1 rr =>
    rename_i u1 us
    refine wpAny_bind (wpAny_holding ?_)
    show wpAny _ _ (unpackItems (.ref a) 2 (some 1)) _ _ _
    unfold unpackItems
    refine wpAny_bind ?_
    unfold notIterableAtAll
    refine wpAny_bind (wpAny_specialOf (IsTup.typeIs ht) slot_tuple_iter.lookup ?_)
    refine wpAny_pure ?_
    simp only [Bool.false_eq_true, if_false]
    refine wpAny_bind (wpAny_holding (iter_tuple ht ?_))
    refine wpAny_bind (wpAny_holding (draw_tuple hlt 1 0 _ _ ⟨_, Heap.get?_push_size _ rfl, rfl, rfl⟩ (ht.push _) (by simp) fun h₁ hit₁ hs₁ => ?_))
    rw [if_neg (by simp)]
    have hsz : 1 ≤ ((u1 :: us).toArray).size := by simp
    have ht1 : Heap.IsTuple h₁ a (u1 :: us).toArray := (ht.push _).extBut hs₁.extBut hlt
    have hrl := rr.length
    have hz' : xs.length + 1 ≤ sizeLine := by simpa using hz
    have hl1 : us.length + 1 ≤ sizeLine := by omega
    have lt1 : s.heap.objs.size < h₁.objs.size := by obtain ⟨o, ho, _⟩ := hit₁; exact Heap.lt_size ho
    have lt2 : a < h₁.objs.size := by obtain ⟨o, ho, _⟩ := ht1; exact Heap.lt_size ho
    refine wpAny_bind (wpAny_holding (wpAny_collect_iter (T := "tuple_iterator") (.inr (.inr (.inr rfl))) (Walks.toS (walks_from (prog := X.prog) (w := X.w) (A := X.A.in1) (I.ok.hd hc) s.heap.objs.size a hlt (u1 :: us).toArray 1 hsz)) (fun i s st => st.1.typeIs) ⟨hit₁, ht1⟩ (fun b hb => ?_) (by simp) (fun s' acc mv io => ?_) (by simpa using (by omega : us.length ≤ sizeLine))))
    · have e : b = s.heap.objs.size ∨ b = a := by simpa using hb
      rcases e with rfl | rfl
      · exact lt1
      · exact lt2
    have ea : acc.toList = us := by rw [itemsOf_toList io]; rfl
    rw [ea]
    rw [if_neg (by simp)]
    have kp : ∀ b o, s.heap.get? b = some o → s'.heap.get? b = some o := fun b o e => by
      have nb : b ≠ s.heap.objs.size := Nat.ne_of_lt (Heap.lt_size e)
      refine mv.heap b o (by simp [nb]) ?_
      exact hs₁.extBut b o nb (Heap.get?_push_of_some _ e)
    have I1 : Inv X pins σ H s' := by
      rw [Moved.eq_with mv]
      exact I.kept kp
    refine wpAny_bind (wpAny_newObj_type ?_ (by show (List.take _ us).toArray.size ≤ sizeLine; simp; omega))
    refine wpAny_pure ?_
    have et : List.take (us.length - (2 - 1 - 1)) us = us := List.take_of_length_le (by omega)
    have ed : List.drop (us.length - (2 - 1 - 1)) us = [] := List.drop_of_length_le (by omega)
    rw [et, ed]
    have I2 : Inv X pins σ (upd H s'.heap.objs.size (.lst xs)) { s' with heap := s'.heap.push { cls := .type "list", data := .seq us.toArray } } := by
      refine I1.laid (t' := s'.toks) (fun b o e => Heap.get?_push_of_some _ e) (Nat.le_refl _) ⟨?_, us, 0, rr, Heap.get?_push_size _ rfl⟩
      have := rr.length
      omega
    have fr : H s'.heap.objs.size = none := I1.hok.fresh (Nat.le_refl _)
    refine assignInOrder_cons (thn (h1.run pins _ σ _ _ _ _ I2 r1 (hw _ fr)) fun _ s3 ⟨σ3, H3, I3, q3⟩ => ?_)
    exact assignInOrder_cons (thn (h2.run pins s3 σ3 H3 (V.ref s'.heap.objs.size) _ Q I3 rfl q3) fun _ s4 h4 => assignInOrder_nil h4)
theorem s_gStar1 {K : PySem.W.Frag} {t1 t2 : TG} {σ : L2.St} {H : Hp} {Q : L2.St → Hp → Prop} {a : Addr} {x : V} {xs : List V} (h : SqT K H a (x :: xs)) (q : ∀ p, H p = none → t1 x σ (upd H p (.lst xs)) fun σ1 H1 => t2 (.ref p) σ1 H1 Q) : gStar1 K t1 t2 (.ref a) σ H Q := ⟨a, x, xs, rfl, h, q⟩
/-- f(e, .., *xs), f a local name that holds a def of which R tells a promise -/
def tCallR (i : Nat) (R : Addr → Sp → Prop) (t : TA) : TE := fun σ H Q => ∃ f sp, σ[i]? = some (some (.ref f)) ∧ R f sp ∧ t σ H fun vs H1 => sp vs H1 Q C8.E0
theorem pe_callLS {X : Cx} {k j i : Nat} {R : Addr → Sp → Prop} {x : Str} {e : Expr} {es : List Expr} {p pos : Pos} {t : TA} (A : ∀ f sp, R f sp → FnR X.prog X.w X.K X.mg X.base C8.CX0 k f sp ∧ PySem.W.keepIn X.K (.ref f) = true) (hr : Room j X.A) (hk : k ≤ j) (hN : X.N[i]? = some x) (hv : Vis X.env.scope x) (ha : PA X (e :: es) t)
    (hd : (x == ("__debug__" : Str)) = false := by decide) (hcd : (x == ("__classdict__" : Str)) = false := by decide)
    (he : starEach (e :: es) X.env = (false, eval e X.env) :: starEach es X.env := by rfl) (hst : (backTo pos (starEach es X.env)).any (·.1) = true := by rfl) :
    PE X (.Call (.Name x p) (e :: es) [] pos) (tCallR i R t) := by
  refine ⟨fun pins s σ H Q I h => ?_⟩
  obtain ⟨f, sp, hs, hR, ht⟩ := h
  obtain ⟨F, kp⟩ := A f sp hR
  refine wpAny_Call_Name_kw (thn ((pe_var (pos := p) hN hv hd hcd).run pins s σ H (fun v H1 => v = .ref f ∧ H1 = H) I ⟨.ref f, hs, rfl, rfl⟩) fun u s1 ⟨v, H1, I1, r1, q1⟩ => ?_)
  obtain ⟨rfl, rfl⟩ := q1
  cases r1
  refine PySem.W.callWith_S2 (h₀ := X.base) I.ok.mod.kin kp (thn (ha.run pos pins s1 σ _ _ I1 ht) fun us s2 ⟨vs, H2, I2, r, q⟩ => ⟨I2.kIn, ?_⟩) he hst
  exact wpAny_call (run_fnR (F.mono hk) hr C8.pass0 I2 r q)
theorem s_callR {i : Nat} {R : Addr → Sp → Prop} {t : TA} {σ : L2.St} {H : Hp} {Q : VK} {f : Addr} (sp : Sp) (hs : σ[i]? = some (some (.ref f))) (hR : R f sp) (q : t σ H fun vs H1 => sp vs H1 Q C8.E0) : tCallR i R t σ H Q := ⟨f, sp, hs, hR, q⟩
end Y
end
section
namespace G
open PySem L2 C8
variable {K : PySem.W.Frag}
/-! ### what the rows do -/
def Mc.setBox (m : Mc) (b : Int) (t : Thing) : Mc := { m with boxes := m.boxes.set b.toNat t }
section
variable {K : PySem.W.Frag} {Z : Zs K} {H : Hp} {A : Adr} {m : Mc}
theorem box_put {b : Int} {t : Thing} {v : V} {Q : Hp → Prop} (k : BodyAt Z H A m) (hb : Bx b) (ht : t.At K H) (ev : v = t.v) (q : ∀ H', FrS A.own H H' → BodyAt Z H' A (m.setBox b t) → Q H') : rSetL (.ref A.px) (.int b) v H Q := by
  have hl : b.toNat < m.boxes.length := by rw [k.wf.box]; have := hb.1; have := hb.2; omega
  obtain ⟨e0, k'⟩ := k.boxes (bx := m.boxes.set b.toNat t) (by rw [List.length_set]; exact k.wf.box) (things_set k.tb ht)
  refine Y.s_setL (k := b.toNat) e0 ?_ ?_
  · have e := ixN_nat (n := (m.boxes.map Thing.v).length) (k := b.toNat) (by rw [List.length_map]; exact hl)
    rw [Int.toNat_of_nonneg hb.1] at e
    exact e
  · rw [ev, ← List.map_set]
    exact q _ (FrS.refl.upd (.tail _ (.head _))) k'
theorem mod_nm (a : Int) : Nm (a % 1000) := ⟨Int.emod_nonneg _ (by decide), Int.emod_lt_of_pos _ (by decide)⟩
end
def sp_do_put {K : PySem.W.Frag} (Z : Zs K) : Sp := fun vs H Q _ => ∃ (A : Adr) (m : Mc) (b n : Int), vs = [.ref A.pb, .int b, .int n] ∧ BodyAt Z H A m ∧ Bx b ∧ Nm n ∧ ∀ H', FrS A.own H H' → BodyAt Z H' A (m.setBox b (.num n)) → Q .non H'
def sp_do_add {K : PySem.W.Frag} (Z : Zs K) : Sp := fun vs H Q _ => ∃ (A : Adr) (m : Mc) (b c d : Int), vs = [.ref A.pb, .int b, .int c, .int d] ∧ BodyAt Z H A m ∧ Bx b ∧ Bx c ∧ Bx d ∧ ∀ H', FrS A.own H H' → BodyAt Z H' A (m.setBox b (.num ((m.bw c + m.bw d) % 1000))) → Q .non H'
def sp_do_less {K : PySem.W.Frag} (Z : Zs K) : Sp := fun vs H Q _ => ∃ (A : Adr) (m : Mc) (b c d : Int), vs = [.ref A.pb, .int b, .int c, .int d] ∧ BodyAt Z H A m ∧ Bx b ∧ Bx c ∧ Bx d ∧ ∀ H', FrS A.own H H' → BodyAt Z H' A (m.setBox b (.num ((m.bw c - m.bw d) % 1000))) → Q .non H'
def sp_do_load {K : PySem.W.Frag} (Z : Zs K) : Sp := fun vs H Q _ => ∃ (A : Adr) (m : Mc) (b c : Int), vs = [.ref A.pb, .int b, .int c] ∧ BodyAt Z H A m ∧ Bx b ∧ Bx c ∧ m.bw c < m.w1 ∧ ∀ H', FrS A.own H H' → BodyAt Z H' A (match m.at_ (m.bw c) with | some t => m.setBox b t | none => m) → Q .non H'
def sp_do_store {K : PySem.W.Frag} (Z : Zs K) : Sp := fun vs H Q _ => ∃ (A : Adr) (m : Mc) (c b : Int), vs = [.ref A.pb, .int c, .int b] ∧ BodyAt Z H A m ∧ Bx c ∧ Bx b ∧ m.bw c < m.w1 ∧ ∀ H', FrS A.own H H' → BodyAt Z H' A (match m.boxes[b.toNat]? with | some t => { m with cells := lay m.cells (m.w0 + m.bw c).toNat [t] } | none => m) → Q .non H'
def sp_do_zero {K : PySem.W.Frag} (Z : Zs K) : Sp := fun vs H Q _ => ∃ (A : Adr) (m : Mc) (b n : Int), vs = [.ref A.pb, .int b, .int n] ∧ BodyAt Z H A m ∧ Bx b ∧ Nm n ∧ ∀ H', FrS A.own H H' → BodyAt Z H' A (if m.bw b = 0 then { m with place := n } else m) → Q .non H'
def sp_do_go {K : PySem.W.Frag} (Z : Zs K) : Sp := fun vs H Q _ => ∃ (A : Adr) (m : Mc) (n : Int), vs = [.ref A.pb, .int n] ∧ BodyAt Z H A m ∧ Nm n ∧ ∀ H', FrS A.own H H' → BodyAt Z H' A ({ m with place := n }) → Q .non H'
def sp_do_which_in_high {K : PySem.W.Frag} (Z : Zs K) : Sp := fun vs H Q _ => ∃ (A : Adr) (m : Mc) (b : Int), vs = [.ref A.pb, .int b] ∧ BodyAt Z H A m ∧ Bx b ∧ ∀ H', FrS A.own H H' → BodyAt Z H' A (m.setBox b (.num 1)) → Q .non H'
def sp_do_which_in_low {K : PySem.W.Frag} (Z : Zs K) : Sp := fun vs H Q _ => ∃ (A : Adr) (m : Mc) (b : Int), vs = [.ref A.pb, .int b] ∧ BodyAt Z H A m ∧ Bx b ∧ ∀ H', FrS A.own H H' → BodyAt Z H' A (m.setBox b (.num 0)) → Q .non H'
def sp_do_hear_nothing {K : PySem.W.Frag} (Z : Zs K) : Sp := fun vs H Q _ => ∃ (A : Adr) (m : Mc) (b : Int), vs = [.ref A.pb, .int b] ∧ BodyAt Z H A m ∧ Bx b ∧ ∀ H', FrS A.own H H' → BodyAt Z H' A (m.setBox b (.num 0)) → Q .non H'
def sp_do_room {K : PySem.W.Frag} (Z : Zs K) : Sp := fun vs H Q _ => ∃ (A : Adr) (m : Mc) (b : Int), vs = [.ref A.pb, .int b] ∧ BodyAt Z H A m ∧ Bx b ∧ ∀ H', FrS A.own H H' → BodyAt Z H' A (m.setBox b (.num m.w1)) → Q .non H'
def sp_do_alarm {K : PySem.W.Frag} (Z : Zs K) : Sp := fun vs H Q _ => ∃ (A : Adr) (m : Mc) (b : Int), vs = [.ref A.pb, .int b] ∧ BodyAt Z H A m ∧ Bx b ∧ ∀ H', FrS A.own H H' → BodyAt Z H' A ({ m with alarm := m.bw b }) → Q .non H'
def sp_do_stop {K : PySem.W.Frag} (Z : Zs K) : Sp := fun vs H Q _ => ∃ (A : Adr) (m : Mc), vs = [.ref A.pb] ∧ BodyAt Z H A m ∧ ∀ H', FrS A.own H H' → BodyAt Z H' A ({ m with why := "stop" }) → Q .non H'
section
variable {P : Program} {w : World} {K : PySem.W.Frag} {mg : Str → Option Value} {base : Heap} {Z : Zs K}
abbrev s_do_put : Stmt := top 83
theorem sc_do_put : FnScope ["body", "box", "number"] ["body", "box", "number"] (fnScope s_do_put) := fnScope_by (by decide +kernel)
theorem ok_do_put {f : Addr} {fd : FuncData} (F : Def K mg "do_put" s_do_put f fd) (b : Binds K fd ["body", "box", "number"] []) (T : Txt K mg) : Cal P w K mg base 1 "do_put" (sp_do_put Z) [] := by
  refine cal0 F b .nil sc_do_put (fun vs H Q E h => ?_) (fun cdv A outer s H vs Q E hr h => ?_)
  · obtain ⟨A, m, b, n, rfl, _⟩ := h
    rfl
  · obtain ⟨A, m, b, n, rfl, k, hb, hn, q⟩ := h
    have nd := sc_do_put.nd
    refine ⟨_, (pss_one (ps_asg (pv 2) (pg_sub (pe_fld (pv 0) rfl) (pv 1) set_list))), ?_⟩
    obtain ⟨pw, e0, ew⟩ := k.ins
    walk_at "b"
    refine Y.s_fld ?_
    walk_at "s"
    refine body_fld e0 4 rfl rfl ?_
    walk_at "s"
    refine box_put k hb (t := .num n) hn rfl fun H1 f1 k1 => ?_
    walk_at "s"
    exact q _ f1 k1
abbrev s_do_add : Stmt := top 84
theorem sc_do_add : FnScope ["body", "box", "one", "other"] ["body", "box", "one", "other"] (fnScope s_do_add) := fnScope_by (by decide +kernel)
theorem ok_do_add {f : Addr} {fd : FuncData} (F : Def K mg "do_add" s_do_add f fd) (b : Binds K fd ["body", "box", "one", "other"] []) (T : Txt K mg) (c_box_worth : Cal P w K mg base 2 "box_worth" (spBoxWorth Z) []) : Cal P w K mg base 3 "do_add" (sp_do_add Z) [] := by
  refine cal0 F b .nil sc_do_add (fun vs H Q E h => ?_) (fun cdv A outer s H vs Q E hr h => ?_)
  · obtain ⟨A, m, b, c, d, rfl, _⟩ := h
    rfl
  · obtain ⟨A, m, b, c, d, rfl, k, hb, hc, hd, q⟩ := h
    have nd := sc_do_add.nd
    refine ⟨_, (pss_one (ps_asg (pe_op op_mod (pe_op op_add (pe_c c_box_worth hr (by first | decide | omega) (by rfl) (pa_cons (pv 0) (pa_cons (pv 2) pa_nil))) (pe_c c_box_worth hr (by first | decide | omega) (by rfl) (pa_cons (pv 0) (pa_cons (pv 3) pa_nil)))) pe_int) (pg_sub (pe_fld (pv 0) rfl) (pv 1) set_list))), ?_⟩
    obtain ⟨pw, e0, ew⟩ := k.ins
    walk_at "b"
    refine u_bw k hc ?_
    walk_at "s"
    refine u_bw k hd ?_
    walk_at "s"
    refine Y.s_fld ?_
    walk_at "s"
    refine body_fld e0 4 rfl rfl ?_
    walk_at "s"
    refine box_put k hb (t := .num ((m.bw c + m.bw d) % 1000)) (mod_nm _) rfl fun H1 f1 k1 => ?_
    walk_at "s"
    exact q _ f1 k1
abbrev s_do_less : Stmt := top 85
theorem sc_do_less : FnScope ["body", "box", "one", "other"] ["body", "box", "one", "other"] (fnScope s_do_less) := fnScope_by (by decide +kernel)
theorem ok_do_less {f : Addr} {fd : FuncData} (F : Def K mg "do_less" s_do_less f fd) (b : Binds K fd ["body", "box", "one", "other"] []) (T : Txt K mg) (c_box_worth : Cal P w K mg base 2 "box_worth" (spBoxWorth Z) []) : Cal P w K mg base 3 "do_less" (sp_do_less Z) [] := by
  refine cal0 F b .nil sc_do_less (fun vs H Q E h => ?_) (fun cdv A outer s H vs Q E hr h => ?_)
  · obtain ⟨A, m, b, c, d, rfl, _⟩ := h
    rfl
  · obtain ⟨A, m, b, c, d, rfl, k, hb, hc, hd, q⟩ := h
    have nd := sc_do_less.nd
    refine ⟨_, (pss_one (ps_asg (pe_op op_mod (pe_op op_sub (pe_c c_box_worth hr (by first | decide | omega) (by rfl) (pa_cons (pv 0) (pa_cons (pv 2) pa_nil))) (pe_c c_box_worth hr (by first | decide | omega) (by rfl) (pa_cons (pv 0) (pa_cons (pv 3) pa_nil)))) pe_int) (pg_sub (pe_fld (pv 0) rfl) (pv 1) set_list))), ?_⟩
    obtain ⟨pw, e0, ew⟩ := k.ins
    walk_at "b"
    refine u_bw k hc ?_
    walk_at "s"
    refine u_bw k hd ?_
    walk_at "s"
    refine Y.s_fld ?_
    walk_at "s"
    refine body_fld e0 4 rfl rfl ?_
    walk_at "s"
    refine box_put k hb (t := .num ((m.bw c - m.bw d) % 1000)) (mod_nm _) rfl fun H1 f1 k1 => ?_
    walk_at "s"
    exact q _ f1 k1
abbrev s_do_load : Stmt := top 86
theorem sc_do_load : FnScope ["body", "box", "pointer"] ["body", "box", "pointer"] (fnScope s_do_load) := fnScope_by (by decide +kernel)
theorem ok_do_load {f : Addr} {fd : FuncData} (F : Def K mg "do_load" s_do_load f fd) (b : Binds K fd ["body", "box", "pointer"] []) (T : Txt K mg) (c_box_worth : Cal P w K mg base 2 "box_worth" (spBoxWorth Z) []) (c_cell_of : Cal P w K mg base 1 "cell_of" (spCellOf Z) []) (m_Room_thing_at : Met P w K mg base 7 Z.CR "thing_at" (spThingAt Z) []) : Cal P w K mg base 8 "do_load" (sp_do_load Z) [] := by
  refine cal0 F b .nil sc_do_load (fun vs H Q E h => ?_) (fun cdv A outer s H vs Q E hr h => ?_)
  · obtain ⟨A, m, b, c, rfl, _⟩ := h
    rfl
  · obtain ⟨A, m, b, c, rfl, k, hb, hc, hw, q⟩ := h
    have nd := sc_do_load.nd
    refine ⟨_, (pss_one (ps_asg (pe_mt m_Room_thing_at hr (by first | decide | omega) (pe_fld (pv 0) rfl) (pa_cons (pe_c c_cell_of hr (by first | decide | omega) (by rfl) (pa_cons (pv 0) (pa_cons (pe_c c_box_worth hr (by first | decide | omega) (by rfl) (pa_cons (pv 0) (pa_cons (pv 2) pa_nil))) pa_nil))) pa_nil)) (pg_sub (pe_fld (pv 0) rfl) (pv 1) set_list))), ?_⟩
    obtain ⟨pw, e0, ew⟩ := k.ins
    walk_at "b"
    obtain ⟨tc, _, mtc, ewo⟩ := hc.lt k.wf
    have h0 : 0 ≤ m.bw c := by rw [ewo]; exact (Thing.worth_nm (k.tb tc mtc)).1
    obtain ⟨t, et, mt⟩ := Mc.at_some k.wf h0 hw
    rw [et] at q
    refine Y.s_meth ?_
    refine Y.s_fld ?_
    walk_at "s"
    refine body_fld e0 1 rfl rfl ?_
    refine Y.s_methI (k.room.get (.head _)) rfl ?_
    walk_at "s"
    refine u_bw k hc ?_
    walk_at "s"
    refine u_cell k ?_
    walk_at "s"
    refine u_thingat k (by have := k.wf.w0; omega) et ?_
    refine Y.s_fld ?_
    walk_at "s"
    refine body_fld e0 4 rfl rfl ?_
    walk_at "s"
    refine box_put k hb (cells_in k t mt) rfl fun H1 f1 k1 => ?_
    walk_at "s"
    exact q _ f1 k1
abbrev s_do_store : Stmt := top 87
theorem sc_do_store : FnScope ["body", "pointer", "box"] ["body", "pointer", "box"] (fnScope s_do_store) := fnScope_by (by decide +kernel)
theorem ok_do_store {f : Addr} {fd : FuncData} (F : Def K mg "do_store" s_do_store f fd) (b : Binds K fd ["body", "pointer", "box"] []) (T : Txt K mg) (c_box_worth : Cal P w K mg base 2 "box_worth" (spBoxWorth Z) []) (c_cell_of : Cal P w K mg base 1 "cell_of" (spCellOf Z) []) (m_Room_put_things : Met P w K mg base 7 Z.CR "put_things" (spPutThings Z) []) : Cal P w K mg base 8 "do_store" (sp_do_store Z) [] := by
  refine cal0 F b .nil sc_do_store (fun vs H Q E h => ?_) (fun cdv A outer s H vs Q E hr h => ?_)
  · obtain ⟨A, m, c, b, rfl, _⟩ := h
    rfl
  · obtain ⟨A, m, c, b, rfl, k, hc, hb, hw, q⟩ := h
    have nd := sc_do_store.nd
    refine ⟨_, (pss_one (ps_expr (pe_mt m_Room_put_things hr (by first | decide | omega) (pe_fld (pv 0) rfl) (pa_cons (pe_c c_cell_of hr (by first | decide | omega) (by rfl) (pa_cons (pv 0) (pa_cons (pe_c c_box_worth hr (by first | decide | omega) (by rfl) (pa_cons (pv 0) (pa_cons (pv 1) pa_nil))) pa_nil))) (pa_cons (pe_lst (pa_cons (pe_ix ix_list (pe_fld (pv 0) rfl) (pv 2) (fun _ _ => rfl)) pa_nil)) pa_nil))))), ?_⟩
    obtain ⟨pw, e0, ew⟩ := k.ins
    walk_at "b"
    obtain ⟨tc, _, mtc, ewo⟩ := hc.lt k.wf
    have h0 : 0 ≤ m.bw c := by rw [ewo]; exact (Thing.worth_nm (k.tb tc mtc)).1
    obtain ⟨t, et, mt, _⟩ := hb.lt k.wf
    rw [et] at q
    refine Y.s_meth ?_
    refine Y.s_fld ?_
    walk_at "s"
    refine body_fld e0 1 rfl rfl ?_
    refine Y.s_methI (k.room.get (.head _)) rfl ?_
    walk_at "s"
    refine u_bw k hc ?_
    walk_at "s"
    refine u_cell k ?_
    walk_at "s"
    refine Y.s_fld ?_
    walk_at "s"
    refine body_fld e0 4 rfl rfl ?_
    walk_at "s"
    refine Y.s_ixL' (w := t.v) (SqL.of k.bx) (at_of (j := b.toNat) (by have := hb.1; omega) (by rw [List.getElem?_map, et]; rfl)) ?_
    walk_at "s"
    refine Y.s_new rfl fun p1 hp1 => ?_
    walk_at "s"
    have k1 := k.new (o := .lst [t.v]) hp1
    have ez : V.int (m.w0 + m.bw c) = V.int (((m.w0 + m.bw c).toNat : Nat) : Int) := by rw [Int.toNat_of_nonneg (by have := k.wf.w0; omega)]
    rw [ez]
    refine u_put (ts := [t]) k1 (by show _ + 1 ≤ _; have := k.wf.win; have := k.wf.w0; omega) upd_same (things_cons ((k.tb t mt).tu (Tu.new (Tu.refl _) hp1)) things_nil) fun H1 f1 k2 => ?_
    walk_at "s"
    exact q _ (FrS.trans (FrS.refl.new hp1) f1) k2
abbrev s_do_zero : Stmt := top 88
theorem sc_do_zero : FnScope ["body", "box", "place"] ["body", "box", "place"] (fnScope s_do_zero) := fnScope_by (by decide +kernel)
theorem ok_do_zero {f : Addr} {fd : FuncData} (F : Def K mg "do_zero" s_do_zero f fd) (b : Binds K fd ["body", "box", "place"] []) (T : Txt K mg) (c_box_worth : Cal P w K mg base 2 "box_worth" (spBoxWorth Z) []) : Cal P w K mg base 3 "do_zero" (sp_do_zero Z) [] := by
  refine cal0 F b .nil sc_do_zero (fun vs H Q E h => ?_) (fun cdv A outer s H vs Q E hr h => ?_)
  · obtain ⟨A, m, b, n, rfl, _⟩ := h
    rfl
  · obtain ⟨A, m, b, n, rfl, k, hb, hn, q⟩ := h
    have nd := sc_do_zero.nd
    refine ⟨_, (pss_one (ps_if (pt_cmpR op_eq (pe_c c_box_worth hr (by first | decide | omega) (by rfl) (pa_cons (pv 0) (pa_cons (pv 1) pa_nil))) pe_int (nomark _))
      (pss_one (ps_fld (pv 0) (pv 2) rfl))
      pss_nil)), ?_⟩
    obtain ⟨pw, e0, ew⟩ := k.ins
    walk_at "b"
    refine u_bw k hb ?_
    walk_at "s"
    refine Y.s_d2 (fun hz => ?_) (fun hz => ?_)
    · rw [if_pos hz] at q
      walk_at "s"
      refine Y.s_setF ?_
      walk_at "s"
      refine set_place k hn fun H1 f1 k1 => ?_
      walk_at "s"
      exact q _ f1 k1
    · rw [if_neg hz] at q
      walk_at "s"
      exact q _ FrS.refl k
abbrev s_do_go : Stmt := top 89
theorem sc_do_go : FnScope ["body", "place"] ["body", "place"] (fnScope s_do_go) := fnScope_by (by decide +kernel)
theorem ok_do_go {f : Addr} {fd : FuncData} (F : Def K mg "do_go" s_do_go f fd) (b : Binds K fd ["body", "place"] []) (T : Txt K mg) : Cal P w K mg base 1 "do_go" (sp_do_go Z) [] := by
  refine cal0 F b .nil sc_do_go (fun vs H Q E h => ?_) (fun cdv A outer s H vs Q E hr h => ?_)
  · obtain ⟨A, m, n, rfl, _⟩ := h
    rfl
  · obtain ⟨A, m, n, rfl, k, hn, q⟩ := h
    have nd := sc_do_go.nd
    refine ⟨_, (pss_one (ps_fld (pv 0) (pv 1) rfl)), ?_⟩
    obtain ⟨pw, e0, ew⟩ := k.ins
    walk_at "b"
    refine Y.s_setF ?_
    walk_at "s"
    refine set_place k hn fun H1 f1 k1 => ?_
    walk_at "s"
    exact q _ f1 k1
abbrev s_do_which_in_high : Stmt := top 93
theorem sc_do_which_in_high : FnScope ["body", "box"] ["body", "box"] (fnScope s_do_which_in_high) := fnScope_by (by decide +kernel)
theorem ok_do_which_in_high {f : Addr} {fd : FuncData} (F : Def K mg "do_which_in_high" s_do_which_in_high f fd) (b : Binds K fd ["body", "box"] []) (T : Txt K mg) : Cal P w K mg base 1 "do_which_in_high" (sp_do_which_in_high Z) [] := by
  refine cal0 F b .nil sc_do_which_in_high (fun vs H Q E h => ?_) (fun cdv A outer s H vs Q E hr h => ?_)
  · obtain ⟨A, m, b, rfl, _⟩ := h
    rfl
  · obtain ⟨A, m, b, rfl, k, hb, q⟩ := h
    have nd := sc_do_which_in_high.nd
    refine ⟨_, (pss_one (ps_asg pe_int (pg_sub (pe_fld (pv 0) rfl) (pv 1) set_list))), ?_⟩
    obtain ⟨pw, e0, ew⟩ := k.ins
    walk_at "b"
    refine Y.s_fld ?_
    walk_at "s"
    refine body_fld e0 4 rfl rfl ?_
    walk_at "s"
    refine box_put k hb (t := .num 1) ⟨by decide, by decide⟩ rfl fun H1 f1 k1 => ?_
    walk_at "s"
    exact q _ f1 k1
abbrev s_do_which_in_low : Stmt := top 94
theorem sc_do_which_in_low : FnScope ["body", "box"] ["body", "box"] (fnScope s_do_which_in_low) := fnScope_by (by decide +kernel)
theorem ok_do_which_in_low {f : Addr} {fd : FuncData} (F : Def K mg "do_which_in_low" s_do_which_in_low f fd) (b : Binds K fd ["body", "box"] []) (T : Txt K mg) : Cal P w K mg base 1 "do_which_in_low" (sp_do_which_in_low Z) [] := by
  refine cal0 F b .nil sc_do_which_in_low (fun vs H Q E h => ?_) (fun cdv A outer s H vs Q E hr h => ?_)
  · obtain ⟨A, m, b, rfl, _⟩ := h
    rfl
  · obtain ⟨A, m, b, rfl, k, hb, q⟩ := h
    have nd := sc_do_which_in_low.nd
    refine ⟨_, (pss_one (ps_asg pe_int (pg_sub (pe_fld (pv 0) rfl) (pv 1) set_list))), ?_⟩
    obtain ⟨pw, e0, ew⟩ := k.ins
    walk_at "b"
    refine Y.s_fld ?_
    walk_at "s"
    refine body_fld e0 4 rfl rfl ?_
    walk_at "s"
    refine box_put k hb (t := .num 0) ⟨by decide, by decide⟩ rfl fun H1 f1 k1 => ?_
    walk_at "s"
    exact q _ f1 k1
abbrev s_do_hear_nothing : Stmt := top 100
theorem sc_do_hear_nothing : FnScope ["body", "box"] ["body", "box"] (fnScope s_do_hear_nothing) := fnScope_by (by decide +kernel)
theorem ok_do_hear_nothing {f : Addr} {fd : FuncData} (F : Def K mg "do_hear_nothing" s_do_hear_nothing f fd) (b : Binds K fd ["body", "box"] []) (T : Txt K mg) : Cal P w K mg base 1 "do_hear_nothing" (sp_do_hear_nothing Z) [] := by
  refine cal0 F b .nil sc_do_hear_nothing (fun vs H Q E h => ?_) (fun cdv A outer s H vs Q E hr h => ?_)
  · obtain ⟨A, m, b, rfl, _⟩ := h
    rfl
  · obtain ⟨A, m, b, rfl, k, hb, q⟩ := h
    have nd := sc_do_hear_nothing.nd
    refine ⟨_, (pss_one (ps_asg pe_int (pg_sub (pe_fld (pv 0) rfl) (pv 1) set_list))), ?_⟩
    obtain ⟨pw, e0, ew⟩ := k.ins
    walk_at "b"
    refine Y.s_fld ?_
    walk_at "s"
    refine body_fld e0 4 rfl rfl ?_
    walk_at "s"
    refine box_put k hb (t := .num 0) ⟨by decide, by decide⟩ rfl fun H1 f1 k1 => ?_
    walk_at "s"
    exact q _ f1 k1
abbrev s_do_room : Stmt := top 95
theorem sc_do_room : FnScope ["body", "box"] ["body", "box"] (fnScope s_do_room) := fnScope_by (by decide +kernel)
theorem ok_do_room {f : Addr} {fd : FuncData} (F : Def K mg "do_room" s_do_room f fd) (b : Binds K fd ["body", "box"] []) (T : Txt K mg) : Cal P w K mg base 1 "do_room" (sp_do_room Z) [] := by
  refine cal0 F b .nil sc_do_room (fun vs H Q E h => ?_) (fun cdv A outer s H vs Q E hr h => ?_)
  · obtain ⟨A, m, b, rfl, _⟩ := h
    rfl
  · obtain ⟨A, m, b, rfl, k, hb, q⟩ := h
    have nd := sc_do_room.nd
    refine ⟨_, (pss_one (ps_asg (pe_ix ix_tup (pe_fld (pv 0) rfl) pe_int (fun _ _ => rfl)) (pg_sub (pe_fld (pv 0) rfl) (pv 1) set_list))), ?_⟩
    obtain ⟨pw, e0, ew⟩ := k.ins
    walk_at "b"
    refine Y.s_fld ?_
    walk_at "s"
    refine body_fld e0 7 rfl rfl ?_
    walk_at "s"
    refine Y.s_fld ?_
    walk_at "s"
    refine body_fld e0 4 rfl rfl ?_
    walk_at "s"
    refine box_put k hb (t := .num m.w1) ⟨k.wf.w1, by have := k.wf.win; have := k.wf.w0; have := k.wf.n40; omega⟩ rfl fun H1 f1 k1 => ?_
    walk_at "s"
    exact q _ f1 k1
abbrev s_do_alarm : Stmt := top 97
theorem sc_do_alarm : FnScope ["body", "box"] ["body", "box"] (fnScope s_do_alarm) := fnScope_by (by decide +kernel)
theorem ok_do_alarm {f : Addr} {fd : FuncData} (F : Def K mg "do_alarm" s_do_alarm f fd) (b : Binds K fd ["body", "box"] []) (T : Txt K mg) (c_box_worth : Cal P w K mg base 2 "box_worth" (spBoxWorth Z) []) : Cal P w K mg base 3 "do_alarm" (sp_do_alarm Z) [] := by
  refine cal0 F b .nil sc_do_alarm (fun vs H Q E h => ?_) (fun cdv A outer s H vs Q E hr h => ?_)
  · obtain ⟨A, m, b, rfl, _⟩ := h
    rfl
  · obtain ⟨A, m, b, rfl, k, hb, q⟩ := h
    have nd := sc_do_alarm.nd
    refine ⟨_, (pss_one (ps_fld (pv 0) (pe_c c_box_worth hr (by first | decide | omega) (by rfl) (pa_cons (pv 0) (pa_cons (pv 1) pa_nil))) rfl)), ?_⟩
    obtain ⟨pw, e0, ew⟩ := k.ins
    walk_at "b"
    obtain ⟨tc, _, mtc, ewo⟩ := hb.lt k.wf
    have hn : Nm (m.bw b) := by rw [ewo]; exact Thing.worth_nm (k.tb tc mtc)
    refine Y.s_setF ?_
    walk_at "s"
    refine u_bw k hb ?_
    walk_at "s"
    refine set_alarm k hn fun H1 f1 k1 => ?_
    walk_at "s"
    exact q _ f1 k1
abbrev s_do_stop : Stmt := top 98
theorem sc_do_stop : FnScope ["body"] ["body"] (fnScope s_do_stop) := fnScope_by (by decide +kernel)
theorem ok_do_stop {f : Addr} {fd : FuncData} (F : Def K mg "do_stop" s_do_stop f fd) (b : Binds K fd ["body"] []) (T : Txt K mg) : Cal P w K mg base 1 "do_stop" (sp_do_stop Z) [] := by
  refine cal0 F b .nil sc_do_stop (fun vs H Q E h => ?_) (fun cdv A outer s H vs Q E hr h => ?_)
  · obtain ⟨A, m, rfl, _⟩ := h
    rfl
  · obtain ⟨A, m, rfl, k, q⟩ := h
    have nd := sc_do_stop.nd
    refine ⟨_, (pss_one (ps_fld (pv 0) pe_str rfl)), ?_⟩
    obtain ⟨pw, e0, ew⟩ := k.ins
    walk_at "b"
    refine Y.s_setF ?_
    walk_at "s"
    refine set_why k fun H1 f1 k1 => ?_
    walk_at "s"
    exact q _ f1 k1
end
end G
end
section
namespace G
open PySem L2 C8
/-! a list's own methods -/
def BMR (K : PySem.W.Frag) (T : String) (r : V → List V → Hp → VK → Prop) (t : TA) (σ : L2.St) (Q : VK) : V → Hp → Prop := fun x H1 => tyV K T x H1 ∧ t σ H1 fun xs H2 => r x xs H2 Q
theorem s_bm {K : PySem.W.Frag} {T : String} {r : V → List V → Hp → VK → Prop} {to : TE} {t : TA} {σ : L2.St} {H : Hp} {Q : VK} (q : to σ H (BMR K T r t σ Q)) : tBM K T r to t σ H Q := q
theorem s_bmL {K : PySem.W.Frag} {r : V → List V → Hp → VK → Prop} {t : TA} {σ : L2.St} {H : Hp} {Q : VK} {p : Addr} {xs : List V} (h : SqL K H p xs) (q : t σ H fun xs H2 => r (.ref p) xs H2 Q) : BMR K "list" r t σ Q (.ref p) H := ⟨.inl ⟨rfl, xs, h⟩, q⟩
theorem s_append {H : Hp} {Q : VK} {p : Addr} {xs : List V} {y : V} (h : H p = some (.lst xs)) (hl : xs.length < 100000) (q : Q .non (upd H p (.lst (xs ++ [y])))) : rAppend (.ref p) [y] H Q := ⟨p, xs, y, rfl, rfl, h, Nat.lt_of_lt_of_le hl (by decide), q⟩
def BM0R (K : PySem.W.Frag) (T : String) (r : V → List V → Hp → VK → Prop) (Q : VK) : V → Hp → Prop := fun x H1 => tyV K T x H1 ∧ r x [] H1 Q
theorem s_bm0 {K : PySem.W.Frag} {T : String} {r : V → List V → Hp → VK → Prop} {to : TE} {σ : L2.St} {H : Hp} {Q : VK} (q : to σ H (BM0R K T r Q)) : tBM0 K T r to σ H Q := q
theorem s_bm0L {K : PySem.W.Frag} {r : V → List V → Hp → VK → Prop} {H : Hp} {Q : VK} {p : Addr} {xs : List V} (h : SqL K H p xs) (q : r (.ref p) [] H Q) : BM0R K "list" r Q (.ref p) H := ⟨.inl ⟨rfl, xs, h⟩, q⟩
theorem one_mem {α : Type} {P : α → Prop} {l : List α} {i : Nat} {x : α} (h : ∀ x ∈ l, P x) (e : l[i]? = some x) : P x := h x (List.mem_of_getElem? e)
theorem map_at {α : Type} {f : α → V} {l : List α} {i : Nat} {x : V} (h : (l.map f)[i]? = some x) : ∃ u, l[i]? = some u ∧ x = f u := by
  rw [List.getElem?_map] at h
  cases e : l[i]? with
  | none => rw [e] at h; cases h
  | some u => rw [e] at h; exact ⟨u, rfl, (Option.some.inj h).symm⟩
theorem take_snoc {α : Type} {l : List α} {i : Nat} {x : α} (e : l[i]? = some x) : l.take (i + 1) = l.take i ++ [x] := by rw [List.take_succ, e]; rfl
end G
end
section
namespace G
open PySem L2 C8
section
variable {K : PySem.W.Frag} {Z : Zs K} {H : Hp} {A : Adr} {m : Mc}
theorem BodyAt.spk (k : BodyAt Z H A m) : H A.ps = some (.lst (m.said.map V.int)) := by
  obtain ⟨⟨pw, h, hw⟩, _⟩ := k
  exact h.get (.tail _ (.tail _ (.head _)))
theorem BodyAt.eare (k : BodyAt Z H A m) : H A.pe = some (.lst (m.ear.map V.int)) := by
  obtain ⟨⟨pw, h, hw⟩, _⟩ := k
  exact h.get (.tail _ (.tail _ (.tail _ (.head _))))
/-- the ground's sayings -/
theorem BodyAt.gsaid (k : BodyAt Z H A m) {g : Gd} (hg : A.grd = some g) {ns : List Int} : H g.pgs = some (.lst (m.gsaid.map V.int)) ∧ H g.pg = some (.ins Z.CG g.dx [("kind", g.k), ("room", g.rm), ("spoken", .ref g.pgs), ("hosts_beneath", .int g.hb)]) ∧
    BodyAt Z (upd H g.pgs (.lst (ns.map V.int))) A { m with gsaid := ns } := by
  obtain ⟨⟨pw, h, hw⟩, kd, th, tb, nd, wf⟩ := k
  have eo : ∀ m : Mc, A.objs Z pw m = (A.pb, .ins Z.CB A.dx (A.flds pw m)) :: (A.px, .lst (m.boxes.map Thing.v)) :: (A.ps, .lst (m.said.map V.int)) :: (A.pe, .lst (m.ear.map V.int)) :: (A.pf, .lst ((A.floor m).map Thing.v)) :: (g.pgs, .lst (m.gsaid.map V.int)) :: (g.pg, .ins Z.CG g.dx [("kind", g.k), ("room", g.rm), ("spoken", .ref g.pgs), ("hosts_beneath", .int g.hb)]) :: rmObjs Z.CR A.pf (A.rm :: A.rms) := fun m => by
    unfold Adr.objs
    rw [hg]
    rfl
  have e0 : H g.pgs = some (.lst (m.gsaid.map V.int)) := h.get (by rw [eo]; exact .tail _ (.tail _ (.tail _ (.tail _ (.tail _ (.head _))))))
  have e1 := h.get (p := g.pg) (o := .ins Z.CG g.dx [("kind", g.k), ("room", g.rm), ("spoken", .ref g.pgs), ("hosts_beneath", .int g.hb)]) (by rw [eo]; exact .tail _ (.tail _ (.tail _ (.tail _ (.tail _ (.tail _ (.head _)))))))
  have tu : Tu H (upd H g.pgs (.lst (ns.map V.int))) := tu_lst e0
  refine ⟨e0, e1, ⟨pw, ?_, tu _ _ hw⟩, tu _ _ kd, th.tu tu, tb.tu tu, nd, ⟨wf.1, wf.2, wf.3, wf.4, wf.5, wf.6, wf.7, wf.8, wf.9, wf.10, wf.11, wf.12, wf.13, wf.14, wf.15⟩⟩
  have s := h.set (o := .lst (ns.map V.int)) (by rw [A.objs_fst]; exact nd) 5 (p := g.pgs) (u := .lst (m.gsaid.map V.int)) (by rw [eo]; rfl)
  rw [eo] at s
  rw [eo]
  exact s
theorem own_gs {g : Gd} (hg : A.grd = some g) : g.pgs ∈ A.own := by
  unfold Adr.own
  rw [hg]
  exact .tail _ (.tail _ (.tail _ (.tail _ (.tail _ (.head _)))))
end
def sp_do_say {K : PySem.W.Frag} (Z : Zs K) : Sp := fun vs H Q _ => ∃ (A : Adr) (m : Mc) (b : Int), vs = [.ref A.pb, .int b] ∧ BodyAt Z H A m ∧ Bx b ∧ m.said.length < 90000 ∧ ∀ H', FrS A.own H H' → BodyAt Z H' A { m with said := m.said ++ [m.bw b] } → Q .non H'
def sp_do_say_to_ground {K : PySem.W.Frag} (Z : Zs K) : Sp := fun vs H Q _ => ∃ (A : Adr) (m : Mc) (b : Int) (g : Gd), vs = [.ref A.pb, .int b] ∧ BodyAt Z H A m ∧ Bx b ∧ A.grd = some g ∧ m.gsaid.length < 90000 ∧ ∀ H', FrS A.own H H' → BodyAt Z H' A { m with gsaid := m.gsaid ++ [m.bw b] } → Q .non H'
def Mc.hears (m : Mc) (b : Int) : Mc := match m.ear with
  | [] => m.setBox b (.num 0)
  | n :: r => { m with ear := r }.setBox b (.num n)
def sp_do_hear {K : PySem.W.Frag} (Z : Zs K) : Sp := fun vs H Q _ => ∃ (A : Adr) (m : Mc) (b : Int), vs = [.ref A.pb, .int b] ∧ BodyAt Z H A m ∧ Bx b ∧ ∀ H', FrS A.own H H' → BodyAt Z H' A (m.hears b) → Q .non H'
def Mc.enters (m : Mc) (b : Int) : Mc := if m.cells.length < m.bw b + m.bw (b + 1) then { m with why := "window", place := m.place - 1 } else { m with w0 := m.bw b, w1 := m.bw (b + 1), place := m.bw (b + 2), high := false }
def sp_do_enter {K : PySem.W.Frag} (Z : Zs K) : Sp := fun vs H Q _ => ∃ (A : Adr) (m : Mc) (b : Int), vs = [.ref A.pb, .int b] ∧ BodyAt Z H A m ∧ 0 ≤ b ∧ b < 2 ∧ 1 ≤ m.place ∧ ∀ H', FrS A.own H H' → BodyAt Z H' A (m.enters b) → Q .non H'
def Mc.lessens (m : Mc) : Mc := if 0 < m.alarm then if m.alarm = 1 then { m with alarm := 0 }.catch_ 4 else { m with alarm := m.alarm - 1 } else m
def sp_lessen {K : PySem.W.Frag} (Z : Zs K) : Sp := fun vs H Q _ => ∃ (A : Adr) (m : Mc), vs = [.ref A.pb] ∧ BodyAt Z H A m ∧ m.high = false ∧ ∀ H', FrS A.own H H' → BodyAt Z H' A m.lessens → Q .non H'
section
variable {P : Program} {w : World} {K : PySem.W.Frag} {mg : Str → Option Value} {base : Heap} {Z : Zs K}
theorem bw_nm {K : PySem.W.Frag} {Z : Zs K} {H : Hp} {A : Adr} {m : Mc} (k : BodyAt Z H A m) {b : Int} (hb : Bx b) : Nm (m.bw b) := by
  obtain ⟨tc, _, mtc, ewo⟩ := hb.lt k.wf
  rw [ewo]; exact Thing.worth_nm (k.tb tc mtc)
abbrev s_do_say : Stmt := top 91
theorem sc_do_say : FnScope ["body", "box"] ["body", "box"] (fnScope s_do_say) := fnScope_by (by decide +kernel)
theorem ok_do_say {f : Addr} {fd : FuncData} (F : Def K mg "do_say" s_do_say f fd) (b : Binds K fd ["body", "box"] []) (T : Txt K mg) (c_box_worth : Cal P w K mg base 2 "box_worth" (spBoxWorth Z) []) : Cal P w K mg base 3 "do_say" (sp_do_say Z) [] := by
  refine cal0 F b .nil sc_do_say (fun vs H Q E h => ?_) (fun cdv A outer s H vs Q E hr h => ?_)
  · obtain ⟨A, m, b, rfl, _⟩ := h
    rfl
  · obtain ⟨A, m, b, rfl, k, hb, hl, q⟩ := h
    have nd := sc_do_say.nd
    refine ⟨_, (pss_one (ps_expr (pe_bm PySem.F.plainAttrs_list PySem.F.slot_list_append PySem.F.type_list_append mt_append (pe_fld (pv 0) rfl) (pa_cons (pe_c c_box_worth hr (by first | decide | omega) (by rfl) (pa_cons (pv 0) (pa_cons (pv 1) pa_nil))) pa_nil)))), ?_⟩
    obtain ⟨pw, e0, ew⟩ := k.ins
    walk_at "b"
    refine s_bm ?_
    refine Y.s_fld ?_
    walk_at "s"
    refine body_fld e0 9 rfl rfl ?_
    refine s_bmL (SqL.of k.spk) ?_
    walk_at "s"
    refine u_bw k hb ?_
    walk_at "s"
    refine s_append k.spk (by rw [List.length_map]; omega) ?_
    obtain ⟨_, k1⟩ := k.said (ns := m.said ++ [m.bw b])
    rw [List.map_append] at k1
    walk_at "s"
    exact q _ (FrS.refl.upd (.tail _ (.tail _ (.head _)))) k1
abbrev s_do_say_to_ground : Stmt := top 99
theorem sc_do_say_to_ground : FnScope ["body", "box"] ["body", "box"] (fnScope s_do_say_to_ground) := fnScope_by (by decide +kernel)
theorem ok_do_say_to_ground {f : Addr} {fd : FuncData} (F : Def K mg "do_say_to_ground" s_do_say_to_ground f fd) (b : Binds K fd ["body", "box"] []) (T : Txt K mg) (c_box_worth : Cal P w K mg base 2 "box_worth" (spBoxWorth Z) []) : Cal P w K mg base 3 "do_say_to_ground" (sp_do_say_to_ground Z) [] := by
  refine cal0 F b .nil sc_do_say_to_ground (fun vs H Q E h => ?_) (fun cdv A outer s H vs Q E hr h => ?_)
  · obtain ⟨A, m, b, g, rfl, _⟩ := h
    rfl
  · obtain ⟨A, m, b, g, rfl, k, hb, hg, hl, q⟩ := h
    have nd := sc_do_say_to_ground.nd
    refine ⟨_, (pss_one (ps_expr (pe_bm PySem.F.plainAttrs_list PySem.F.slot_list_append PySem.F.type_list_append mt_append (pe_fld (pe_fld (pv 0) rfl) rfl) (pa_cons (pe_c c_box_worth hr (by first | decide | omega) (by rfl) (pa_cons (pv 0) (pa_cons (pv 1) pa_nil))) pa_nil)))), ?_⟩
    obtain ⟨pw, e0, ew⟩ := k.ins
    obtain ⟨e1, e2, k1⟩ := k.gsaid hg (ns := m.gsaid ++ [m.bw b])
    rw [List.map_append] at k1
    walk_at "b"
    refine s_bm ?_
    refine Y.s_fld ?_
    refine Y.s_fld ?_
    walk_at "s"
    refine body_fld (v := .ref g.pg) e0 2 rfl (by show some A.grV = _; unfold Adr.grV; rw [hg]) ?_
    refine Y.s_fldI e2 Z.g.cls (Z.g.at_ 2 rfl) rfl ?_
    refine s_bmL (SqL.of e1) ?_
    walk_at "s"
    refine u_bw k hb ?_
    walk_at "s"
    refine s_append e1 (by rw [List.length_map]; omega) ?_
    walk_at "s"
    exact q _ (FrS.refl.upd (own_gs hg)) k1
abbrev s_do_hear : Stmt := top 92
theorem sc_do_hear : FnScope ["body", "box"] ["body", "box"] (fnScope s_do_hear) := fnScope_by (by decide +kernel)
theorem ok_do_hear {f : Addr} {fd : FuncData} (F : Def K mg "do_hear" s_do_hear f fd) (b : Binds K fd ["body", "box"] []) (T : Txt K mg) : Cal P w K mg base 1 "do_hear" (sp_do_hear Z) [] := by
  refine cal0 F b .nil sc_do_hear (fun vs H Q E h => ?_) (fun cdv A outer s H vs Q E hr h => ?_)
  · obtain ⟨A, m, b, rfl, _⟩ := h
    rfl
  · obtain ⟨A, m, b, rfl, k, hb, q⟩ := h
    have nd := sc_do_hear.nd
    refine ⟨_, (pss_one (ps_asg (pe_ifExp (pt_cmpR op_gt (pe_callB Y.cl_len (by rfl) T.n_len PySem.boot_len (pa_cons (pe_fld (pv 0) rfl) pa_nil)) pe_int (nomark _)) (pe_bm PySem.F.plainAttrs_list PySem.F.slot_list_pop PySem.F.type_list_pop mt_popAt (pe_fld (pv 0) rfl) (pa_cons pe_int pa_nil)) pe_int) (pg_sub (pe_fld (pv 0) rfl) (pv 1) set_list))), ?_⟩
    obtain ⟨pw, e0, ew⟩ := k.ins
    unfold Mc.hears at q
    walk_at "b"
    refine Y.s_fld ?_
    walk_at "s"
    refine body_fld e0 10 rfl rfl ?_
    walk_at "s"
    refine Y.s_lenL (SqL.of k.eare) ?_
    walk_at "s"
    cases he : m.ear with
    | nil =>
      rw [he] at q
      refine Y.s_dF (by rw [List.length_map, List.length_nil]; omega) ?_
      walk_at "s"
      refine Y.s_fld ?_
      walk_at "s"
      refine body_fld e0 4 rfl rfl ?_
      walk_at "s"
      refine box_put k hb (t := .num 0) ⟨by decide, by decide⟩ rfl fun H1 f1 k1 => ?_
      walk_at "s"
      exact q _ f1 k1
    | cons n r =>
      rw [he] at q
      refine Y.s_dT (by rw [List.length_map, List.length_cons]; omega) ?_
      walk_at "s"
      refine s_bm ?_
      refine Y.s_fld ?_
      walk_at "s"
      refine body_fld e0 10 rfl rfl ?_
      refine s_bmL (SqL.of k.eare) ?_
      walk_at "s"
      have hw := k.wf.ear
      have hle := k.wf.el
      rw [he] at hw hle
      rw [List.length_cons] at hle
      obtain ⟨e1, k1⟩ := k.hears (ns := r) (fun x mx => hw x (.tail _ mx)) (by omega)
      rw [he] at e1
      refine ⟨A.pe, (n :: r).map V.int, 0, 0, .int n, rfl, rfl, e1, by decide, by decide, (ixN_seq (ixN_nat (k := 0) (by rw [List.length_map, List.length_cons]; omega))).1, rfl, ?_⟩
      walk_at "s"
      obtain ⟨pw1, e01, _⟩ := k1.ins
      refine Y.s_fld ?_
      walk_at "s"
      refine body_fld e01 4 rfl rfl ?_
      walk_at "s"
      refine box_put k1 hb (t := .num n) (hw n (.head _)) rfl fun H1 f1 k2 => ?_
      walk_at "s"
      exact q _ (FrS.trans (FrS.refl.upd (.tail _ (.tail _ (.tail _ (.head _))))) f1) k2
end
end G
end
section
namespace G
open PySem L2 C8
section
variable {P : Program} {w : World} {K : PySem.W.Frag} {mg : Str → Option Value} {base : Heap} {Z : Zs K}
abbrev s_do_enter : Stmt := top 96
theorem sc_do_enter : FnScope ["body", "box", "first", "size"] ["body", "box"] (fnScope s_do_enter) := fnScope_by (by decide +kernel)
theorem ok_do_enter {f : Addr} {fd : FuncData} (F : Def K mg "do_enter" s_do_enter f fd) (b : Binds K fd ["body", "box"] []) (T : Txt K mg) (c_box_worth : Cal P w K mg base 2 "box_worth" (spBoxWorth Z) []) : Cal P w K mg base 3 "do_enter" (sp_do_enter Z) [] := by
  refine cal0 F b .nil sc_do_enter (fun vs H Q E h => ?_) (fun cdv A outer s H vs Q E hr h => ?_)
  · obtain ⟨A, m, b, rfl, _⟩ := h
    rfl
  · obtain ⟨A, m, b, rfl, k, b0, b2, hp1, q⟩ := h
    have nd := sc_do_enter.nd
    refine ⟨_, (pss_cons (ps_set (i := 2) nd rfl (by first | exact Or.inl rfl | exact Or.inr rfl) (pe_c c_box_worth hr (by first | decide | omega) (by rfl) (pa_cons (pv 0) (pa_cons (pv 1) pa_nil))))
      (pss_cons (ps_set (i := 3) nd rfl (by first | exact Or.inl rfl | exact Or.inr rfl) (pe_c c_box_worth hr (by first | decide | omega) (by rfl) (pa_cons (pv 0) (pa_cons (pe_op op_add (pv 1) pe_int) pa_nil))))
      (pss_cons (ps_if (pt_cmpR op_gt (pe_op op_add (pv 2) (pv 3)) (pe_fld (pe_fld (pv 0) rfl) rfl) (nomark _))
      (pss_cons (ps_fld (pv 0) pe_str rfl)
      (pss_cons (ps_fldaug (pv 0) pe_int in_sub)
      (pss_one ps_retN)))
      pss_nil)
      (pss_cons (ps_fld (pv 0) (pe_tup (pa_cons (pv 2) (pa_cons (pv 3) pa_nil))) rfl)
      (pss_cons (ps_fld (pv 0) (pe_c c_box_worth hr (by first | decide | omega) (by rfl) (pa_cons (pv 0) (pa_cons (pe_op op_add (pv 1) pe_int) pa_nil))) rfl)
      (pss_one (ps_fld (pv 0) pe_bl rfl))))))), ?_⟩
    obtain ⟨pw, e0, ew⟩ := k.ins
    have n0 := bw_nm k (b := b) ⟨b0, by omega⟩
    have n1 := bw_nm k (b := b + 1) ⟨by omega, by omega⟩
    have n2 := bw_nm k (b := b + 2) ⟨by omega, by omega⟩
    unfold Mc.enters at q
    walk_at "b"
    refine u_bw k ⟨b0, by omega⟩ ?_
    walk_at "s"
    refine u_bw k ⟨by omega, by omega⟩ ?_
    walk_at "s"
    refine Y.s_fld ?_
    refine Y.s_fld ?_
    walk_at "s"
    refine body_fld e0 1 rfl rfl ?_
    refine Y.s_fldI (k.room.get (.head _)) Z.r.cls (Z.r.at_ 3 rfl) rfl ?_
    walk_at "s"
    rw [k.wf.wd]
    refine Y.s_d2 (fun hz => ?_) (fun hz => ?_)
    · rw [if_pos hz] at q
      walk_at "s"
      refine Y.s_setF ?_
      walk_at "s"
      refine set_why k fun H1 f1 k1 => ?_
      walk_at "s"
      refine Y.s_aug ?_
      walk_at "s"
      refine body_aug (y := .int 1) (z := .int (m.place - 1)) (m' := { m with why := "window", place := m.place - 1 }) 5 rfl k1 (fun _ => rfl) (fun R h => by walk_at "s"; exact h) (fun R h => ⟨_, _, rfl, rfl, h⟩) (fun _ => rfl) rfl rfl rfl rfl rfl rfl rfl (k1.wf.place_ ⟨by omega, by have := k.wf.pl.2; omega⟩) fun H2 f2 k2 => ?_
      walk_at "s"
      exact q _ (f1.trans f2) k2
    · rw [if_neg hz] at q
      walk_at "s"
      refine Y.s_setF ?_
      walk_at "s"
      refine Y.s_new rfl fun p1 hp1 => ?_
      have k1 := k.new (o := .tup [.int (m.bw b), .int (m.bw (b + 1))]) hp1
      walk_at "s"
      refine set_window k1 upd_same n0.1 n1.1 (by omega) fun H2 f2 k2 => ?_
      have f2 := FrS.trans (FrS.refl.new (S := A.own) (o := .tup [.int (m.bw b), .int (m.bw (b + 1))]) hp1) f2
      walk_at "s"
      refine Y.s_setF ?_
      walk_at "s"
      refine u_bw k2 ⟨by omega, by omega⟩ ?_
      walk_at "s"
      refine set_place k2 n2 fun H3 f3 k3 => ?_
      walk_at "s"
      refine Y.s_setF ?_
      walk_at "s"
      refine set_high k3 fun H4 f4 k4 => ?_
      walk_at "s"
      exact q _ ((f2.trans f3).trans f4) k4
abbrev s_lessen_alarm : Stmt := top 82
theorem sc_lessen_alarm : FnScope ["body"] ["body"] (fnScope s_lessen_alarm) := fnScope_by (by decide +kernel)
theorem ok_lessen_alarm {f : Addr} {fd : FuncData} (F : Def K mg "lessen_alarm" s_lessen_alarm f fd) (b : Binds K fd ["body"] []) (T : Txt K mg) (v_ALARM : IntG mg "ALARM" 4) (c_catch : Cal P w K mg base 9 "catch" (spCatch Z) []) : Cal P w K mg base 10 "lessen_alarm" (sp_lessen Z) [] := by
  refine cal0 F b .nil sc_lessen_alarm (fun vs H Q E h => ?_) (fun cdv A outer s H vs Q E hr h => ?_)
  · obtain ⟨A, m, rfl, _⟩ := h
    rfl
  · obtain ⟨A, m, rfl, k, hh, q⟩ := h
    have nd := sc_lessen_alarm.nd
    refine ⟨_, (pss_one (ps_if (pt_cmpR op_gt (pe_fld (pv 0) rfl) pe_int (nomark _))
      (pss_cons (ps_fldaug (pv 0) pe_int in_sub)
      (pss_one (ps_if (pt_cmpR op_eq (pe_fld (pv 0) rfl) pe_int (nomark _))
      (pss_one (ps_expr (pe_c c_catch hr (by first | decide | omega) (by rfl) (pa_cons (pv 0) (pa_cons (pe_gc (by rfl) v_ALARM) pa_nil)))))
      pss_nil)))
      pss_nil)), ?_⟩
    obtain ⟨pw, e0, ew⟩ := k.ins
    unfold Mc.lessens at q
    walk_at "b"
    refine Y.s_fld ?_
    walk_at "s"
    refine body_fld e0 8 rfl rfl ?_
    walk_at "s"
    refine Y.s_d2 (fun hz => ?_) (fun hz => ?_)
    · rw [if_pos hz] at q
      walk_at "s"
      refine Y.s_aug ?_
      walk_at "s"
      refine body_aug (y := .int 1) (z := .int (m.alarm - 1)) (m' := { m with alarm := m.alarm - 1 }) 8 rfl k (fun _ => rfl) (fun R h => by walk_at "s"; exact h) (fun R h => ⟨_, _, rfl, rfl, h⟩) (fun _ => rfl) rfl rfl rfl rfl rfl rfl rfl (k.wf.alarm_ ⟨by omega, by have := k.wf.al.2; omega⟩) fun H1 f1 k1 => ?_
      obtain ⟨pw1, e1, _⟩ := k1.ins
      walk_at "s"
      refine Y.s_fld ?_
      walk_at "s"
      refine body_fld e1 8 rfl rfl ?_
      walk_at "s"
      refine Y.s_d2 (fun h1 => ?_) (fun h1 => ?_)
      · have h1' : m.alarm - 1 = 0 := h1
        have ea : m.alarm = 1 := by omega
        rw [if_pos ea] at q
        have em : ({ m with alarm := m.alarm - 1 } : Mc) = { m with alarm := 0 } := by rw [h1']
        rw [em] at k1
        walk_at "s"
        refine u_catch k1 (by decide) (by decide) (fun z => by rw [show ({ m with alarm := 0 } : Mc).high = m.high from rfl, hh] at z; exact absurd z Bool.false_ne_true) (fun z => absurd z (by decide)) fun H2 f2 k2 => ?_
        walk_at "s"
        exact q _ (f1.trans f2) k2
      · have h1' : ¬ m.alarm - 1 = 0 := h1
        rw [if_neg (by omega)] at q
        walk_at "s"
        exact q _ f1 k1
    · rw [if_neg hz] at q
      walk_at "s"
      exact q _ FrS.refl k
/-- a def with a star parameter, in the head's data -/
def sp_do_nothing {K : PySem.W.Frag} (Z : Zs K) : Sp := fun vs H Q _ => ∃ (A : Adr) (m : Mc) (ns : List Int), vs = .ref A.pb :: ns.map V.int ∧ ns.length ≤ 100 ∧ BodyAt Z H A m ∧ ∀ H', FrS A.own H H' → BodyAt Z H' A m → Q .non H'
abbrev s_do_nothing : Stmt := top 90
theorem sc_do_nothing : FnScope ["body", "numbers"] ((["body"] : List Str) ++ (["numbers"] : List Str)) (fnScope s_do_nothing) := fnScope_by (by decide +kernel)
theorem ok_do_nothing {f : Addr} {fd : FuncData} (F : FunD K "do_nothing" "do_nothing" (fnArgs s_do_nothing) (fnBody s_do_nothing) (fnScope s_do_nothing) [] [] f fd) (T : Txt K mg) : FnR P w K mg base C8.CX0 2 f (sp_do_nothing Z) := by
  obtain ⟨oc, od, dV, kV, doc, pm, an, cdv, ct, osl, rfl, lk, hcd, dd, kk⟩ := F.ex
  obtain rfl : dV = Value.none := by
    rcases dd with ⟨_, e⟩ | ⟨e, _⟩
    · exact e
    · exact absurd rfl e
  have nd := sc_do_nothing.nd
  refine FnR.imp (StX.fn_star (ps := ["body"]) (pv := "numbers") (sp := fun vs H Q _ => ∃ (A : Adr) (m : Mc) (p : Addr), vs = [.ref A.pb, .ref p] ∧ BodyAt Z H A m ∧ ∀ H', FrS A.own H H' → BodyAt Z H' A m → Q .non H') lk hcd sc_do_nothing StX.cxUp_none
    (StX.bind_star1 (B := fun us => bindArgs (PySem.W.fnOf "do_nothing" "do_nothing" (fnArgs s_do_nothing) (fnBody s_do_nothing) (fnScope s_do_nothing) Value.none kV doc pm an cdv ct) ⟨us, []⟩) (p1 := "body") (pv := "numbers") (fun a => rfl) (fun a r rs => rfl)) fun A outer s H vs Q E hr h => ?_) ?_
  · obtain ⟨A, m, p, rfl, k, q⟩ := h
    refine ⟨_, PSs.nox (pss_one ps_pass), ?_⟩
    walk_at "b"
    exact q _ FrS.refl k
  · rintro vs H Q E ⟨A, m, ns, rfl, hl, k, q⟩
    refine ⟨[.ref A.pb], ns.map V.int, rfl, rfl, Nat.le_trans (m := 1000) (by rw [List.length_map]; omega) (by decide), fun p hp => ⟨A, m, p, rfl, k.new hp, fun H' f' k' => q H' (FrS.trans (FrS.refl.new hp) f') k'⟩⟩
end
end G
end
section
namespace G
open PySem L2 C8
/-! ### which def does a row -/
def Mc.byGround (A : Adr) (m : Mc) (z : Str) : Bool := A.grd.isSome && (!decide (lowN A.bs z = 1) && !(m.high && A.thr))
def tabHigh : List (Str × Str) := [("say", "do_say"), ("hear", "do_hear"), ("which", "do_which_in_high"), ("room", "do_room"), ("enter", "do_enter"), ("alarm", "do_alarm"), ("stop", "do_stop")]
def tabLow : List (Str × Str) := [("say", "do_say"), ("hear", "do_hear"), ("which", "do_which_in_low"), ("room", "do_room"), ("enter", "do_nothing"), ("alarm", "do_nothing"), ("stop", "do_nothing")]
def tabGround : List (Str × Str) := [("say", "do_say_to_ground"), ("hear", "do_hear_nothing")]
def tabAct : List (Str × Str) := [("put", "do_put"), ("add", "do_add"), ("less", "do_less"), ("load", "do_load"), ("store", "do_store"), ("zero", "do_zero"), ("go", "do_go"), ("call", "do_nothing")]
def look (t : List (Str × Str)) (z : Str) : Option Str := (t.find? fun q => decide (q.1 = z)).map (·.2)
def ownFn (A : Adr) (m : Mc) (z : Str) : Option Str := if m.byGround A z then (match look tabGround z with
  | some f => some f
  | none => look tabLow z) else if m.high then look tabHigh z else look tabLow z
/-- a table of defs -/
def TabF (K : PySem.W.Frag) (w : World) (mg : Str → Option Value) (x : Str) (t : List (Str × Str)) (fa : Str → Addr) : Prop := ∃ d kvs, (∃ u, mg x = some u ∧ RelV (.ref d) u) ∧ Y.DictAt K w d kvs ∧ ∀ z, Y.valZ kvs z = (look t z).map fun f => V.ref (fa f)
def spByGround {K : PySem.W.Frag} (Z : Zs K) : Sp := fun vs H Q _ => ∃ (A : Adr) (m : Mc) (z : Str), vs = [.ref A.pb, .str z] ∧ BodyAt Z H A m ∧ Q (.bl (m.byGround A z)) H
def spOwnAction {K : PySem.W.Frag} (Z : Zs K) (fa : Str → Addr) : Sp := fun vs H Q _ => ∃ (A : Adr) (m : Mc) (z f : Str), vs = [.ref A.pb, .str z] ∧ BodyAt Z H A m ∧ ownFn A m z = some f ∧ Q (.ref (fa f)) H
section
variable {P : Program} {w : World} {K : PySem.W.Frag} {mg : Str → Option Value} {base : Heap} {Z : Zs K}
theorem u_byground {H : Hp} {Q : VK} {E : XK} {A : Adr} {m : Mc} {z : Str} (k : BodyAt Z H A m) (q : Q (.bl (m.byGround A z)) H) : spByGround Z ([.ref A.pb, .str z] ++ []) H Q E := ⟨A, m, z, rfl, k, q⟩
theorem u_ownact {H : Hp} {Q : VK} {E : XK} {A : Adr} {m : Mc} {z : Str} {fa : Str → Addr} (f : Str) (k : BodyAt Z H A m) (e : ownFn A m z = some f) (q : Q (.ref (fa f)) H) : spOwnAction Z fa ([.ref A.pb, .str z] ++ []) H Q E := ⟨A, m, z, f, rfl, k, e, q⟩
abbrev s_is_done_by_ground : Stmt := top 107
theorem sc_is_done_by_ground : FnScope ["body", "word"] ["body", "word"] (fnScope s_is_done_by_ground) := fnScope_by (by decide +kernel)
theorem ok_is_done_by_ground {f : Addr} {fd : FuncData} (F : Def K mg "is_done_by_ground" s_is_done_by_ground f fd) (b : Binds K fd ["body", "word"] []) (T : Txt K mg) (v_OWN_ROW : IntG mg "OWN_ROW" 1) (c_caught_in_low : Cal P w K mg base 1 "caught_in_low" spCaughtLow []) : Cal P w K mg base 2 "is_done_by_ground" (spByGround Z) [] := by
  refine cal0 F b .nil sc_is_done_by_ground (fun vs H Q E h => ?_) (fun cdv A outer s H vs Q E hr h => ?_)
  · obtain ⟨A, m, z, rfl, _⟩ := h
    rfl
  · obtain ⟨A, m, z, rfl, k, q⟩ := h
    have nd := sc_is_done_by_ground.nd
    refine ⟨_, (pss_cons (ps_if (PW.pt (pw_or (pt_cmpR op_isN1 (pe_fld (pv 0) rfl) pe_non (nomark _)) (pw_or1 (pt_cmpR op_eq (pe_c c_caught_in_low hr (by first | decide | omega) (by rfl) (pa_cons (pe_fld (pv 0) rfl) (pa_cons (pv 1) pa_nil))) (pe_gc (by rfl) v_OWN_ROW) (nomark _)))))
      (pss_one (ps_ret pe_bl))
      pss_nil)
      (pss_one (ps_ret (pe_not (pe_and (pe_fld (pv 0) rfl) (pe_one (pe_fld (pv 0) rfl))))))), ?_⟩
    obtain ⟨pw, e0, ew⟩ := k.ins
    unfold Mc.byGround at q
    walk_at "b"
    refine Y.s_fld ?_
    walk_at "s"
    refine body_fld (v := A.grV) e0 2 rfl rfl ?_
    walk_at "s"
    cases hg : A.grd with
    | none =>
      rw [hg] at q
      have eg : A.grV = .non := by unfold Adr.grV; rw [hg]
      rw [eg]
      refine Y.s_isNn ?_
      walk_at "s"
      exact q
    | some g =>
      rw [hg] at q
      have eg : A.grV = .ref g.pg := by unfold Adr.grV; rw [hg]
      rw [eg]
      refine Y.s_isNF Y.nn_ref ?_
      walk_at "s"
      refine Y.s_fld ?_
      walk_at "s"
      refine body_fld e0 0 rfl rfl ?_
      walk_at "s"
      refine u_low k.kd k.wf.bs ?_
      walk_at "s"
      refine Y.s_d2 (fun h1 => ?_) (fun h1 => ?_)
      · rw [decide_eq_true h1] at q
        walk_at "s"
        exact q
      · rw [decide_eq_false h1] at q
        walk_at "s"
        refine Y.s_fld ?_
        walk_at "s"
        refine body_fld e0 6 rfl rfl ?_
        walk_at "s"
        cases hh : m.high with
        | false =>
          rw [hh] at q
          walk_at "s"
          exact q
        | true =>
          rw [hh] at q
          walk_at "s"
          refine Y.s_fld ?_
          walk_at "s"
          refine body_fld e0 3 rfl rfl ?_
          walk_at "s"
          cases ht : A.thr with
          | false =>
            rw [ht] at q
            walk_at "s"
            exact q
          | true =>
            rw [ht] at q
            walk_at "s"
            exact q
abbrev s_own_action : Stmt := top 106
theorem sc_own_action : FnScope ["body", "word"] ["body", "word"] (fnScope s_own_action) := fnScope_by (by decide +kernel)
theorem ok_own_action {f : Addr} {fd : FuncData} {fa : Str → Addr} (F : Def K mg "own_action" s_own_action f fd) (b : Binds K fd ["body", "word"] []) (T : Txt K mg) (tG : TabF K w mg "OWN_BY_GROUND" tabGround fa) (tL : TabF K w mg "OWN_IN_LOW" tabLow fa) (tH : TabF K w mg "OWN_IN_HIGH" tabHigh fa)
    (c_is_done_by_ground : Cal P w K mg base 2 "is_done_by_ground" (spByGround Z) []) : Cal P w K mg base 3 "own_action" (spOwnAction Z fa) [] := by
  obtain ⟨dG, kG, v_OWN_BY_GROUND, q_OWN_BY_GROUND, hG⟩ := tG
  obtain ⟨dL, kL, v_OWN_IN_LOW, q_OWN_IN_LOW, hL⟩ := tL
  obtain ⟨dH, kH, v_OWN_IN_HIGH, q_OWN_IN_HIGH, hH⟩ := tH
  refine cal0 F b .nil sc_own_action (fun vs H Q E h => ?_) (fun cdv A outer s H vs Q E hr h => ?_)
  · obtain ⟨A, m, z, f, rfl, _⟩ := h
    rfl
  · obtain ⟨A, m, z, f, rfl, k, e, q⟩ := h
    have nd := sc_own_action.nd
    refine ⟨_, (pss_cons (ps_if (pt_val (pe_c c_is_done_by_ground hr (by first | decide | omega) (by rfl) (pa_cons (pv 0) (pa_cons (pv 1) pa_nil))))
      (pss_one (ps_ret (pe_ifExp (pt_cmpR (Y.op_in_dict q_OWN_BY_GROUND) (pv 1) (pe_gc (by rfl) v_OWN_BY_GROUND) (by rfl)) (pe_ix (Y.ix_dict q_OWN_BY_GROUND) (pe_gc (by rfl) v_OWN_BY_GROUND) (pv 1) (fun _ _ => rfl)) (pe_ix (Y.ix_dict q_OWN_IN_LOW) (pe_gc (by rfl) v_OWN_IN_LOW) (pv 1) (fun _ _ => rfl)))))
      pss_nil)
      (pss_one (ps_ret (pe_ifExp (pt_val (pe_fld (pv 0) rfl)) (pe_ix (Y.ix_dict q_OWN_IN_HIGH) (pe_gc (by rfl) v_OWN_IN_HIGH) (pv 1) (fun _ _ => rfl)) (pe_ix (Y.ix_dict q_OWN_IN_LOW) (pe_gc (by rfl) v_OWN_IN_LOW) (pv 1) (fun _ _ => rfl)))))), ?_⟩
    obtain ⟨pw, e0, ew⟩ := k.ins
    unfold ownFn at e
    walk_at "b"
    refine u_byground k ?_
    refine Y.s_bl ?_
    cases hb : m.byGround A z with
    | true =>
      rw [hb] at e
      rw [if_pos rfl] at e
      walk_at "s"
      cases hl : look tabGround z with
      | some f2 =>
        rw [hl] at e
        cases e
        refine Y.s_inDict (b := true) (by rw [hG, hl]; rfl) ?_
        walk_at "s"
        refine Y.s_ixDict (v := .ref (fa f)) (by rw [hG, hl]; rfl) ?_
        exact q
      | none =>
        rw [hl] at e
        dsimp only at e
        refine Y.s_inDict (b := false) (by rw [hG, hl]; rfl) ?_
        walk_at "s"
        refine Y.s_ixDict (v := .ref (fa f)) (by rw [hL, e]; rfl) ?_
        exact q
    | false =>
      rw [hb] at e
      rw [if_neg Bool.false_ne_true] at e
      walk_at "s"
      refine Y.s_fld ?_
      walk_at "s"
      refine body_fld e0 6 rfl rfl ?_
      walk_at "s"
      cases hh : m.high with
      | true =>
        rw [if_pos hh] at e
        walk_at "s"
        refine Y.s_ixDict (v := .ref (fa f)) (by rw [hH, e]; rfl) ?_
        exact q
      | false =>
        rw [if_neg (by rw [hh]; exact Bool.false_ne_true)] at e
        walk_at "s"
        refine Y.s_ixDict (v := .ref (fa f)) (by rw [hL, e]; rfl) ?_
        exact q
end
end G
end
section
namespace G
open PySem L2 C8
variable {K : PySem.W.Frag}
/-! ### a row is done -/
def Mc.act (A : Adr) (m : Mc) : Row → Mc
  | .put b n => m.setBox b (.num n)
  | .add b c d => m.setBox b (.num ((m.bw c + m.bw d) % 1000))
  | .less b c d => m.setBox b (.num ((m.bw c - m.bw d) % 1000))
  | .load b c => match m.at_ (m.bw c) with | some t => m.setBox b t | none => m
  | .store c b => match m.boxes[b.toNat]? with | some t => { m with cells := lay m.cells (m.w0 + m.bw c).toNat [t] } | none => m
  | .zero b n => if m.bw b = 0 then { m with place := n } else m
  | .go n => { m with place := n }
  | .call _ => m
  | .say b => if m.byGround A "say" then { m with gsaid := m.gsaid ++ [m.bw b] } else { m with said := m.said ++ [m.bw b] }
  | .hear b => if m.byGround A "hear" then m.setBox b (.num 0) else m.hears b
  | .which b => if m.byGround A "which" then m.setBox b (.num 0) else if m.high then m.setBox b (.num 1) else m.setBox b (.num 0)
  | .room b => m.setBox b (.num m.w1)
  | .enter b => if m.byGround A "enter" then m else if m.high then m.enters b else m
  | .alarm b => if m.byGround A "alarm" then m else if m.high then { m with alarm := m.bw b } else m
  | .stop => if m.byGround A "stop" then m else if m.high then { m with why := "stop" } else m
/-- a def's name and its promise -/
inductive ActP {K : PySem.W.Frag} (Z : Zs K) : Str → Sp → Prop
  | put : ActP Z "do_put" (sp_do_put Z) | add : ActP Z "do_add" (sp_do_add Z) | less : ActP Z "do_less" (sp_do_less Z) | load : ActP Z "do_load" (sp_do_load Z) | store : ActP Z "do_store" (sp_do_store Z)
  | zero : ActP Z "do_zero" (sp_do_zero Z) | go : ActP Z "do_go" (sp_do_go Z) | nothing : ActP Z "do_nothing" (sp_do_nothing Z) | say : ActP Z "do_say" (sp_do_say Z) | hear : ActP Z "do_hear" (sp_do_hear Z)
  | whichH : ActP Z "do_which_in_high" (sp_do_which_in_high Z) | whichL : ActP Z "do_which_in_low" (sp_do_which_in_low Z) | room : ActP Z "do_room" (sp_do_room Z) | enter : ActP Z "do_enter" (sp_do_enter Z) | alarm : ActP Z "do_alarm" (sp_do_alarm Z)
  | stop : ActP Z "do_stop" (sp_do_stop Z) | sayG : ActP Z "do_say_to_ground" (sp_do_say_to_ground Z) | hearN : ActP Z "do_hear_nothing" (sp_do_hear_nothing Z)
def spAct {K : PySem.W.Frag} (Z : Zs K) : Sp := fun vs H Q _ => ∃ (A : Adr) (m : Mc) (p : Addr) (r : Row), vs = [.ref A.pb, .ref p] ∧ BodyAt Z H A m ∧ (Thing.row p r).At K H ∧ m.reaches r = false ∧ 1 ≤ m.place ∧ m.said.length < 90000 ∧ m.gsaid.length < 90000 ∧ ∀ H', FrS A.own H H' → BodyAt Z H' A (m.act A r) → Q .non H'
section
variable {P : Program} {w : World} {K : PySem.W.Frag} {mg : Str → Option Value} {base : Heap} {Z : Zs K}
theorem cal_fnr {k : Nat} {x : Str} {sp : Sp} {a : Addr} (c : Cal P w K mg base k x sp []) (g : mg x = some (.ref a)) : FnR P w K mg base C8.CX0 k a sp ∧ PySem.W.keepIn K (.ref a) = true := by
  obtain ⟨f, fd, ps, ds, F, hm, kp, b, d⟩ := c.ex
  rw [g] at hm
  cases hm
  refine ⟨fun A outer s H us vs Q E hr e0 r hs => ?_, kp⟩
  exact F.raw b d A outer s H us vs Q E hr e0 r (by cases d; rw [List.append_nil]; exact hs)
theorem u_act {H : Hp} {Q : VK} {E : XK} {A : Adr} {m : Mc} {p : Addr} {r : Row} (k : BodyAt Z H A m) (h : (Thing.row p r).At K H) (hr : m.reaches r = false) (hp : 1 ≤ m.place) (h1 : m.said.length < 90000) (h2 : m.gsaid.length < 90000) (q : ∀ H', FrS A.own H H' → BodyAt Z H' A (m.act A r) → Q .non H') : spAct Z ([.ref A.pb, .ref p] ++ []) H Q E := ⟨A, m, p, r, rfl, k, h, hr, hp, h1, h2, q⟩
def actFn (A : Adr) (m : Mc) (z : Str) : Option Str := match look tabAct z with
  | some f => some f
  | none => ownFn A m z
theorem fn_act {A : Adr} {m : Mc} {z f : Str} (h : look tabAct z = some f) : actFn A m z = some f := by unfold actFn; rw [h]
theorem fn_own {A : Adr} {m : Mc} {z : Str} (h : look tabAct z = none) : actFn A m z = ownFn A m z := by unfold actFn; rw [h]
theorem fn_ground {A : Adr} {m : Mc} {z f : Str} (h0 : look tabAct z = none) (hb : m.byGround A z = true) (h1 : (match look tabGround z with
  | some f => some f
  | none => look tabLow z) = some f) : actFn A m z = some f := by rw [fn_own h0]; unfold ownFn; rw [if_pos hb]; exact h1
theorem fn_high {A : Adr} {m : Mc} {z f : Str} (h0 : look tabAct z = none) (hb : m.byGround A z = false) (hh : m.high = true) (h1 : look tabHigh z = some f) : actFn A m z = some f := by
  rw [fn_own h0]; unfold ownFn; rw [if_neg (by rw [hb]; exact Bool.false_ne_true), if_pos hh]; exact h1
theorem fn_low {A : Adr} {m : Mc} {z f : Str} (h0 : look tabAct z = none) (hb : m.byGround A z = false) (hh : m.high = false) (h1 : look tabLow z = some f) : actFn A m z = some f := by
  rw [fn_own h0]; unfold ownFn; rw [if_neg (by rw [hb]; exact Bool.false_ne_true), if_neg (by rw [hh]; exact Bool.false_ne_true)]; exact h1
theorem ground_is {A : Adr} {m : Mc} {z : Str} (hb : m.byGround A z = true) : ∃ g, A.grd = some g := by
  unfold Mc.byGround at hb
  cases hg : A.grd with
  | none => rw [hg] at hb; cases hb
  | some g => exact ⟨g, rfl⟩
/-- what the row's def promises -/
theorem row_does {H : Hp} {Q : VK} {A : Adr} {m : Mc} {r : Row} (k : BodyAt Z H A m) (hok : r.ok) (hre : m.reaches r = false) (hp : 1 ≤ m.place) (h1 : m.said.length < 90000) (h2 : m.gsaid.length < 90000) (q : ∀ H', FrS A.own H H' → BodyAt Z H' A (m.act A r) → Q .non H') :
    ∃ f sp, actFn A m r.word = some f ∧ ActP Z f sp ∧ sp (.ref A.pb :: r.nums.map V.int) H Q C8.E0 := by
  cases r with
  | put b n => exact ⟨"do_put", _, fn_act (z := "put") (by decide +kernel), .put, A, m, b, n, rfl, k, hok.1, hok.2, q⟩
  | add b c d => exact ⟨"do_add", _, fn_act (z := "add") (by decide +kernel), .add, A, m, b, c, d, rfl, k, hok.1, hok.2.1, hok.2.2, q⟩
  | less b c d => exact ⟨"do_less", _, fn_act (z := "less") (by decide +kernel), .less, A, m, b, c, d, rfl, k, hok.1, hok.2.1, hok.2.2, q⟩
  | load b c => exact ⟨"do_load", _, fn_act (z := "load") (by decide +kernel), .load, A, m, b, c, rfl, k, hok.1, hok.2, Int.not_le.mp (of_decide_eq_false hre), q⟩
  | store c b => exact ⟨"do_store", _, fn_act (z := "store") (by decide +kernel), .store, A, m, c, b, rfl, k, hok.1, hok.2, Int.not_le.mp (of_decide_eq_false hre), q⟩
  | zero b n => exact ⟨"do_zero", _, fn_act (z := "zero") (by decide +kernel), .zero, A, m, b, n, rfl, k, hok.1, hok.2, q⟩
  | go n => exact ⟨"do_go", _, fn_act (z := "go") (by decide +kernel), .go, A, m, n, rfl, k, hok, q⟩
  | call n => exact ⟨"do_nothing", _, fn_act (z := "call") (by decide +kernel), .nothing, A, m, [n], rfl, Nat.le_of_ble_eq_true rfl, k, q⟩
  | say b =>
    cases hb : m.byGround A "say" with
    | true =>
      dsimp only [Mc.act] at q
      rw [if_pos hb] at q
      obtain ⟨g, hg⟩ := ground_is hb
      exact ⟨"do_say_to_ground", _, fn_ground (z := "say") (by decide +kernel) hb (by decide +kernel), .sayG, A, m, b, g, rfl, k, hok, hg, h2, q⟩
    | false =>
      dsimp only [Mc.act] at q
      rw [if_neg (by rw [hb]; exact Bool.false_ne_true)] at q
      cases hh : m.high with
      | true => exact ⟨"do_say", _, fn_high (z := "say") (by decide +kernel) hb hh (by decide +kernel), .say, A, m, b, rfl, k, hok, h1, q⟩
      | false => exact ⟨"do_say", _, fn_low (z := "say") (by decide +kernel) hb hh (by decide +kernel), .say, A, m, b, rfl, k, hok, h1, q⟩
  | hear b =>
    cases hb : m.byGround A "hear" with
    | true =>
      dsimp only [Mc.act] at q
      rw [if_pos hb] at q
      exact ⟨"do_hear_nothing", _, fn_ground (z := "hear") (by decide +kernel) hb (by decide +kernel), .hearN, A, m, b, rfl, k, hok, q⟩
    | false =>
      dsimp only [Mc.act] at q
      rw [if_neg (by rw [hb]; exact Bool.false_ne_true)] at q
      cases hh : m.high with
      | true =>
        exact ⟨"do_hear", _, fn_high (z := "hear") (by decide +kernel) hb hh (by decide +kernel), .hear, A, m, b, rfl, k, hok, q⟩
      | false =>
        exact ⟨"do_hear", _, fn_low (z := "hear") (by decide +kernel) hb hh (by decide +kernel), .hear, A, m, b, rfl, k, hok, q⟩
  | which b =>
    cases hb : m.byGround A "which" with
    | true =>
      dsimp only [Mc.act] at q
      rw [if_pos hb] at q
      exact ⟨"do_which_in_low", _, fn_ground (z := "which") (by decide +kernel) hb (by decide +kernel), .whichL, A, m, b, rfl, k, hok, q⟩
    | false =>
      dsimp only [Mc.act] at q
      rw [if_neg (by rw [hb]; exact Bool.false_ne_true)] at q
      cases hh : m.high with
      | true =>
        rw [if_pos hh] at q
        exact ⟨"do_which_in_high", _, fn_high (z := "which") (by decide +kernel) hb hh (by decide +kernel), .whichH, A, m, b, rfl, k, hok, q⟩
      | false =>
        rw [if_neg (by rw [hh]; exact Bool.false_ne_true)] at q
        exact ⟨"do_which_in_low", _, fn_low (z := "which") (by decide +kernel) hb hh (by decide +kernel), .whichL, A, m, b, rfl, k, hok, q⟩
  | room b =>
    cases hb : m.byGround A "room" with
    | true =>
      dsimp only [Mc.act] at q
      exact ⟨"do_room", _, fn_ground (z := "room") (by decide +kernel) hb (by decide +kernel), .room, A, m, b, rfl, k, hok, q⟩
    | false =>
      dsimp only [Mc.act] at q
      cases hh : m.high with
      | true =>
        exact ⟨"do_room", _, fn_high (z := "room") (by decide +kernel) hb hh (by decide +kernel), .room, A, m, b, rfl, k, hok, q⟩
      | false =>
        exact ⟨"do_room", _, fn_low (z := "room") (by decide +kernel) hb hh (by decide +kernel), .room, A, m, b, rfl, k, hok, q⟩
  | enter b =>
    cases hb : m.byGround A "enter" with
    | true =>
      dsimp only [Mc.act] at q
      rw [if_pos hb] at q
      exact ⟨"do_nothing", _, fn_ground (z := "enter") (by decide +kernel) hb (by decide +kernel), .nothing, A, m, [b], rfl, Nat.le_of_ble_eq_true rfl, k, q⟩
    | false =>
      dsimp only [Mc.act] at q
      rw [if_neg (by rw [hb]; exact Bool.false_ne_true)] at q
      cases hh : m.high with
      | true =>
        rw [if_pos hh] at q
        exact ⟨"do_enter", _, fn_high (z := "enter") (by decide +kernel) hb hh (by decide +kernel), .enter, A, m, b, rfl, k, hok.1, hok.2, hp, q⟩
      | false =>
        rw [if_neg (by rw [hh]; exact Bool.false_ne_true)] at q
        exact ⟨"do_nothing", _, fn_low (z := "enter") (by decide +kernel) hb hh (by decide +kernel), .nothing, A, m, [b], rfl, Nat.le_of_ble_eq_true rfl, k, q⟩
  | alarm b =>
    cases hb : m.byGround A "alarm" with
    | true =>
      dsimp only [Mc.act] at q
      rw [if_pos hb] at q
      exact ⟨"do_nothing", _, fn_ground (z := "alarm") (by decide +kernel) hb (by decide +kernel), .nothing, A, m, [b], rfl, Nat.le_of_ble_eq_true rfl, k, q⟩
    | false =>
      dsimp only [Mc.act] at q
      rw [if_neg (by rw [hb]; exact Bool.false_ne_true)] at q
      cases hh : m.high with
      | true =>
        rw [if_pos hh] at q
        exact ⟨"do_alarm", _, fn_high (z := "alarm") (by decide +kernel) hb hh (by decide +kernel), .alarm, A, m, b, rfl, k, hok, q⟩
      | false =>
        rw [if_neg (by rw [hh]; exact Bool.false_ne_true)] at q
        exact ⟨"do_nothing", _, fn_low (z := "alarm") (by decide +kernel) hb hh (by decide +kernel), .nothing, A, m, [b], rfl, Nat.le_of_ble_eq_true rfl, k, q⟩
  | stop =>
    cases hb : m.byGround A "stop" with
    | true =>
      dsimp only [Mc.act] at q
      rw [if_pos hb] at q
      exact ⟨"do_nothing", _, fn_ground (z := "stop") (by decide +kernel) hb (by decide +kernel), .nothing, A, m, [], rfl, Nat.le_of_ble_eq_true rfl, k, q⟩
    | false =>
      dsimp only [Mc.act] at q
      rw [if_neg (by rw [hb]; exact Bool.false_ne_true)] at q
      cases hh : m.high with
      | true =>
        rw [if_pos hh] at q
        exact ⟨"do_stop", _, fn_high (z := "stop") (by decide +kernel) hb hh (by decide +kernel), .stop, A, m, rfl, k, q⟩
      | false =>
        rw [if_neg (by rw [hh]; exact Bool.false_ne_true)] at q
        exact ⟨"do_nothing", _, fn_low (z := "stop") (by decide +kernel) hb hh (by decide +kernel), .nothing, A, m, [], rfl, Nat.le_of_ble_eq_true rfl, k, q⟩
abbrev s_act : Stmt := top 105
theorem sc_act : FnScope ["body", "row", "word", "numbers", "action"] ["body", "row"] (fnScope s_act) := fnScope_by (by decide +kernel)
theorem ok_act {f : Addr} {fd : FuncData} {fa : Str → Addr} (F : Def K mg "act" s_act f fd) (b : Binds K fd ["body", "row"] []) (T : Txt K mg) (tA : TabF K w mg "ACTIONS" tabAct fa) (ha : ∀ n sp, ActP Z n sp → FnR P w K mg base C8.CX0 10 (fa n) sp ∧ PySem.W.keepIn K (.ref (fa n)) = true)
    (c_own_action : Cal P w K mg base 3 "own_action" (spOwnAction Z fa) []) : Cal P w K mg base 11 "act" (spAct Z) [] := by
  obtain ⟨dA, kA, v_ACTIONS, q_ACTIONS, hA⟩ := tA
  refine cal0 F b .nil sc_act (fun vs H Q E h => ?_) (fun cdv A outer s H vs Q E hr h => ?_)
  · obtain ⟨A, m, p, r, rfl, _⟩ := h
    rfl
  · obtain ⟨A, m, p, r, rfl, k, ⟨hpt, hok⟩, hre, hpl, hs1, hs2, q⟩ := h
    have nd := sc_act.nd
    have act_h : ∀ f sp, (∃ n, f = fa n ∧ ActP Z n sp) → FnR P w K mg base C8.CX0 10 f sp ∧ PySem.W.keepIn K (.ref f) = true := fun f sp ⟨n, e, h⟩ => by rw [e]; exact ha n sp h
    refine ⟨_, (pss_cons (ps_asg (pv 1) (Y.pg_star1 (by rfl) (pg_name (i := 2) nd rfl (by first | exact Or.inl rfl | exact Or.inr rfl)) (pg_name (i := 3) nd rfl (by first | exact Or.inl rfl | exact Or.inr rfl))))
      (pss_cons (ps_set (i := 4) nd rfl (by first | exact Or.inl rfl | exact Or.inr rfl) (pe_ifExp (pt_cmpR (Y.op_in_dict q_ACTIONS) (pv 2) (pe_gc (by rfl) v_ACTIONS) (by rfl)) (pe_ix (Y.ix_dict q_ACTIONS) (pe_gc (by rfl) v_ACTIONS) (pv 2) (fun _ _ => rfl)) (pe_c c_own_action hr (by first | decide | omega) (by rfl) (pa_cons (pv 0) (pa_cons (pv 2) pa_nil)))))
      (pss_one (ps_expr (Y.pe_callLS (i := 4) act_h hr (by first | decide | omega) rfl (by first | exact Or.inl rfl | exact Or.inr (Or.inl rfl) | exact Or.inr (Or.inr rfl)) (pa_cons (pv 0) (StX.pa_star (pv 3) pa_nil))))))), ?_⟩
    rw [r.vs_eq] at hpt
    walk_at "b"
    refine Y.s_gStar1 hpt.sq fun pn hpn => ?_
    have k1 := k.new (o := .lst (r.nums.map V.int)) hpn
    have f1 : FrS A.own H (upd H pn (.lst (r.nums.map V.int))) := FrS.refl.new hpn
    walk_at "s"
    obtain ⟨f2, sp, ef, ap, hsp⟩ := row_does (Q := fun _ H' => Q .non H') k1 hok hre hpl hs1 hs2 fun H' f' k' => q H' (f1.trans f') k'
    cases hl : look tabAct r.word with
    | some f3 =>
      rw [fn_act hl] at ef
      cases ef
      refine Y.s_inDict (b := true) (by rw [hA, hl]; rfl) ?_
      walk_at "s"
      refine Y.s_ixDict (v := .ref (fa f2)) (by rw [hA, hl]; rfl) ?_
      walk_at "s"
      refine Y.s_callR sp rfl ⟨f2, rfl, ap⟩ ?_
      walk_at "s"
      refine Y.s_stq ?_
      walk_at "s"
      refine ⟨_, _, rfl, .inr (SqL.of upd_same), ?_⟩
      walk_at "s"
      rw [List.append_nil]
      exact hsp
    | none =>
      rw [fn_own hl] at ef
      refine Y.s_inDict (b := false) (by rw [hA, hl]; rfl) ?_
      walk_at "s"
      refine u_ownact f2 k1 ef ?_
      walk_at "s"
      refine Y.s_callR sp rfl ⟨f2, rfl, ap⟩ ?_
      walk_at "s"
      refine Y.s_stq ?_
      walk_at "s"
      refine ⟨_, _, rfl, .inr (SqL.of upd_same), ?_⟩
      walk_at "s"
      rw [List.append_nil]
      exact hsp
end
end G
end
section
/-! ### facts of the head for laws with classes -/
namespace G
open PySem PySem.Spec L2 C8
theorem find_map {α β : Type} (f : α → Str × β) (z : Str) : ∀ L : List α, (((L.map f).find? fun q => decide (q.1 = z)).map (·.2)) = ((L.find? fun q => decide ((f q).1 = z)).map fun q => (f q).2)
  | [] => rfl
  | a :: r => by
    rw [List.map_cons, List.find?_cons, List.find?_cons]
    cases decide ((f a).1 = z) with
    | true => rfl
    | false => exact find_map f z r
theorem tabF_of {K : PySem.W.Frag} {w : World} {mg : Str → Option Value} {x : Str} {t : List (Str × Str)} (v : ∃ u, mg x = some u ∧ RelV (.ref (He.ga K x)) u) (q : Y.DictAt K w (He.ga K x) (t.map fun q => (q.1, V.ref (He.ga K q.2)))) : TabF K w mg x t (fun n => He.ga K n) := ⟨_, _, v, q, fun z => by
  unfold Y.valZ look
  rw [find_map, Option.map_map]
  rfl⟩
theorem limAt_of {K : PySem.W.Frag} {w : World} {d : Addr} {kvs : List (Str × V)} (D : Y.DictAt K w d kvs) (L : List (Str × List Int × Addr)) (e1 : kvs = L.map fun q => (q.1, V.ref q.2.2)) (e2 : limT = L.map fun q => (q.1, q.2.1)) (h : ∀ q ∈ L, ∀ H : Hp, SqT K H q.2.2 (q.2.1.map V.int)) : LimAt K w d kvs := by
  have g1 : ∀ z, Y.valZ kvs z = (L.find? fun q => decide (q.1 = z)).map fun q => V.ref q.2.2 := fun z => by
    unfold Y.valZ
    rw [e1]
    exact find_map (fun q => (q.1, V.ref q.2.2)) z L
  have g2 : ∀ z, limOf z = (L.find? fun q => decide (q.1 = z)).map fun q => q.2.1 := fun z => by
    unfold limOf
    rw [e2]
    exact find_map (fun q => (q.1, q.2.1)) z L
  refine ⟨D, fun z ls hz => ?_, fun z hz => ?_⟩
  · rw [g2] at hz
    rw [g1]
    cases e : L.find? fun q => decide (q.1 = z) with
    | none => rw [e] at hz; cases hz
    | some q =>
      rw [e] at hz
      cases hz
      exact ⟨_, rfl, h q (List.mem_of_find?_eq_some e)⟩
  · rw [g2] at hz
    rw [g1]
    cases e : L.find? fun q => decide (q.1 = z) with
    | none => rfl
    | some q => rw [e] at hz; cases hz
theorem def_of {K : PySem.W.Frag} {mg : Str → Option Value} {x : Str} {st : Stmt} {f : Addr} {fd : FuncData} (F : FunD K x x (fnArgs st) (fnBody st) (fnScope st) [] [] f fd) (g : mg x = some (.ref f)) : Def K mg x st f fd := by
  obtain ⟨⟨oc, od, dV, kV, doc, pm, an, cdv, ct, osl, h1, h2, h3, _, _⟩, kp⟩ := F
  exact ⟨⟨oc, od, dV, kV, doc, pm, an, cdv, ct, osl, h1, h2, h3⟩, g, kp⟩
theorem fun_of {K : PySem.W.Frag} {x q : Str} {st : Stmt} {f : Addr} {fd : FuncData} (F : FunD K x q (fnArgs st) (fnBody st) (fnScope st) [] [] f fd) : C8.Fun K x q st f fd := by
  obtain ⟨⟨oc, od, dV, kV, doc, pm, an, cdv, ct, osl, h1, h2, h3, _, _⟩, kp⟩ := F
  exact ⟨⟨oc, od, dV, kV, doc, pm, an, cdv, ct, osl, h1, h2, h3⟩⟩
end G
end
section
namespace G
open PySem L2 C8
/-! ### check_way -/
def WayT (way : Str) : Prop := way = "plain" ∨ way = "through"
def spCheckWay : Sp := fun vs H Q _ => ∃ way, vs = [.str way] ∧ WayT way ∧ ∀ H', Same H H' → Q .non H'
theorem u_cway {H : Hp} {Q : VK} {E : XK} {way : Str} (hw : WayT way) (q : ∀ H', Same H H' → Q .non H') : spCheckWay ([.str way] ++ []) H Q E := ⟨way, rfl, hw, q⟩
section
variable {P : Program} {w : World} {K : PySem.W.Frag} {mg : Str → Option Value} {base : Heap}
abbrev s_check_way : Stmt := top 34
theorem sc_check_way : FnScope ["way"] ["way"] (fnScope s_check_way) := fnScope_by (by decide +kernel)
theorem ok_check_way {f : Addr} {fd : FuncData} (F : Def K mg "check_way" s_check_way f fd) (b : Binds K fd ["way"] []) (T : Txt K mg) (v_PLAIN : StrG mg "PLAIN" "plain") (v_THROUGH : StrG mg "THROUGH" "through") : Cal P w K mg base 1 "check_way" spCheckWay [] := by
  refine cal0 F b .nil sc_check_way (fun vs H Q E h => ?_) (fun cdv A outer s H vs Q E hr h => ?_)
  · obtain ⟨a, rfl, _⟩ := h
    rfl
  · obtain ⟨way, rfl, hw, q⟩ := h
    have nd := sc_check_way.nd
    refine ⟨_, (pss_one (ps_if (pt_cmpR op_notIn_seq (pv 0) (pe_tup (pa_cons (pe_gc (by rfl) v_PLAIN) (pa_cons (pe_gc (by rfl) v_THROUGH) pa_nil))) (by rfl))
      (pss_one ps_never)
      pss_nil)), ?_⟩
    walk_at "b"
    refine Y.s_new rfl fun p1 hp1 => ?_
    have hi : inV (.str way) [.str "plain", .str "through"] = true := by rcases hw with rfl | rfl <;> decide +kernel
    refine Y.s_ninT (b := true) (by walk_at "sq") rfl rfl hi ?_
    walk_at "s"
    exact q _ (by walk_at "sm")
end
end G
end
section
namespace G
open PySem L2 C8
/-! ### the comparison that the law makes -/
/-- x and y are the same data, at most n deep in lists and tuples -/
def Sm (K : PySem.W.Frag) (H : Hp) : Nat → V → V → Prop
  | 0, _, _ => False
  | n + 1, x, y => (flatV x = true ∧ x = y) ∨ ∃ (a b : Addr) (xs ys : List V), x = .ref a ∧ y = .ref b ∧ ((H a = some (.lst xs) ∧ H b = some (.lst ys)) ∨ (TpAt K H a xs ∧ TpAt K H b ys)) ∧ xs.length = ys.length ∧ xs.length ≤ 10000 ∧
      ∀ (i : Nat) u v, xs[i]? = some u → ys[i]? = some v → Sm K H n u v
theorem Sm.mono {K : PySem.W.Frag} {H H' : Hp} (f : Same H H') : ∀ {n : Nat} {x y : V}, Sm K H n x y → Sm K H' n x y
  | 0, _, _, h => h
  | n + 1, x, y, h => by
    rcases h with h | ⟨a, b, xs, ys, e1, e2, h, el, hl, hi⟩
    · exact .inl h
    · refine .inr ⟨a, b, xs, ys, e1, e2, ?_, el, hl, fun i u v h1 h2 => (hi i u v h1 h2).mono f⟩
      rcases h with ⟨h1, h2⟩ | ⟨h1, h2⟩
      · exact .inl ⟨f _ _ h1, f _ _ h2⟩
      · exact .inr ⟨h1.same f, h2.same f⟩
def spSame (K : PySem.W.Frag) (n : Nat) : Sp := fun vs H Q _ => ∃ x y, vs = [x, y] ∧ Sm K H n x y ∧ ∀ H', Same H H' → Q (.bl true) H'
section
variable {P : Program} {w : World} {K : PySem.W.Frag} {mg : Str → Option Value} {base : Heap}
abbrev s__law_same : Stmt := top 116
theorem sc__law_same : FnScope ["_law_found", "_law_due", "_law_k"] ["_law_found", "_law_due"] (fnScope s__law_same) := fnScope_by (by decide +kernel)
theorem ok__law_same {f : Addr} {fd : FuncData} (F : Def K mg "_law_same" s__law_same f fd) (b : Binds K fd ["_law_found", "_law_due"] []) (T : Txt K mg) : ∀ n, Cal P w K mg base (n + 1) "_law_same" (spSame K n) [] := by
  intro n
  induction n with
  | zero =>
    refine cal0 F b .nil sc__law_same (fun vs H Q E h => ?_) (fun cdv A outer s H vs Q E hr h => ?_)
    · obtain ⟨x, y, rfl, _⟩ := h
      rfl
    · obtain ⟨x, y, _, h, _⟩ := h
      exact h.elim
  | succ n ih =>
    have c__law_same := ih
    refine cal0 F b .nil sc__law_same (fun vs H Q E h => ?_) (fun cdv A outer s H vs Q E hr h => ?_)
    · obtain ⟨x, y, rfl, _⟩ := h
      rfl
    · obtain ⟨x, y, rfl, h, q⟩ := h
      have nd := sc__law_same.nd
      refine ⟨_, (pss_cons (ps_if (pt_val (pe_callB call_isiT (by rfl) T.n_isinstance (by decide +kernel) (pa_cons (pv 1) (pa_cons (pe_tup (pa_cons (Y.pe_bty (T := "tuple") (by rfl) T.n_tuple (by decide +kernel)) (pa_cons (Y.pe_bty (T := "list") (by rfl) T.n_list (by decide +kernel)) pa_nil))) pa_nil))))
      (pss_cons (ps_if (PW.pt (pw_or (pt_not (pt_val (pe_callB call_isiT (by rfl) T.n_isinstance (by decide +kernel) (pa_cons (pv 0) (pa_cons (pe_tup (pa_cons (Y.pe_bty (T := "tuple") (by rfl) T.n_tuple (by decide +kernel)) (pa_cons (Y.pe_bty (T := "list") (by rfl) T.n_list (by decide +kernel)) pa_nil))) pa_nil))))) (pw_or1 (pt_cmpR op_ne (pe_callB call_isi (by rfl) T.n_isinstance (by decide +kernel) (pa_cons (pv 0) (pa_cons (Y.pe_bty (T := "list") (by rfl) T.n_list (by decide +kernel)) pa_nil))) (pe_callB call_isi (by rfl) T.n_isinstance (by decide +kernel) (pa_cons (pv 1) (pa_cons (Y.pe_bty (T := "list") (by rfl) T.n_list (by decide +kernel)) pa_nil))) (nomark _)))))
      (pss_one (ps_ret pe_bl))
      pss_nil)
      (pss_cons (ps_if (pt_cmpR op_ne (pe_callB Y.cl_len (by rfl) T.n_len PySem.boot_len (pa_cons (pv 0) pa_nil)) (pe_callB Y.cl_len (by rfl) T.n_len PySem.boot_len (pa_cons (pv 1) pa_nil)) (nomark _))
      (pss_one (ps_ret pe_bl))
      pss_nil)
      (pss_one (ps_ret (pe_cmpR (op_eqD hr.units) (pe_lc (own := [("_law_k", 2)]) (g := gName 2) (by rfl) nd (pi_range1 rfl T.n_range (pa_cons (pe_callB Y.cl_len (by rfl) T.n_len PySem.boot_len (pa_cons (pv 1) pa_nil)) pa_nil)) (blkOk_by (N := ["_law_found", "_law_due", "_law_k"]) (sc := fnScope s__law_same) (by decide +kernel)) (fun _ _ _ _ _ => (pg_name (i := 2) nd rfl (by first | exact Or.inl rfl | exact Or.inr rfl))) (fun _ _ _ _ _ => (pts_one (pt_not (pt_val (pe_c c__law_same hr (by first | decide | omega) (by rfl) (pa_cons (pe_ix (show IxR _ (rIx K) from ix_seq) (pv 0) (pv 2) (fun _ _ => rfl)) (pa_cons (pe_ix (show IxR _ (rIx K) from ix_seq) (pv 1) (pv 2) (fun _ _ => rfl)) pa_nil))))))) (fun _ _ _ _ _ => (pv 2))) (pe_lst pa_nil) (nomark _))))))
      pss_nil)
      (pss_cons (ps_if (pt_cmpR op_isN1 (pv 1) pe_non (nomark _))
      (pss_one (ps_ret (pe_cmpR op_isN1 (pv 0) pe_non (nomark _))))
      pss_nil)
      (pss_cons (ps_if (pt_val (pe_callB call_isi (by rfl) T.n_isinstance (by decide +kernel) (pa_cons (pv 1) (pa_cons (Y.pe_bty (T := "str") (by rfl) T.n_str (by decide +kernel)) pa_nil))))
      (pss_one (ps_ret (pe_and (pe_callB call_isi (by rfl) T.n_isinstance (by decide +kernel) (pa_cons (pv 0) (pa_cons (Y.pe_bty (T := "str") (by rfl) T.n_str (by decide +kernel)) pa_nil))) (pe_one (pe_cmpR op_eq (pv 0) (pv 1) (nomark _))))))
      pss_nil)
      (pss_cons (ps_if (PW.pt (pw_or (pt_val (pe_callB call_isi (by rfl) T.n_isinstance (by decide +kernel) (pa_cons (pv 1) (pa_cons (Y.pe_bty (T := "bool") (by rfl) T.n_bool (by decide +kernel)) pa_nil)))) (pw_or1 (pt_val (pe_callB call_isi (by rfl) T.n_isinstance (by decide +kernel) (pa_cons (pv 0) (pa_cons (Y.pe_bty (T := "bool") (by rfl) T.n_bool (by decide +kernel)) pa_nil)))))))
      (pss_one (ps_ret (pe_and (pe_callB call_isi (by rfl) T.n_isinstance (by decide +kernel) (pa_cons (pv 1) (pa_cons (Y.pe_bty (T := "bool") (by rfl) T.n_bool (by decide +kernel)) pa_nil))) (pe_and (pe_callB call_isi (by rfl) T.n_isinstance (by decide +kernel) (pa_cons (pv 0) (pa_cons (Y.pe_bty (T := "bool") (by rfl) T.n_bool (by decide +kernel)) pa_nil))) (pe_one (pe_cmpR op_eq (pv 0) (pv 1) (nomark _)))))))
      pss_nil)
      (pss_one (ps_ret (pe_and (pe_callB call_isi (by rfl) T.n_isinstance (by decide +kernel) (pa_cons (pv 0) (pa_cons (Y.pe_bty (T := "int") (by rfl) T.n_int (by decide +kernel)) pa_nil))) (pe_one (pe_cmpR op_eq (pv 0) (pv 1) (nomark _)))))))))), ?_⟩
      walk_at "b"
      refine Y.s_new rfl fun p1 hp1 => ?_
      rcases h with ⟨hf, rfl⟩ | ⟨a1, a2, xs, ys, rfl, rfl, hxy, el, hl, hi⟩
      · cases x with
        | non =>
          walk_at "s"
          exact q _ (by walk_at "sm")
        | bl v =>
          walk_at "s"
          rw [decide_eq_true rfl]
          exact q _ (by walk_at "sm")
        | int v =>
          walk_at "s"
          rw [decide_eq_true rfl]
          exact q _ (by walk_at "sm")
        | str v =>
          walk_at "s"
          rw [decide_eq_true rfl]
          exact q _ (by walk_at "sm")
        | byt v => cases hf
        | flt v => cases hf
        | ref v => cases hf
        | ty v => cases hf
      · rcases hxy with ⟨h1, h2⟩ | ⟨h1, h2⟩
        all_goals
          walk_at "s"
          refine Y.s_new rfl fun p2 hp2 => ?_
          walk_at "s"
          refine Y.s_dNT (by omega) ?_
          walk_at "s"
          refine Y.s_lcR (by omega) (by omega) fun D hD => ⟨fun i acc Hx => acc = [] ∧ Same H Hx, ?_, ?_, ?_⟩
          · exact ⟨rfl, by walk_at "sm"⟩
          · rintro i acc Hx hi2 hl2 hD2 ⟨rfl, sx⟩
            obtain ⟨u, hu1⟩ : ∃ u, xs[i]? = some u := ⟨_, List.getElem?_eq_getElem (by omega)⟩
            obtain ⟨v, hv1⟩ : ∃ v, ys[i]? = some v := ⟨_, List.getElem?_eq_getElem (by omega)⟩
            walk_at "s"
            first
              | refine Y.s_ixL (SqL.of (sx _ _ h1)) (at_of (j := i) (by omega) hu1) ?_
              | refine Y.s_ixT ((h1.same sx).sq) (at_of (j := i) (by omega) hu1) ?_
            walk_at "s"
            first
              | refine Y.s_ixL (SqL.of (sx _ _ h2)) (at_of (j := i) (by omega) hv1) ?_
              | refine Y.s_ixT ((h2.same sx).sq) (at_of (j := i) (by omega) hv1) ?_
            walk_at "s"
            refine ⟨u, v, rfl, (hi i u v hu1 hv1).mono sx, fun H' sy => ?_⟩
            walk_at "s"
            exact Y.s_lcN (sy _ _ hD2) hl2 ⟨rfl, sx.trans sy⟩
          · rintro acc Hx hD2 hl2 ⟨rfl, sx⟩
            refine Y.s_new rfl fun p3 hp3 => ?_
            refine Y.s_eqNil (by walk_at "sq") (by walk_at "sq") ?_
            walk_at "s"
            exact q _ (by walk_at "sm")
end
end G
end
section
namespace G
open PySem L2 C8
/-! ### the kinds: check_kind, check_way, lacking, holds, own_row, unlike -/
def needP : List Str := ["say", "hear", "which", "enter", "alarm", "stop"]
def needT : List Str := ["say", "hear"]
def need (way : Str) : List Str := if way = "plain" then needP else needT
def lackL (bs : List Bool) (way : Str) : List Str := ((ownW.zip bs).filter fun q => (need way).contains q.1 && !q.2).map (·.1)
def spLacking : Sp := fun vs H Q _ => ∃ p bs way, vs = [.ref p, .str way] ∧ KindAt H p bs ∧ WayT way ∧ ∀ l H', Same H H' → H l = none → H' l = some (.lst ((lackL bs way).map V.str)) → Q (.ref l) H'
def spHolds : Sp := fun vs H Q _ => ∃ p bs way, vs = [.ref p, .str way] ∧ KindAt H p bs ∧ WayT way ∧ ∀ H', Same H H' → Q (.bl (decide (lackL bs way = []))) H'
def spOwnRow : Sp := fun vs H Q _ => ∃ z, vs = [.str z] ∧ ∀ a xs H', Same H H' → H a = none → H' a = some (.tup xs) → xs.length ≤ 2 → Q (.ref a) H'
def spUnlike : Sp := fun vs H Q _ => ∃ p bs way, vs = [.ref p, .str way] ∧ KindAt H p bs ∧ WayT way ∧ ∀ v H', Same H H' → ((decide (lackL bs way = []) = true ∧ v = .non) ∨ (decide (lackL bs way = []) = false ∧ v ≠ .non)) → Q v H'
theorem u_lacking {H : Hp} {Q : VK} {E : XK} {p : Addr} {bs : List Bool} {way : Str} (h : KindAt H p bs) (hw : WayT way) (q : ∀ l H', Same H H' → H l = none → H' l = some (.lst ((lackL bs way).map V.str)) → Q (.ref l) H') : spLacking ([.ref p, .str way] ++ []) H Q E := ⟨p, bs, way, rfl, h, hw, q⟩
theorem u_holds {H : Hp} {Q : VK} {E : XK} {p : Addr} {bs : List Bool} {way : Str} (h : KindAt H p bs) (hw : WayT way) (q : ∀ H', Same H H' → Q (.bl (decide (lackL bs way = []))) H') : spHolds ([.ref p, .str way] ++ []) H Q E := ⟨p, bs, way, rfl, h, hw, q⟩
theorem u_unlike {H : Hp} {Q : VK} {E : XK} {p : Addr} {bs : List Bool} {way : Str} (h : KindAt H p bs) (hw : WayT way) (q : ∀ v H', Same H H' → ((decide (lackL bs way = []) = true ∧ v = .non) ∨ (decide (lackL bs way = []) = false ∧ v ≠ .non)) → Q v H') : spUnlike ([.ref p, .str way] ++ []) H Q E := ⟨p, bs, way, rfl, h, hw, q⟩
theorem u_ownrow {H : Hp} {Q : VK} {E : XK} {z : Str} (q : ∀ a xs H', Same H H' → H a = none → H' a = some (.tup xs) → xs.length ≤ 2 → Q (.ref a) H') : spOwnRow ([.str z] ++ []) H Q E := ⟨z, rfl, q⟩
section
variable {P : Program} {w : World} {K : PySem.W.Frag} {mg : Str → Option Value} {base : Heap}
abbrev s_lacking : Stmt := top 44
theorem sc_lacking : FnScope ["kind", "way", "needed", "word", "caught"] ["kind", "way"] (fnScope s_lacking) := fnScope_by (by decide +kernel)
theorem ok_lacking {f : Addr} {fd : FuncData} (F : Def K mg "lacking" s_lacking f fd) (b : Binds K fd ["kind", "way"] []) (T : Txt K mg) (v_PLAIN : StrG mg "PLAIN" "plain") (tO : TupG K mg "OWN" (ownW.map V.str)) (tP : TupG K mg "NEEDED_BY_PLAIN" (needP.map V.str)) (tT : TupG K mg "NEEDED_BY_THROUGH" (needT.map V.str)) : Cal P w K mg base 1 "lacking" spLacking [] := by
  obtain ⟨aO, v_OWN, qO⟩ := tO
  obtain ⟨aP, v_NEEDED_BY_PLAIN, qP⟩ := tP
  obtain ⟨aT, v_NEEDED_BY_THROUGH, qT⟩ := tT
  refine cal0 F b .nil sc_lacking (fun vs H Q E h => ?_) (fun cdv A outer s H vs Q E hr h => ?_)
  · obtain ⟨a, bs, way, rfl, _⟩ := h
    rfl
  · obtain ⟨p, bs, way, rfl, ⟨hp, hl⟩, hw, q⟩ := h
    have nd := sc_lacking.nd
    refine ⟨_, (pss_cons (ps_set (i := 2) nd rfl (by first | exact Or.inl rfl | exact Or.inr rfl) (pe_ifExp (pt_cmpR op_eq (pv 1) (pe_gc (by rfl) v_PLAIN) (nomark _)) (pe_gc (by rfl) v_NEEDED_BY_PLAIN) (pe_gc (by rfl) v_NEEDED_BY_THROUGH)))
      (pss_one (ps_ret (pe_lc (own := [("word", 3), ("caught", 4)]) (g := gTup K 2 (gCons (gName 3) (gCons (gName 4) gNil))) (by rfl) nd (RZ.pi_zipA (by rfl) T.n_zip (pa_cons (pe_gc (by rfl) v_OWN) (pa_cons (pv 0) pa_nil))) (blkOk_by (N := ["kind", "way", "needed", "word", "caught"]) (sc := fnScope s_lacking) (by decide +kernel)) (fun _ _ _ _ _ => (pg_tup (by rfl) (pgs_cons (pg_name (i := 3) nd rfl (by first | exact Or.inl rfl | exact Or.inr rfl)) (pgs_cons (pg_name (i := 4) nd rfl (by first | exact Or.inl rfl | exact Or.inr rfl)) pgs_nil)))) (fun _ _ _ _ _ => (pts_one (PW.pt (pw_and (pt_cmpR (show OpR _ _ (rIn K false) from op_in_seq) (pv 3) (pv 2) (by rfl)) (pw_and1 (pt_not (pt_val (pv 4)))))))) (fun _ _ _ _ _ => (pv 3)))))), ?_⟩
    obtain ⟨ns, en⟩ : ∃ ns, ns = need way := ⟨_, rfl⟩
    rcases hw with rfl | rfl
    all_goals
      walk_at "b"
      refine Y.s_zip ?_
      walk_at "s"
      refine Y.s_lcZT (qO _) (SqT.of hp) (by rw [List.length_map, List.length_map, hl]; rfl) fun D hD => ⟨fun i acc Hx => Same H Hx ∧ acc = ((((ownW.zip bs).take i).filter fun q => ns.contains q.1 && !q.2).map (·.1)).map V.str, ?_, ?_, ?_, ?_⟩
      · exact ⟨by walk_at "sm", rfl⟩
      · rintro i acc Hx _ ⟨sx, _⟩
        exact ⟨qO _, SqT.of (sx _ _ hp)⟩
      · rintro i x y t acc Hx hx hy hl2 hD2 ⟨sx, rfl⟩ ht
        obtain ⟨z, hz, rfl⟩ : ∃ z, ownW[i]? = some z ∧ x = V.str z := by
          rw [List.getElem?_map] at hx
          cases e : ownW[i]? with
          | none => rw [e] at hx; cases hx
          | some u => rw [e] at hx; exact ⟨u, rfl, (Option.some.inj hx).symm⟩
        obtain ⟨c, hc, rfl⟩ : ∃ c, bs[i]? = some c ∧ y = V.bl c := by
          rw [List.getElem?_map] at hy
          cases e : bs[i]? with
          | none => rw [e] at hy; cases hy
          | some u => rw [e] at hy; exact ⟨u, rfl, (Option.some.inj hy).symm⟩
        have hi : i < 7 := by
          obtain ⟨h1, _⟩ := List.getElem?_eq_some_iff.mp hc
          rw [hl] at h1
          exact h1
        have ez : (ownW.zip bs)[i]? = some (z, c) := List.getElem?_zip_eq_some.mpr ⟨hz, hc⟩
        refine Y.s_gTup (SqT.of upd_same) rfl ?_
        refine Y.s_gCons ?_
        walk_at "s"
        refine Y.s_gCons ?_
        walk_at "s"
        refine Y.s_gNil ⟨rfl, ?_⟩
        walk_at "s"
        first
          | refine Y.s_inT (xs := needP.map V.str) (b := ns.contains z) (qP _) rfl (Y.flat_strs _) (by rw [en]; exact Y.inV_strs z needP) ?_
          | refine Y.s_inT (xs := needT.map V.str) (b := ns.contains z) (qT _) rfl (Y.flat_strs _) (by rw [en]; exact Y.inV_strs z needT) ?_
        refine Y.s_bl ?_
        have e6 : upd Hx t (.tup [.str z, .bl c]) D = some (.lst ((((ownW.zip bs).take i).filter fun q => ns.contains q.1 && !q.2).map (·.1) |>.map V.str)) := by walk_at "hp"
        have tk : (ownW.zip bs).take (i + 1) = (ownW.zip bs).take i ++ [(z, c)] := by rw [List.take_succ, ez]; rfl
        have sx2 : Same H (upd Hx t (.tup [.str z, .bl c])) := by walk_at "sm"
        cases h1 : ns.contains z with
        | false =>
          walk_at "s"
          refine Y.s_lcN e6 hl2 ⟨sx2, ?_⟩
          rw [tk, List.filter_append, List.filter_cons_of_neg (by rw [h1]; simp), List.filter_nil, List.append_nil]
        | true =>
          walk_at "s"
          cases c with
          | true =>
            walk_at "s"
            refine Y.s_lcN e6 hl2 ⟨sx2, ?_⟩
            rw [tk, List.filter_append, List.filter_cons_of_neg (by rw [h1]; simp), List.filter_nil, List.append_nil]
          | false =>
            walk_at "s"
            refine Y.s_lcE e6 hl2 (by omega) ⟨Y.same_own hD sx2, ?_⟩
            rw [tk, List.filter_append, List.filter_cons_of_pos (by rw [h1]; rfl), List.filter_nil, List.map_append, List.map_append]
            rfl
      · rintro acc Hx hD2 hl2 ⟨sx, rfl⟩
        walk_at "s"
        have el : (ownW.map V.str).length = (ownW.zip bs).length := by rw [List.length_map, List.length_zip, hl]; rfl
        rw [el, List.take_length, en] at hD2
        exact q D Hx sx hD hD2
end
end G
end
section
namespace G
open PySem L2 C8
section
variable {P : Program} {w : World} {K : PySem.W.Frag} {mg : Str → Option Value} {base : Heap}
theorem rep1_len (v : V) (k : Nat) : (List.replicate k [v]).flatten.length = k := by
  induction k with
  | zero => rfl
  | succ k ih => rw [List.replicate_succ, List.flatten_cons, List.length_append, ih, List.length_singleton]; omega
theorem len_zero (l : List Str) : decide ((((l.map V.str).length : Nat) : Int) = 0) = decide (l = []) := by
  cases l with
  | nil => rfl
  | cons a r => rw [decide_eq_false (p := a :: r = []) (fun z => nomatch z), decide_eq_false (by rw [List.length_map, List.length_cons]; omega)]
abbrev s_holds : Stmt := top 42
theorem sc_holds : FnScope ["kind", "way"] ["kind", "way"] (fnScope s_holds) := fnScope_by (by decide +kernel)
theorem ok_holds {f : Addr} {fd : FuncData} (F : Def K mg "holds" s_holds f fd) (b : Binds K fd ["kind", "way"] []) (T : Txt K mg)
    (c_check_kind : Cal P w K mg base 1 "check_kind" spCheckKind []) (c_check_way : Cal P w K mg base 1 "check_way" spCheckWay []) (c_lacking : Cal P w K mg base 1 "lacking" spLacking []) : Cal P w K mg base 2 "holds" spHolds [] := by
  refine cal0 F b .nil sc_holds (fun vs H Q E h => ?_) (fun cdv A outer s H vs Q E hr h => ?_)
  · obtain ⟨a, bs, way, rfl, _⟩ := h
    rfl
  · obtain ⟨p, bs, way, rfl, hk, hw, q⟩ := h
    have nd := sc_holds.nd
    refine ⟨_, (pss_cons (ps_expr (pe_c c_check_kind hr (by first | decide | omega) (by rfl) (pa_cons (pv 0) pa_nil)))
      (pss_cons (ps_expr (pe_c c_check_way hr (by first | decide | omega) (by rfl) (pa_cons (pv 1) pa_nil)))
      (pss_one (ps_ret (pe_cmpR op_eq (pe_callB Y.cl_len (by rfl) T.n_len PySem.boot_len (pa_cons (pe_c c_lacking hr (by first | decide | omega) (by rfl) (pa_cons (pv 0) (pa_cons (pv 1) pa_nil))) pa_nil)) pe_int (nomark _)))))), ?_⟩
    walk_at "b"
    refine u_ckind hk fun H1 s1 => ?_
    walk_at "s"
    refine u_cway hw fun H2 s2 => ?_
    walk_at "s"
    refine u_lacking ((hk.mono s1).mono s2) hw fun l H3 s3 hn hl => ?_
    walk_at "s"
    rw [len_zero]
    exact q _ ((s1.trans s2).trans s3)
end
end G
end
section
namespace G
open PySem L2 C8
/-! ### unlike: the told cells, in full -/
/-- the row that gives a guest away -/
def ownR (z : Str) : Row := if z = "hear" then .hear 0 else if z = "which" then .which 0 else if z = "enter" then .enter 0 else if z = "alarm" then .alarm 0 else if z = "stop" then .stop else .say 0
def before (way : Str) : List Row := if way = "plain" then [.put 0 1] else [.put 1 16, .put 2 3, .enter 0]
/-- the rows that are told, one for each -/
def told (way z : Str) : List Row := before way ++ [ownR z]
def Told (way z : Str) (ts : List Thing) : Prop := ∃ ps : List Addr, ps.length = (told way z).length ∧ ts = (ps.zip (told way z)).map (fun q => Thing.row q.1 q.2) ++ List.replicate (16 - (told way z).length) (Thing.num 0)
def spOwnRowX (K : PySem.W.Frag) : Sp := fun vs H Q _ => ∃ z, vs = [.str z] ∧ z ∈ needP ∧ ∀ a H', Same H H' → H a = none → H' a = some (.tup (ownR z).vs) → Q (.ref a) H'
def spUnlikeX (K : PySem.W.Frag) : Sp := fun vs H Q _ => ∃ p bs way, vs = [.ref p, .str way] ∧ KindAt H p bs ∧ WayT way ∧ (lackL bs way = [] → ∀ H', Same H H' → Q .non H') ∧
  (∀ z r, lackL bs way = z :: r → z ∈ need way → ∀ t pc pe ts H', Same H H' → H t = none → H pc = none → H pe = none → H' t = some (.tup [.ref pc, .ref pe, .int ((told way z).length : Nat)]) → H' pc = some (.lst (ts.map Thing.v)) → H' pe = some (.lst [.int 2]) → pc ≠ pe → Things K H' ts → Told way z ts → Q (.ref t) H')
theorem none13 {H H' : Hp} {p : Addr} (s : Same H H') (h : H' p = none) : H p = none := by
  cases e : H p with
  | none => rfl
  | some o => rw [s p o e] at h; cases h
theorem lack_need {bs : List Bool} {way : Str} {z : Str} {r : List Str} (e : lackL bs way = z :: r) : z ∈ need way := by
  have h : z ∈ lackL bs way := by rw [e]; exact .head _
  unfold lackL at h
  obtain ⟨q, hq, rfl⟩ := List.mem_map.mp h
  obtain ⟨_, h2⟩ := List.mem_filter.mp hq
  rw [Bool.and_eq_true] at h2
  exact List.contains_iff_mem.mp h2.1
theorem need_sub {way z : Str} (hw : WayT way) (h : z ∈ need way) : z ∈ needP := by
  rcases hw with rfl | rfl
  · exact h
  · have h2 : z ∈ needT := h
    simp only [needT, needP, List.mem_cons, List.not_mem_nil, or_false] at h2 ⊢
    rcases h2 with e | e
    · exact .inl e
    · exact .inr (.inl e)
section
variable {P : Program} {w : World} {K : PySem.W.Frag} {mg : Str → Option Value} {base : Heap}
abbrev s_own_row : Stmt := top 45
theorem sc_own_row : FnScope ["word"] ["word"] (fnScope s_own_row) := fnScope_by (by decide +kernel)
theorem ok_own_row {f : Addr} {fd : FuncData} (F : Def K mg "own_row" s_own_row f fd) (b : Binds K fd ["word"] []) (T : Txt K mg) : Cal P w K mg base 1 "own_row" (spOwnRowX K) [] := by
  refine cal0 F b .nil sc_own_row (fun vs H Q E h => ?_) (fun cdv A outer s H vs Q E hr h => ?_)
  · obtain ⟨a, rfl, _⟩ := h
    rfl
  · obtain ⟨z, rfl, hz, q⟩ := h
    have nd := sc_own_row.nd
    refine ⟨_, (pss_one (ps_ret (pe_ifExp (pt_cmpR op_eq (pv 0) pe_str (nomark _)) (pe_tup (pa_cons (pv 0) pa_nil)) (pe_tup (pa_cons (pv 0) (pa_cons pe_int pa_nil)))))), ?_⟩
    simp only [needP, List.mem_cons, List.not_mem_nil, or_false] at hz
    rcases hz with rfl | rfl | rfl | rfl | rfl | rfl
    all_goals
      walk_at "b"
      refine Y.s_new rfl fun p1 hp1 => ?_
      walk_at "s"
      exact q p1 _ (by walk_at "sm") hp1 upd_same
abbrev s_unlike : Stmt := top 43
theorem sc_unlike : FnScope ["kind", "way", "word", "before", "rows"] ["kind", "way"] (fnScope s_unlike) := fnScope_by (by decide +kernel)
theorem told_is {a : Addr} {ps : List Addr} {way z : Str} (e : ps.length = (before way).length) : (((ps ++ [a]).zip (told way z)).map (fun q => Thing.row q.1 q.2) ++ List.replicate (16 - (told way z).length) (Thing.num 0)).map Thing.v = (ps.map V.ref ++ [V.ref a]) ++ List.replicate (16 - (told way z).length) (V.int 0) := by
  unfold told
  rw [List.zip_append e, List.map_append, List.map_append, List.map_append, List.map_replicate]
  congr 2
  rw [List.map_map]
  have h : ∀ (ps : List Addr) (rs : List Row), ps.length = rs.length → (ps.zip rs).map (Thing.v ∘ fun q => Thing.row q.1 q.2) = ps.map V.ref := by
    intro ps
    induction ps with
    | nil => intro rs _; rfl
    | cons p r ih =>
      intro rs h
      cases rs with
      | nil => cases h
      | cons q rs =>
        exact congrArg (V.ref p :: ·) (ih rs (Nat.succ.inj h))
  exact h ps _ e
theorem told_th {H : Hp} {a : Addr} {ps : List Addr} {way z : Str} (e : ps.length = (before way).length) (h : ∀ (i : Nat) p r, ps[i]? = some p → (before way)[i]? = some r → TpAt K H p r.vs ∧ r.ok) (ha : TpAt K H a (ownR z).vs) (ho : (ownR z).ok) : Things K H (((ps ++ [a]).zip (told way z)).map (fun q => Thing.row q.1 q.2) ++ List.replicate (16 - (told way z).length) (Thing.num 0)) := by
  unfold told
  rw [List.zip_append e, List.map_append]
  refine things_app (things_app (fun t m => ?_) (fun t m => ?_)) (fun t m => ?_)
  · obtain ⟨q, hq, rfl⟩ := List.mem_map.mp m
    obtain ⟨i, hi⟩ := List.mem_iff_getElem?.mp hq
    obtain ⟨h1, h2⟩ := List.getElem?_zip_eq_some.mp hi
    exact h i _ _ h1 h2
  · have m2 : t = Thing.row a (ownR z) := by simpa using m
    rw [m2]
    exact ⟨ha, ho⟩
  · rw [List.eq_of_mem_replicate m]
    exact ⟨by decide, by decide⟩
theorem ownR_ok {z : Str} : (ownR z).ok := by
  unfold ownR
  repeat' split
  all_goals first | exact ⟨by decide, by decide⟩ | exact True.intro
theorem rep1 (v : V) (k : Nat) : (List.replicate k [v]).flatten = List.replicate k v := by
  induction k with
  | zero => rfl
  | succ k ih => rw [List.replicate_succ, List.flatten_cons, ih, List.replicate_succ]; rfl
theorem ok_unlike {f : Addr} {fd : FuncData} {a1 b1 b2 b3 : Addr} (F : Def K mg "unlike" s_unlike f fd) (b : Binds K fd ["kind", "way"] []) (T : Txt K mg) (v_PLAIN : StrG mg "PLAIN" "plain") (v_MANY_CELLS : IntG mg "MANY_CELLS" 16)
    (t1 : TupG K mg "WAY_IN_HIGH" [.ref a1]) (t2 : TupG K mg "WAY_INTO_LOW" [.ref b1, .ref b2, .ref b3]) (t_WAY_IN_HIGH_0 : ∀ H : Hp, SqT K H a1 [.str "put", .int 0, .int 1]) (t_WAY_INTO_LOW_0 : ∀ H : Hp, SqT K H b1 [.str "put", .int 1, .int 16]) (t_WAY_INTO_LOW_1 : ∀ H : Hp, SqT K H b2 [.str "put", .int 2, .int 3]) (t_WAY_INTO_LOW_2 : ∀ H : Hp, SqT K H b3 [.str "enter", .int 0])
    (c_holds : Cal P w K mg base 2 "holds" spHolds []) (c_own_row : Cal P w K mg base 1 "own_row" (spOwnRowX K) []) (c_lacking : Cal P w K mg base 1 "lacking" spLacking []) : Cal P w K mg base 3 "unlike" (spUnlikeX K) [] := by
  obtain ⟨a1', v_WAY_IN_HIGH, q1⟩ := t1
  obtain ⟨a2', v_WAY_INTO_LOW, q2⟩ := t2
  refine cal0 F b .nil sc_unlike (fun vs H Q E h => ?_) (fun cdv A outer s H vs Q E hr h => ?_)
  · obtain ⟨a, bs, way, rfl, _⟩ := h
    rfl
  · obtain ⟨p, bs, way, rfl, hk, hw, qn, q⟩ := h
    have nd := sc_unlike.nd
    refine ⟨_, (pss_cons (ps_if (pt_val (pe_c c_holds hr (by first | decide | omega) (by rfl) (pa_cons (pv 0) (pa_cons (pv 1) pa_nil))))
      (pss_one (ps_ret pe_non))
      pss_nil)
      (pss_cons (ps_set (i := 2) nd rfl (by first | exact Or.inl rfl | exact Or.inr rfl) (pe_ix ix_seq (pe_c c_lacking hr (by first | decide | omega) (by rfl) (pa_cons (pv 0) (pa_cons (pv 1) pa_nil))) pe_int (fun _ _ => rfl)))
      (pss_cons (ps_set (i := 3) nd rfl (by first | exact Or.inl rfl | exact Or.inr rfl) (pe_ifExp (pt_cmpR op_eq (pv 1) (pe_gc (by rfl) v_PLAIN) (nomark _)) (pe_gc (by rfl) v_WAY_IN_HIGH) (pe_gc (by rfl) v_WAY_INTO_LOW)))
      (pss_cons (ps_set (i := 4) nd rfl (by first | exact Or.inl rfl | exact Or.inr rfl) (pe_lst (StX.pa_star (pv 3) (pa_cons (pe_c c_own_row hr (by first | decide | omega) (by rfl) (pa_cons (pv 2) pa_nil)) pa_nil))))
      (pss_one (ps_ret (pe_tup (pa_cons (pe_op op_cat (pv 4) (pe_op op_rep (pe_lst (pa_cons pe_int pa_nil)) (pe_op op_sub (pe_gc (by rfl) v_MANY_CELLS) (pe_callB Y.cl_len (by rfl) T.n_len PySem.boot_len (pa_cons (pv 4) pa_nil))))) (pa_cons (pe_lst (pa_cons pe_int pa_nil)) (pa_cons (pe_callB Y.cl_len (by rfl) T.n_len PySem.boot_len (pa_cons (pv 4) pa_nil)) pa_nil)))))))))), ?_⟩
    walk_at "b"
    refine u_holds hk hw fun H1 s1 => ?_
    walk_at "s"
    refine Y.s_d2 (fun he => ?_) (fun he => ?_)
    · walk_at "s"
      exact qn he _ s1
    · walk_at "s"
      refine u_lacking (hk.mono s1) hw fun l H2 s2 hn hl => ?_
      obtain ⟨z, r, ez⟩ : ∃ z r, lackL bs way = z :: r := by
        cases e : lackL bs way with
        | nil => exact absurd e he
        | cons z r => exact ⟨z, r, rfl⟩
      have hz := lack_need ez
      have hzP := need_sub hw hz
      have q := q z r ez hz
      rw [ez] at hl
      walk_at "s"
      have s12 : Same H H2 := s1.trans s2
      refine Y.s_ixL (w := .str z) (SqL.of hl) (at_of (j := 0) rfl rfl) ?_
      walk_at "s"
      clear hk he ez
      have fin : ∀ (ps : List Addr) (a5 : Addr) H3, ps.length = (before way).length → (∀ (i : Nat) p r, ps[i]? = some p → (before way)[i]? = some r → TpAt K H3 p r.vs ∧ r.ok) → Same H2 H3 → H2 a5 = none → H3 a5 = some (.tup (ownR z).vs) → ∀ pr, H3 pr = none →
          ∀ p0, upd H3 pr (.lst (ps.map V.ref ++ [V.ref a5])) p0 = none → ∀ p9, upd (upd H3 pr (.lst (ps.map V.ref ++ [V.ref a5]))) p0 (.lst [.int 0]) p9 = none → True := fun _ _ _ _ _ _ _ _ _ _ _ _ _ _ => trivial
      clear fin
      have lo : (told way z).length = (before way).length + 1 := by unfold told; rw [List.length_append]; rfl
      have lb : (before way).length ≤ 3 := by unfold before; split <;> decide
      have tail : ∀ (ps : List Addr) (a5 pr pc pe t : Addr) H3 H4, ps.length = (before way).length → (∀ (i : Nat) p r, ps[i]? = some p → (before way)[i]? = some r → TpAt K H4 p r.vs ∧ r.ok) → Same H2 H3 → Same H3 H4 → H3 a5 = some (.tup (ownR z).vs) → H3 pc = none → H3 pe = none → H3 t = none → pc ≠ pe →
          H4 t = some (.tup [.ref pc, .ref pe, .int (((ps.map V.ref ++ [V.ref a5]).length : Nat))]) → H4 pc = some (.lst ((ps.map V.ref ++ [V.ref a5]) ++ List.replicate (16 - (told way z).length) (V.int 0))) → H4 pe = some (.lst [.int 2]) → Q (.ref t) H4 := fun ps a5 pr pc pe t H3 H4 e h s3 s4 ha n1 n2 n3 ne h1 h2 h3 => by
        have l1 : ((ps.map V.ref ++ [V.ref a5]).length : Int) = ((told way z).length : Nat) := by rw [lo, List.length_append, List.length_map, e]; rfl
        refine q t pc pe _ H4 ((s12.trans s3).trans s4) (none13 (s12.trans s3) n3) (none13 (s12.trans s3) n1) (none13 (s12.trans s3) n2) (by rw [← l1]; exact h1) ?_ h3 ne (told_th (a := a5) (ps := ps) e h (.inl (s4 _ _ ha)) ownR_ok) ⟨ps ++ [a5], by rw [lo, List.length_append, e]; rfl, rfl⟩
        rw [told_is e]; exact h2
      rcases hw with rfl | rfl
      · walk_at "s"
        refine Y.s_stq ?_
        walk_at "s"
        refine ⟨_, _, rfl, .inl (q1 _), ?_⟩
        walk_at "s"
        refine ⟨z, rfl, hzP, fun a5 H3 s3 na ha => ?_⟩
        walk_at "s"
        refine ⟨by show 2 ≤ _; decide, fun pr hpr => ?_⟩
        walk_at "s"
        refine Y.s_new rfl fun p0 hp0 => ?_
        walk_at "s"
        refine Y.s_rep (xs := [V.int 0]) upd_same (by show -2 ^ 63 ≤ (16 : Int) - ((2 : Nat) : Int); decide) (by show (16 : Int) - ((2 : Nat) : Int) < 2 ^ 63; decide) (by show 1 * ((16 : Int) - ((2 : Nat) : Int)).toNat ≤ _; decide) fun p9 hp9 => ?_
        refine Y.s_cat (by walk_at "hp") (by walk_at "hp") (by show 2 + (List.replicate ((16 : Int) - ((2 : Nat) : Int)).toNat [V.int 0]).flatten.length ≤ _; decide) fun p10 hp10 => ?_
        walk_at "s"
        refine Y.s_new rfl fun p11 hp11 => ?_
        walk_at "s"
        refine Y.s_new rfl fun p12 hp12 => ?_
        walk_at "s"
        refine tail [a1] a5 pr p10 p11 p12 H3 _ rfl ?_ s3 (by walk_at "sm") ha ?_ ?_ ?_ (ne_of_none upd_same hp11) upd_same (Eq.trans (b := some (HO.lst ([V.ref a1] ++ [V.ref a5] ++ (List.replicate ((16 : Int) - (([V.ref a1] ++ [V.ref a5]).length : Nat)).toNat [V.int 0]).flatten))) (by walk_at "hp") (by rw [rep1]; rfl)) (by walk_at "hp")
        · intro i p r e1 e2
          match i, e1, e2 with
          | 0, e1, e2 => cases e1; cases e2; exact ⟨.inr t_WAY_IN_HIGH_0, ⟨⟨by decide, by decide⟩, ⟨by decide, by decide⟩⟩⟩
        · exact none13 (by walk_at "sm") hp10
        · exact none13 (by walk_at "sm") hp11
        · exact none13 (by walk_at "sm") hp12
      · rw [if_neg (by decide)]
        walk_at "s"
        refine Y.s_stq ?_
        walk_at "s"
        refine ⟨_, _, rfl, .inl (q2 _), ?_⟩
        walk_at "s"
        refine ⟨z, rfl, hzP, fun a5 H3 s3 na ha => ?_⟩
        walk_at "s"
        refine ⟨by show 4 ≤ _; decide, fun pr hpr => ?_⟩
        walk_at "s"
        refine Y.s_new rfl fun p0 hp0 => ?_
        walk_at "s"
        refine Y.s_rep (xs := [V.int 0]) upd_same (by show -2 ^ 63 ≤ (16 : Int) - ((4 : Nat) : Int); decide) (by show (16 : Int) - ((4 : Nat) : Int) < 2 ^ 63; decide) (by show 1 * ((16 : Int) - ((4 : Nat) : Int)).toNat ≤ _; decide) fun p9 hp9 => ?_
        refine Y.s_cat (by walk_at "hp") (by walk_at "hp") (by show 4 + (List.replicate ((16 : Int) - ((4 : Nat) : Int)).toNat [V.int 0]).flatten.length ≤ _; decide) fun p10 hp10 => ?_
        walk_at "s"
        refine Y.s_new rfl fun p11 hp11 => ?_
        walk_at "s"
        refine Y.s_new rfl fun p12 hp12 => ?_
        walk_at "s"
        refine tail [b1, b2, b3] a5 pr p10 p11 p12 H3 _ rfl ?_ s3 (by walk_at "sm") ha ?_ ?_ ?_ (ne_of_none upd_same hp11) upd_same (Eq.trans (b := some (HO.lst ([V.ref b1, V.ref b2, V.ref b3] ++ [V.ref a5] ++ (List.replicate ((16 : Int) - (([V.ref b1, V.ref b2, V.ref b3] ++ [V.ref a5]).length : Nat)).toNat [V.int 0]).flatten))) (by walk_at "hp") (by rw [rep1]; rfl)) (by walk_at "hp")
        · intro i p r e1 e2
          match i, e1, e2 with
          | 0, e1, e2 => cases e1; cases e2; exact ⟨.inr t_WAY_INTO_LOW_0, ⟨⟨by decide, by decide⟩, ⟨by decide, by decide⟩⟩⟩
          | 1, e1, e2 => cases e1; cases e2; exact ⟨.inr t_WAY_INTO_LOW_1, ⟨⟨by decide, by decide⟩, ⟨by decide, by decide⟩⟩⟩
          | 2, e1, e2 => cases e1; cases e2; exact ⟨.inr t_WAY_INTO_LOW_2, ⟨by decide, by decide⟩⟩
        · exact none13 (by walk_at "sm") hp10
        · exact none13 (by walk_at "sm") hp11
        · exact none13 (by walk_at "sm") hp12
end
end G
end
section
namespace G
open PySem L2 C8
/-! ### a step, and many -/
def Mc.doRow (A : Adr) (m : Mc) (r : Row) : Mc := if m.high then { m with place := m.place + 1 }.act A r else ({ m with place := m.place + 1 }.act A r).lessens
def Mc.step1 (A : Adr) (m : Mc) : Mc := if m.caught A.bs = 0 then match m.at_ m.place with
  | some (.row _ r) => m.doRow A r
  | _ => m else m.catch_ (m.caught A.bs)
def Mc.step (A : Adr) (m : Mc) : Mc := Mc.step1 A { m with steps := m.steps + 1 }
theorem act_high {A : Adr} {m : Mc} (h : m.high = false) (r : Row) : (m.act A r).high = false := by
  cases r with
  | load b c => dsimp only [Mc.act]; split <;> exact h
  | store c b => dsimp only [Mc.act]; split <;> exact h
  | zero b n => dsimp only [Mc.act]; split <;> exact h
  | say b => dsimp only [Mc.act]; split <;> exact h
  | hear b =>
    dsimp only [Mc.act]
    split
    · exact h
    · unfold Mc.hears; split <;> exact h
  | which b =>
    dsimp only [Mc.act]
    split
    · exact h
    · rw [if_neg (by rw [h]; exact Bool.false_ne_true)]; exact h
  | enter b =>
    dsimp only [Mc.act]
    split
    · exact h
    · rw [if_neg (by rw [h]; exact Bool.false_ne_true)]; exact h
  | alarm b =>
    dsimp only [Mc.act]
    split
    · exact h
    · rw [if_neg (by rw [h]; exact Bool.false_ne_true)]; exact h
  | stop  =>
    dsimp only [Mc.act]
    split
    · exact h
    · rw [if_neg (by rw [h]; exact Bool.false_ne_true)]; exact h
  | put b n => exact h
  | add b c d => exact h
  | less b c d => exact h
  | go n => exact h
  | call n => exact h
  | room b => exact h
theorem act_said {A : Adr} {m : Mc} (r : Row) : (m.act A r).said.length ≤ m.said.length + 1 ∧ (m.act A r).gsaid.length ≤ m.gsaid.length + 1 := by
  cases r <;> dsimp only [Mc.act] <;> (try split) <;> (try split) <;> first
    | exact ⟨Nat.le_succ _, Nat.le_succ _⟩
    | exact ⟨by rw [List.length_append]; exact Nat.le_refl _, Nat.le_succ _⟩
    | exact ⟨Nat.le_succ _, by rw [List.length_append]; exact Nat.le_refl _⟩
    | (unfold Mc.hears; split <;> exact ⟨Nat.le_succ _, Nat.le_succ _⟩)
    | (unfold Mc.enters; split <;> exact ⟨Nat.le_succ _, Nat.le_succ _⟩)
theorem catch_said {m : Mc} (n : Int) : (m.catch_ n).said = m.said ∧ (m.catch_ n).gsaid = m.gsaid := by
  unfold Mc.catch_ Mc.mkHigh
  split
  · exact ⟨rfl, rfl⟩
  · split <;> exact ⟨rfl, rfl⟩
theorem lessens_said {m : Mc} : m.lessens.said = m.said ∧ m.lessens.gsaid = m.gsaid := by
  unfold Mc.lessens
  split
  · split
    · exact catch_said (m := { m with alarm := 0 }) 4
    · exact ⟨rfl, rfl⟩
  · exact ⟨rfl, rfl⟩
theorem doRow_said {A : Adr} {m : Mc} (r : Row) : (m.doRow A r).said.length ≤ m.said.length + 1 ∧ (m.doRow A r).gsaid.length ≤ m.gsaid.length + 1 := by
  unfold Mc.doRow
  split
  · exact act_said (m := { m with place := m.place + 1 }) r
  · rw [lessens_said.1, lessens_said.2]
    exact act_said (m := { m with place := m.place + 1 }) r
theorem step_said {A : Adr} {m : Mc} : (m.step A).said.length ≤ m.said.length + 1 ∧ (m.step A).gsaid.length ≤ m.gsaid.length + 1 := by
  unfold Mc.step Mc.step1
  split
  · split
    · exact doRow_said (m := { m with steps := m.steps + 1 }) _
    · exact ⟨Nat.le_succ _, Nat.le_succ _⟩
  · rw [(catch_said _).1, (catch_said _).2]
    exact ⟨Nat.le_succ _, Nat.le_succ _⟩
theorem lowN_cases (bs : List Bool) (z : Str) : (z = "call" ∧ lowN bs z = 5) ∨ lowN bs z = 0 ∨ lowN bs z = 1 := by
  unfold lowN
  split
  · rename_i h; exact .inl ⟨h, rfl⟩
  · split
    · split
      · exact .inr (.inr rfl)
      · exact .inr (.inl rfl)
    · exact .inr (.inl rfl)
theorem word_call {r : Row} : r.word = "call" → ∃ n, r = .call n := by
  cases r <;> dsimp only [Row.word] <;> intro h <;> first | exact ⟨_, rfl⟩ | exact absurd h (by decide +kernel)
/-- what is caught, and what isn't -/
theorem caught_cases {A : Adr} {m : Mc} (w : m.Wf A) : (m.caught A.bs = 0 ∧ m.place < m.w1 ∧ ∃ p r, m.at_ m.place = some (.row p r) ∧ Thing.row p r ∈ m.cells ∧ m.reaches r = false) ∨
    (m.caught A.bs ≠ 0 ∧ 0 ≤ m.caught A.bs ∧ m.caught A.bs ≤ 5 ∧ (m.high = true → m.caught A.bs = 2 ∨ m.caught A.bs = 3) ∧ (m.caught A.bs = 5 → m.place < m.w1 ∧ ∃ p c, m.at_ m.place = some (.row p (.call c)) ∧ Thing.row p (.call c) ∈ m.cells)) := by
  unfold Mc.caught
  by_cases h1 : m.w1 ≤ m.place
  · rw [if_pos h1]
    exact .inr ⟨by decide, by decide, by decide, fun _ => .inl rfl, fun z => absurd z (by decide)⟩
  · rw [if_neg h1]
    obtain ⟨t, et, mt⟩ := Mc.at_some w w.pl.1 (Int.not_le.mp h1)
    rw [et]
    cases t with
    | num n =>
      dsimp only
      exact .inr ⟨by decide, by decide, by decide, fun _ => .inr rfl, fun z => absurd z (by decide)⟩
    | row p r =>
      dsimp only
      cases hr : m.reaches r with
      | true =>
        rw [if_pos rfl]
        exact .inr ⟨by decide, by decide, by decide, fun _ => .inl rfl, fun z => absurd z (by decide)⟩
      | false =>
        rw [if_neg Bool.false_ne_true]
        cases hh : m.high with
        | true =>
          rw [if_pos rfl]
          exact .inl ⟨rfl, Int.not_le.mp h1, p, r, rfl, mt, hr⟩
        | false =>
          rw [if_neg Bool.false_ne_true]
          rcases lowN_cases A.bs r.word with ⟨hz, e⟩ | e | e
          · rw [e]
            obtain ⟨n, rfl⟩ := word_call hz
            exact .inr ⟨by decide, by decide, by decide, fun z => absurd z Bool.false_ne_true, fun _ => ⟨Int.not_le.mp h1, p, n, rfl, mt⟩⟩
          · rw [e]
            exact .inl ⟨rfl, Int.not_le.mp h1, p, r, rfl, mt, hr⟩
          · rw [e]
            exact .inr ⟨by decide, by decide, by decide, fun z => absurd z Bool.false_ne_true, fun z => absurd z (by decide)⟩
end G
end
section
namespace G
open PySem L2 C8
variable {K : PySem.W.Frag}
def sp_do_row {K : PySem.W.Frag} (Z : Zs K) : Sp := fun vs H Q _ => ∃ (A : Adr) (m : Mc) (p : Addr) (r : Row), vs = [.ref A.pb, .ref p] ∧ BodyAt Z H A m ∧ (Thing.row p r).At K H ∧ m.reaches r = false ∧ m.place < m.w1 ∧ m.said.length < 90000 ∧ m.gsaid.length < 90000 ∧ ∀ H', FrS A.own H H' → BodyAt Z H' A (m.doRow A r) → Q .non H'
def sp_do_step {K : PySem.W.Frag} (Z : Zs K) : Sp := fun vs H Q _ => ∃ (A : Adr) (m : Mc), vs = [.ref A.pb] ∧ BodyAt Z H A m ∧ m.said.length < 90000 ∧ m.gsaid.length < 90000 ∧ ∀ H', FrS A.own H H' → BodyAt Z H' A (m.step A) → Q .non H'
/-- so many steps, or fewer if it stops: the machine, how many -/
def Mc.goes (A : Adr) : Nat → Mc → Mc × Nat
  | 0, m => (m, 0)
  | n + 1, m => if m.why = "" then ((Mc.goes A n (m.step A)).1, (Mc.goes A n (m.step A)).2 + 1) else (m, 0)
def sp_let_go {K : PySem.W.Frag} (Z : Zs K) : Sp := fun vs H Q _ => ∃ (A : Adr) (m : Mc) (n : Nat), vs = [.ref A.pb, .int (n : Nat)] ∧ n ≤ 1000 ∧ BodyAt Z H A m ∧ m.said.length + n ≤ 90000 ∧ m.gsaid.length + n ≤ 90000 ∧ ∀ H', FrS A.own H H' → BodyAt Z H' A (m.goes A n).1 → Q (.int ((m.goes A n).2 : Nat)) H'
theorem own_tup {K : PySem.W.Frag} {Z : Zs K} {H : Hp} {A : Adr} {m : Mc} (k : BodyAt Z H A m) {p : Addr} {xs : List V} (hp : p ∈ A.own) (e : H p = some (.tup xs)) : False := by
  obtain ⟨⟨pw, h, hw⟩, _⟩ := k
  have h5 : ∀ x ∈ A.objs Z pw m, H x.1 = some x.2 := h
  unfold Adr.own at hp
  rcases List.mem_cons.mp hp with rfl | hp
  · have := h5 _ (.head _); rw [e] at this; cases this
  rcases List.mem_cons.mp hp with rfl | hp
  · have := h5 _ (.tail _ (.head _)); rw [e] at this; cases this
  rcases List.mem_cons.mp hp with rfl | hp
  · have := h5 _ (.tail _ (.tail _ (.head _))); rw [e] at this; cases this
  rcases List.mem_cons.mp hp with rfl | hp
  · have := h5 _ (.tail _ (.tail _ (.tail _ (.head _)))); rw [e] at this; cases this
  rcases List.mem_cons.mp hp with rfl | hp
  · have := h5 _ (.tail _ (.tail _ (.tail _ (.tail _ (.head _))))); rw [e] at this; cases this
  cases hg : A.grd with
  | none => rw [hg] at hp; cases hp
  | some g =>
    rw [hg] at hp
    rcases List.mem_cons.mp hp with rfl | hp
    · have hm : (g.pgs, HO.lst (m.gsaid.map V.int)) ∈ A.objs Z pw m := by
        unfold Adr.objs
        rw [hg]
        exact .tail _ (.tail _ (.tail _ (.tail _ (.tail _ (.head _)))))
      have := h5 _ hm
      rw [e] at this; cases this
    · cases hp
section
variable {P : Program} {w : World} {K : PySem.W.Frag} {mg : Str → Option Value} {base : Heap} {Z : Zs K}
theorem u_dorow {H : Hp} {Q : VK} {E : XK} {A : Adr} {m : Mc} {p : Addr} {r : Row} (k : BodyAt Z H A m) (h : (Thing.row p r).At K H) (hr : m.reaches r = false) (hp : m.place < m.w1) (h1 : m.said.length < 90000) (h2 : m.gsaid.length < 90000) (q : ∀ H', FrS A.own H H' → BodyAt Z H' A (m.doRow A r) → Q .non H') : sp_do_row Z ([.ref A.pb, .ref p] ++ []) H Q E := ⟨A, m, p, r, rfl, k, h, hr, hp, h1, h2, q⟩
theorem u_lessen {H : Hp} {Q : VK} {E : XK} {A : Adr} {m : Mc} (k : BodyAt Z H A m) (h : m.high = false) (q : ∀ H', FrS A.own H H' → BodyAt Z H' A m.lessens → Q .non H') : sp_lessen Z ([.ref A.pb] ++ []) H Q E := ⟨A, m, rfl, k, h, q⟩
theorem u_dostep {H : Hp} {Q : VK} {E : XK} {A : Adr} {m : Mc} (k : BodyAt Z H A m) (h1 : m.said.length < 90000) (h2 : m.gsaid.length < 90000) (q : ∀ H', FrS A.own H H' → BodyAt Z H' A (m.step A) → Q .non H') : sp_do_step Z ([.ref A.pb] ++ []) H Q E := ⟨A, m, rfl, k, h1, h2, q⟩
theorem u_letgo {H : Hp} {Q : VK} {E : XK} {A : Adr} {m : Mc} {n : Int} (k : BodyAt Z H A m) (h0 : 0 ≤ n) (hn : n ≤ 1000) (h1 : m.said.length + n.toNat ≤ 90000) (h2 : m.gsaid.length + n.toNat ≤ 90000) (q : ∀ H', FrS A.own H H' → BodyAt Z H' A (m.goes A n.toNat).1 → Q (.int ((m.goes A n.toNat).2 : Nat)) H') : sp_let_go Z ([.ref A.pb, .int n] ++ []) H Q E :=
  ⟨A, m, n.toNat, by rw [Int.toNat_of_nonneg h0]; rfl, by omega, k, h1, h2, q⟩
abbrev s_do_row : Stmt := top 81
theorem sc_do_row : FnScope ["body", "row", "in_low"] ["body", "row"] (fnScope s_do_row) := fnScope_by (by decide +kernel)
theorem ok_do_row {f : Addr} {fd : FuncData} (F : Def K mg "do_row" s_do_row f fd) (b : Binds K fd ["body", "row"] []) (T : Txt K mg) (c_act : Cal P w K mg base 11 "act" (spAct Z) []) (c_lessen_alarm : Cal P w K mg base 10 "lessen_alarm" (sp_lessen Z) []) : Cal P w K mg base 12 "do_row" (sp_do_row Z) [] := by
  refine cal0 F b .nil sc_do_row (fun vs H Q E h => ?_) (fun cdv A outer s H vs Q E hr h => ?_)
  · obtain ⟨A, m, p, r, rfl, _⟩ := h
    rfl
  · obtain ⟨A, m, p, r, rfl, k, hat, hre, hpw, h1, h2, q⟩ := h
    have nd := sc_do_row.nd
    refine ⟨_, (pss_cons (ps_set (i := 2) nd rfl (by first | exact Or.inl rfl | exact Or.inr rfl) (pe_not (pe_fld (pv 0) rfl)))
      (pss_cons (ps_fldaug (pv 0) pe_int in_add)
      (pss_cons (ps_expr (pe_c c_act hr (by first | decide | omega) (by rfl) (pa_cons (pv 0) (pa_cons (pv 1) pa_nil))))
      (pss_one (ps_if (pt_val (pv 2))
      (pss_one (ps_expr (pe_c c_lessen_alarm hr (by first | decide | omega) (by rfl) (pa_cons (pv 0) pa_nil))))
      pss_nil))))), ?_⟩
    obtain ⟨pw, e0, ew⟩ := k.ins
    unfold Mc.doRow at q
    walk_at "b"
    refine Y.s_fld ?_
    walk_at "s"
    refine body_fld e0 6 rfl rfl ?_
    walk_at "s"
    refine Y.s_aug ?_
    walk_at "s"
    refine body_aug (y := .int 1) (z := .int (m.place + 1)) (m' := { m with place := m.place + 1 }) 5 rfl k (fun _ => rfl) (fun R h => by walk_at "s"; exact h) (fun R h => ⟨_, _, rfl, rfl, h⟩) (fun _ => rfl) rfl rfl rfl rfl rfl rfl rfl (k.wf.place_ ⟨by have := k.wf.pl.1; omega, by have := k.wf.win; have := k.wf.w0; have := k.wf.n40; omega⟩) fun H1 f1 k1 => ?_
    have hre1 : ({ m with place := m.place + 1 } : Mc).reaches r = false := by rw [← hre]; cases r <;> rfl
    have hat1 : (Thing.row p r).At K H1 := by
      refine ⟨?_, hat.2⟩
      rcases hat.1 with h | h
      · exact .inl (f1 p _ (fun z => own_tup k z h) h)
      · exact .inr h
    walk_at "s"
    refine u_act k1 hat1 hre1 (by show 1 ≤ m.place + 1; have := k.wf.pl.1; omega) h1 h2 fun H2 f2 k2 => ?_
    walk_at "s"
    cases hh : m.high with
    | true =>
      rw [if_pos hh] at q
      walk_at "s"
      exact q _ (f1.trans f2) k2
    | false =>
      rw [if_neg (by rw [hh]; exact Bool.false_ne_true)] at q
      walk_at "s"
      refine u_lessen k2 (act_high (m := { m with place := m.place + 1 }) hh r) fun H3 f3 k3 => ?_
      walk_at "s"
      exact q _ ((f1.trans f2).trans f3) k3
abbrev s_do_step : Stmt := top 71
theorem sc_do_step : FnScope ["body", "number"] ["body"] (fnScope s_do_step) := fnScope_by (by decide +kernel)
theorem ok_do_step {f : Addr} {fd : FuncData} (F : Def K mg "do_step" s_do_step f fd) (b : Binds K fd ["body"] []) (T : Txt K mg) (v_NOTHING : IntG mg "NOTHING" 0) (c_caught_at_place : Cal P w K mg base 9 "caught_at_place" (spCaught Z) []) (c_row_at_place : Cal P w K mg base 8 "row_at_place" (spRowAt Z) []) (c_do_row : Cal P w K mg base 12 "do_row" (sp_do_row Z) []) (c_catch : Cal P w K mg base 9 "catch" (spCatch Z) []) : Cal P w K mg base 13 "do_step" (sp_do_step Z) [] := by
  refine cal0 F b .nil sc_do_step (fun vs H Q E h => ?_) (fun cdv A outer s H vs Q E hr h => ?_)
  · obtain ⟨A, m, rfl, _⟩ := h
    rfl
  · obtain ⟨A, m, rfl, k, h1, h2, q⟩ := h
    have nd := sc_do_step.nd
    refine ⟨_, (pss_cons (ps_fldaug (pv 0) pe_int in_add)
      (pss_cons (ps_set (i := 1) nd rfl (by first | exact Or.inl rfl | exact Or.inr rfl) (pe_c c_caught_at_place hr (by first | decide | omega) (by rfl) (pa_cons (pv 0) pa_nil)))
      (pss_one (ps_if (pt_cmpR op_eq (pv 1) (pe_gc (by rfl) v_NOTHING) (nomark _))
      (pss_one (ps_expr (pe_c c_do_row hr (by first | decide | omega) (by rfl) (pa_cons (pv 0) (pa_cons (pe_c c_row_at_place hr (by first | decide | omega) (by rfl) (pa_cons (pv 0) pa_nil)) pa_nil)))))
      (pss_one (ps_expr (pe_c c_catch hr (by first | decide | omega) (by rfl) (pa_cons (pv 0) (pa_cons (pv 1) pa_nil))))))))), ?_⟩
    unfold Mc.step at q
    walk_at "b"
    refine Y.s_aug ?_
    walk_at "s"
    refine body_aug (y := .int 1) (z := .int (m.steps + 1)) (m' := { m with steps := m.steps + 1 }) 12 rfl k (fun _ => rfl) (fun R h => by walk_at "s"; exact h) (fun R h => ⟨_, _, rfl, rfl, h⟩) (fun _ => rfl) rfl rfl rfl rfl rfl rfl rfl (k.wf.steps_ _) fun H1 f1 k1 => ?_
    obtain ⟨m1, em⟩ : ∃ m1 : Mc, m1 = { m with steps := m.steps + 1 } := ⟨_, rfl⟩
    have e1 : m1.said = m.said := by rw [em]
    have e2 : m1.gsaid = m.gsaid := by rw [em]
    rw [← em] at k1 q
    unfold Mc.step1 at q
    walk_at "s"
    refine u_caught k1 ?_
    walk_at "s"
    rcases caught_cases k1.wf with ⟨hc, hp, p, r, et, mt, hre⟩ | ⟨hc, h0, h5, hh, h5c⟩
    · rw [if_pos hc, et] at q
      refine Y.s_dT hc ?_
      walk_at "s"
      refine u_rowat k1 hp et ?_
      dsimp only [Thing.v]
      walk_at "s"
      refine u_dorow k1 (cells_in k1 _ mt) hre hp (by rw [e1]; exact h1) (by rw [e2]; exact h2) fun H2 f2 k2 => ?_
      walk_at "s"
      exact q _ (f1.trans f2) k2
    · rw [if_neg hc] at q
      refine Y.s_dF hc ?_
      walk_at "s"
      refine u_catch k1 h0 h5 hh (fun z => ?_) fun H2 f2 k2 => ?_
      · obtain ⟨g1, p, c, g2, g3⟩ := h5c z
        exact ⟨g1, p, c, g2, (cells_in k1 _ g3).2⟩
      walk_at "s"
      exact q _ (f1.trans f2) k2
end
end G
end
section
namespace G
open PySem L2 C8
theorem goes_add (A : Adr) : ∀ (d n : Nat) (m : Mc), m.why = "" → m.goes A (n + 1) = (((m.step A).goes A n).1, ((m.step A).goes A n).2 + 1) := fun _ n m h => by
  show (if m.why = "" then _ else _) = _
  rw [if_pos h]
theorem goes_stop (A : Adr) (n : Nat) {m : Mc} (h : m.why ≠ "") : m.goes A n = (m, 0) := by
  cases n with
  | zero => rfl
  | succ n =>
    show (if m.why = "" then _ else _) = _
    rw [if_neg h]
section
variable {P : Program} {w : World} {K : PySem.W.Frag} {mg : Str → Option Value} {base : Heap} {Z : Zs K}
abbrev s_let_go : Stmt := top 70
theorem sc_let_go : FnScope ["body", "many", "done"] ["body", "many"] (fnScope s_let_go) := fnScope_by (by decide +kernel)
theorem ok_let_go {f : Addr} {fd : FuncData} (F : Def K mg "let_go" s_let_go f fd) (b : Binds K fd ["body", "many"] []) (T : Txt K mg) (c_do_step : Cal P w K mg base 13 "do_step" (sp_do_step Z) []) : Cal P w K mg base 14 "let_go" (sp_let_go Z) [] := by
  refine cal0 F b .nil sc_let_go (fun vs H Q E h => ?_) (fun cdv A outer s H vs Q E hr h => ?_)
  · obtain ⟨A, m, n, rfl, _⟩ := h
    rfl
  · obtain ⟨A, m, n, rfl, hn, k, h1, h2, q⟩ := h
    have nd := sc_let_go.nd
    refine ⟨_, (pss_cons (ps_set (i := 2) nd rfl (by first | exact Or.inl rfl | exact Or.inr rfl) pe_int)
      (pss_cons (ps_while PassesOwn.never (PW.pt (pw_and (pt_cmpR op_lt (pv 2) (pv 1) (nomark _)) (pw_and1 (pt_cmpR op_eq (pe_fld (pv 0) rfl) pe_str (nomark _)))))
      (pss_cons (ps_expr (pe_c c_do_step hr (by first | decide | omega) (by rfl) (pa_cons (pv 0) pa_nil)))
      (pss_one (ps_aug (i := 2) nd rfl (by first | exact Or.inl rfl | exact Or.inr rfl) pe_int ip_add))))
      (pss_one (ps_ret (pv 2))))), ?_⟩
    walk_at "b"
    refine ⟨fun μ σ H' => ∃ (d : Nat) (m' : Mc), μ = n - d ∧ d ≤ n ∧ σ = [some (.ref A.pb), some (.int (n : Nat)), some (.int (d : Nat))] ∧ FrS A.own H H' ∧ BodyAt Z H' A m' ∧ m'.said.length ≤ m.said.length + d ∧ m'.gsaid.length ≤ m.gsaid.length + d ∧ (m.goes A n).1 = (m'.goes A (n - d)).1 ∧ (m.goes A n).2 = (m'.goes A (n - d)).2 + d,
      ⟨n, 0, m, rfl, Nat.zero_le _, rfl, FrS.refl, k, Nat.le_refl _, Nat.le_refl _, rfl, rfl⟩, ?_⟩
    rintro μ σ H1 ⟨d, m', rfl, hd, rfl, f1, k1, g1, g2, e1, e2⟩
    obtain ⟨pw1, e01, _⟩ := k1.ins
    walk_at "s"
    refine Y.s_d2 (fun hlt => ?_) (fun hlt => ?_)
    · walk_at "s"
      refine Y.s_fld ?_
      walk_at "s"
      refine body_fld e01 11 rfl rfl ?_
      walk_at "s"
      refine Y.s_d2 (fun hw => ?_) (fun hw => ?_)
      · have hd' : n - d = (n - (d + 1)) + 1 := by omega
        rw [hd', goes_add A d (n - (d + 1)) m' hw] at e1 e2
        obtain ⟨s1, s2⟩ := step_said (A := A) (m := m')
        refine ⟨fun σ' H2 => ∃ (m2 : Mc), σ' = [some (.ref A.pb), some (.int (n : Nat)), some (.int ((d : Nat) + 1))] ∧ FrS A.own H H2 ∧ BodyAt Z H2 A m2 ∧ m2 = m'.step A, ?_, ?_⟩
        · rintro σ' H2 ⟨m2, rfl, f2, k2, rfl⟩
          exact ⟨n - (d + 1), by omega, d + 1, _, rfl, by omega, by rfl, f2, k2, by omega, by omega, e1, by omega⟩
        · walk_at "s"
          refine u_dostep k1 (by omega) (by omega) fun H2 f2 k2 => ?_
          walk_at "s"
          refine ⟨_, rfl, ?_⟩
          walk_at "s"
          exact ⟨_, _, rfl, rfl, _, rfl, f1.trans f2, k2, rfl⟩
      · rw [goes_stop A _ hw] at e1 e2
        walk_at "s"
        have e3 : (d : Nat) = (m.goes A n).2 := by omega
        rw [e3]
        exact q _ f1 (by rw [e1]; exact k1)
    · have hdn : n - d = 0 := by omega
      rw [hdn] at e1 e2
      walk_at "s"
      have e3 : (d : Nat) = (m.goes A n).2 := by rw [e2]; exact (Nat.zero_add d).symm
      rw [e3]
      exact q _ f1 (by rw [e1]; exact k1)
end
end G
end
section
namespace G
open PySem L2 C8
variable {K : PySem.W.Frag}
/-! ### a machine that stands alone: made, gone, told -/
def spCheckEar : Sp := fun vs H Q _ => ∃ (p : Addr) (ns : List Int), vs = [.ref p] ∧ H p = some (.lst (ns.map V.int)) ∧ (∀ n ∈ ns, Nm n) ∧ ns.length ≤ 20 ∧ ∀ H', Same H H' → Q .non H'
def spCheckCount : Sp := fun vs H Q _ => ∃ (n lo hi : Int), vs = [.int n, .int lo, .int hi] ∧ lo ≤ n ∧ n ≤ hi ∧ Q .non H
def spCheckSteps : Sp := fun vs H Q _ => ∃ n : Int, vs = [.int n] ∧ 0 ≤ n ∧ n ≤ 400 ∧ Q .non H
section
variable {P : Program} {w : World} {K : PySem.W.Frag} {mg : Str → Option Value} {base : Heap} {Z : Zs K}
theorem u_cear {H : Hp} {Q : VK} {E : XK} {p : Addr} {ns : List Int} (h : H p = some (.lst (ns.map V.int))) (hn : ∀ n ∈ ns, Nm n) (hl : ns.length ≤ 20) (q : ∀ H', Same H H' → Q .non H') : spCheckEar ([.ref p] ++ []) H Q E := ⟨p, ns, rfl, h, hn, hl, q⟩
theorem u_ccount {H : Hp} {Q : VK} {E : XK} {n lo hi : Int} (h0 : lo ≤ n) (h1 : n ≤ hi) (q : Q .non H) : spCheckCount ([.int n, .int lo, .int hi] ++ []) H Q E := ⟨n, lo, hi, rfl, h0, h1, q⟩
theorem u_csteps {H : Hp} {Q : VK} {E : XK} {n : Int} (h0 : 0 ≤ n) (h1 : n ≤ 400) (q : Q .non H) : spCheckSteps ([.int n] ++ []) H Q E := ⟨n, rfl, h0, h1, q⟩
abbrev s_check_ear : Stmt := top 31
theorem sc_check_ear : FnScope ["ear", "number"] ["ear"] (fnScope s_check_ear) := fnScope_by (by decide +kernel)
theorem ok_check_ear {f : Addr} {fd : FuncData} (F : Def K mg "check_ear" s_check_ear f fd) (b : Binds K fd ["ear"] []) (T : Txt K mg) (v_LONGEST_EAR : IntG mg "LONGEST_EAR" 20) (v_LAST_NUMBER : IntG mg "LAST_NUMBER" 999) (c_is_number : Cal P w K mg base 1 "is_number" (spIsNumber K) []) : Cal P w K mg base 2 "check_ear" spCheckEar [] := by
  refine cal0 F b .nil sc_check_ear (fun vs H Q E h => ?_) (fun cdv A outer s H vs Q E hr h => ?_)
  · obtain ⟨p, ns, rfl, _⟩ := h
    rfl
  · obtain ⟨p, ns, rfl, hp, hn, hl, q⟩ := h
    have nd := sc_check_ear.nd
    refine ⟨_, (pss_one (ps_if (PW.pt (pw_or (pt_cmpR op_gt (pe_callB Y.cl_len (by rfl) T.n_len PySem.boot_len (pa_cons (pv 0) pa_nil)) (pe_gc (by rfl) v_LONGEST_EAR) (nomark _)) (pw_or1 (pt_not (pt_val (pe_callB (Y.cl_all rfl) (by rfl) T.n_all (by decide +kernel) (pa_cons (pe_lc (own := [("number", 1)]) (g := gName 1) (by rfl) nd (pi_list (pv 0)) (blkOk_by (N := ["ear", "number"]) (sc := fnScope s_check_ear) (by decide +kernel)) (fun _ _ _ _ _ => (pg_name (i := 1) nd rfl (by first | exact Or.inl rfl | exact Or.inr rfl))) (fun _ _ _ _ _ => pts_nil) (fun _ _ _ _ _ => (pe_c c_is_number hr (by first | decide | omega) (by rfl) (pa_cons (pv 1) (pa_cons pe_int (pa_cons (pe_gc (by rfl) v_LAST_NUMBER) pa_nil)))))) pa_nil)))))))
      (pss_one ps_never)
      pss_nil)), ?_⟩
    walk_at "b"
    refine Y.s_dF (by rw [List.length_map]; omega) ?_
    walk_at "s"
    refine Y.s_lcL (SqL.of hp) fun D hD => ⟨fun i acc Hx => Same H Hx ∧ acc = (List.replicate i true).map V.bl, ?_, ?_, ?_, ?_⟩
    · exact ⟨Y.same_new hD (Same.refl _), rfl⟩
    · rintro i acc Hx _ ⟨sx, _⟩
      exact SqL.of (sx _ _ hp)
    · rintro i x acc Hx hx hl2 hD2 ⟨sx, rfl⟩
      obtain ⟨n, en, rfl⟩ := map_at hx
      have hi := (List.getElem?_eq_some_iff.mp en).1
      have hnn := hn n (List.mem_of_getElem? en)
      walk_at "s"
      refine u_isnum (b := true) (.inl ⟨n, rfl, (decide_eq_true ⟨hnn.1, by have := hnn.2; omega⟩).symm⟩) ?_
      exact Y.s_lcE hD2 hl2 (by omega) ⟨Y.same_own hD sx, by rw [List.replicate_succ', List.map_append]; rfl⟩
    · rintro acc Hx hD2 hl2 ⟨sx, rfl⟩
      walk_at "s"
      refine Y.s_all (SqL.of hD2) ?_
      rw [Y.all_true]
      walk_at "s"
      exact q _ sx
abbrev s_check_count : Stmt := top 32
theorem sc_check_count : FnScope ["count", "least", "most"] ["count", "least", "most"] (fnScope s_check_count) := fnScope_by (by decide +kernel)
theorem ok_check_count {f : Addr} {fd : FuncData} (F : Def K mg "check_count" s_check_count f fd) (b : Binds K fd ["count", "least", "most"] []) (T : Txt K mg) (c_is_number : Cal P w K mg base 1 "is_number" (spIsNumber K) []) : Cal P w K mg base 2 "check_count" spCheckCount [] := by
  refine cal0 F b .nil sc_check_count (fun vs H Q E h => ?_) (fun cdv A outer s H vs Q E hr h => ?_)
  · obtain ⟨n, lo, hi, rfl, _⟩ := h
    rfl
  · obtain ⟨n, lo, hi, rfl, h0, h1, q⟩ := h
    have nd := sc_check_count.nd
    refine ⟨_, (pss_one (ps_if (pt_not (pt_val (pe_c c_is_number hr (by first | decide | omega) (by rfl) (pa_cons (pv 0) (pa_cons (pv 1) (pa_cons (pv 2) pa_nil))))))
      (pss_one ps_never)
      pss_nil)), ?_⟩
    walk_at "b"
    refine u_isnum (b := true) (.inl ⟨n, rfl, (decide_eq_true ⟨h0, h1⟩).symm⟩) ?_
    walk_at "s"
    exact q
abbrev s_check_steps : Stmt := top 33
theorem sc_check_steps : FnScope ["many"] ["many"] (fnScope s_check_steps) := fnScope_by (by decide +kernel)
theorem ok_check_steps {f : Addr} {fd : FuncData} (F : Def K mg "check_steps" s_check_steps f fd) (b : Binds K fd ["many"] []) (T : Txt K mg) (v_MOST_STEPS : IntG mg "MOST_STEPS" 400) (c_check_count : Cal P w K mg base 2 "check_count" spCheckCount []) : Cal P w K mg base 3 "check_steps" spCheckSteps [] := by
  refine cal0 F b .nil sc_check_steps (fun vs H Q E h => ?_) (fun cdv A outer s H vs Q E hr h => ?_)
  · obtain ⟨n, rfl, _⟩ := h
    rfl
  · obtain ⟨n, rfl, h0, h1, q⟩ := h
    have nd := sc_check_steps.nd
    refine ⟨_, (pss_one (ps_expr (pe_c c_check_count hr (by first | decide | omega) (by rfl) (pa_cons (pv 0) (pa_cons pe_int (pa_cons (pe_gc (by rfl) v_MOST_STEPS) pa_nil)))))), ?_⟩
    walk_at "b"
    refine u_ccount h0 h1 ?_
    walk_at "s"
    exact q
end
end G
end
section
/-! ### enumerate(a tuple); a walk over a list or a tuple -/
namespace Y
open PySem PySem.Spec PyProof.Rows L2
open AutoSeq1 (wpAny_loadPart')
abbrev tIt (t : Addr) : Obj := { cls := .type "tuple_iterator", data := .fields #[.ref t, .int 0 0] }
abbrev enO (it : Addr) : Obj := { cls := .type "enumerate", data := .fields #[.none, .bool false, .ref it, rawInt 0, .none, .none] }
set_option maxHeartbeats 1000000 in
theorem meets_enum_tup (t : Addr) (its : Array Value) (k : Nat) (dd : Option Addr) (ss : Array (Option Value)) :
    Meets (Builtin.«enumerate.__new__» ⟨[.type "enumerate", .ref t], []⟩) (fun _ R s => s.heap.get? t = some ⟨.type "tuple", dd, .seq its k, ss⟩ ∧
      R (.ok (.ret (.ref (s.heap.push (tIt t)).objs.size))) { s with heap := (s.heap.push (tIt t)).push (enO s.heap.objs.size) }) :=
  .of_wp fun prog w A R s hh => by
    obtain ⟨ht, hR⟩ := hh
    obtain ⟨hp, g, dr, tk, os⟩ := s
    have hT : Heap.IsTuple (Shared.heap ⟨hp, g, dr, tk, os⟩) t its := ⟨_, ht, rfl, k, rfl⟩
    have sb := sub_enumerate
    wp_walk using wpAny_loadPart' ht
    refine wpAny_stack_any fun fr => wpAny_pure ?_
    split
    · rename_i cc _ _ _ _ _
      cases (cc == Value.type "enumerate") <;> (wp_walk using wpAny_loadPart' ht, wpAny_pyIter_tuple hT) <;> exact ⟨_, rfl, hR⟩
    · (wp_walk using wpAny_loadPart' ht, wpAny_pyIter_tuple hT) <;> exact ⟨_, rfl, hR⟩
section
variable {prog : Program} {w : World} {A : Around} {E : Value → Shared → Prop} {s : Shared}
theorem call_enum_tup {t : Addr} {its : Array Value} {Q : Value → Shared → Prop} (ht : s.heap.IsTuple t its) (q : ∀ h', IsEnum h' (s.heap.objs.size + 1) s.heap.objs.size 0 .none → h'.IsTupleIter s.heap.objs.size t 0 →
      (∀ b o, s.heap.get? b = some o → h'.get? b = some o) → Q (.ref (s.heap.objs.size + 1)) { s with heap := h' }) : wpAny (model prog w) A (call (.type "enumerate") [.ref t]) Q E s := by
  obtain ⟨⟨cc, dd, dt, ss⟩, hl, hc, k, hd⟩ := ht
  obtain rfl : cc = .type "tuple" := hc
  obtain rfl : dt = .seq its k := hd
  refine callType_new F.called_enumerate (by decide) (F.typeCall_enumerate_1 _) (F.newCall_enumerate_1 _)
    (fun x => F.args_object_init_2 x _) F.entry_enumerate_new (meets_enum_tup t its k dd ss) ⟨hl, ?_⟩
  have z : (s.heap.push (tIt t)).objs.size = s.heap.objs.size + 1 := Heap.size_push _ _
  have en : IsEnum ((s.heap.push (tIt t)).push (enO s.heap.objs.size)) (s.heap.objs.size + 1) s.heap.objs.size 0 .none := by
    have g := Heap.get?_push_size (s.heap.push (tIt t)) (o := enO s.heap.objs.size) rfl
    rw [z] at g
    exact g
  show _ ∧ _
  rw [z]
  exact ⟨⟨_, en, rfl⟩, q _ en ⟨_, Heap.get?_push_of_some _ (Heap.get?_push_size _ rfl), rfl, rfl⟩ fun b o x => Heap.get?_push_of_some _ (Heap.get?_push_of_some _ x)⟩
end
/-- the tuple at a, each item in a new pair -/
def ItET (K : PySem.W.Frag) (a : Addr) : It :=
  ⟨fun i H => ∃ (xs : List V) (x : V), SqT K H a xs ∧ xs[i]? = some x, fun i H v H' => ∃ T x, v = .ref T ∧ H T = none ∧ H' = upd H T (.tup [.int (i : Nat), x]) ∧ ∀ xs, SqT K H a xs → xs[i]? = some x, fun i H => ∃ xs : List V, SqT K H a xs ∧ xs.length = i⟩
theorem turn_enumT {P : Program} {w : World} {K : PySem.W.Frag} {elts : List Expr} {kk : Nat} {tpos : Pos} (a e it : Addr) (hai : a ≠ it) :
    Turn P w K (.Tuple elts kk tpos) (ItET K a) [e, it] e (fun i h => (∃ old, IsEnum h e it ((i : Nat) : Int) old) ∧ h.IsTupleIter it a i ∧ e ≠ it) where
  mem := List.mem_cons_self ..
  obj := fun i h st b hb => by
    obtain ⟨⟨old, he⟩, ⟨o, ho, _, hd⟩, _⟩ := st
    rcases List.mem_cons.mp hb with z | hb
    · exact ⟨_, by rw [z]; exact he, fun v q => by cases q⟩
    · obtain rfl := List.mem_singleton.mp hb
      exact ⟨o, ho, fun v q => by rw [hd] at q; cases q⟩
  keep := fun i h h' st k => by
    obtain ⟨⟨old, he⟩, hi, hne⟩ := st
    exact ⟨⟨old, k e (.head _) _ he⟩, hi.at fun o q => k it (.tail _ (.head _)) o q, hne⟩
  item := by
    intro X hP hw hK hc i pins s σ H E I hf st hg
    subst hP hw hK
    obtain ⟨⟨old, he⟩, hit, hne⟩ := st
    obtain ⟨xs, x, hq, hx⟩ := hg
    obtain ⟨its, rv, p, hz⟩ := I.tuple hq
    have pt : s.heap.IsTuple a its.toArray := p
    have hea : e ≠ a := fun z => by
      obtain ⟨o, ho, hcl, _⟩ := pt
      rw [← z] at ho
      have he' : s.heap.get? e = some _ := he
      rw [ho] at he'
      rw [Option.some.inj he'] at hcl
      exact absurd (Value.type.inj hcl) (by decide)
    have hl := rv.length
    have hi : i < its.toArray.size := by have := (List.getElem?_eq_some_iff.mp hx).1; rw [List.size_toArray]; omega
    have lt1 : e < s.heap.objs.size := Heap.lt_size he
    have lt2 : it < s.heap.objs.size := by obtain ⟨_, q, _⟩ := hit; exact Heap.lt_size q
    refine wpAny_pyNext_enum_itemD (Draws.tuple (prog := X.prog) (w := X.w) (A := X.A.in1) (I.ok.hd hc) it a hai its.toArray) he ⟨hit, pt⟩ hi hne
      (fun m => by rcases List.mem_cons.mp m with z | m; exact hne z; exact hea (List.mem_singleton.mp m)) fun u h' tk hu ho st' hT hsz hk => ?_
    obtain ⟨u2, hu2, ru⟩ := rv.get hx
    have eu : u2 = u := by
      have h1 : its.toArray[i]? = some u := hu
      rw [List.getElem?_toArray, hu2] at h1
      exact Option.some.inj h1
    subst eu
    refine ⟨_, rfl, wpAny_letOwnedTupleGo_enum (s := { s with heap := h', toks := tk + 1 }) ho fun h'' he' sb => ?_⟩
    have hT2 : h''.get? s.heap.objs.size = some { cls := .type "tuple", data := .seq #[.int i tk, u2] } := (sb.2 _ (Nat.ne_of_gt lt1)).trans hT
    have I1 : Inv X pins σ (upd H s.heap.objs.size (.tup [.int (i : Nat), x])) { s with heap := h'', toks := tk + 1 } :=
      I.turnedNew (ch := [e, it]) (fun b ob hb q => (sb.2 b (fun z => hb (by rw [z]; exact .head _))).trans (hk b ob (fun z => hb (by rw [z]; exact .head _)) (fun z => hb (by rw [z]; exact .tail _ (.head _))) q)) hf (Nat.le_refl _)
        ⟨by show 2 ≤ sizeLine; decide, [.int i tk, u2], .cons ⟨_, rfl⟩ (.cons ru .nil), ⟨_, hT2, rfl, _, rfl⟩⟩
    have e1 : ((i + 1 : Nat) : Int) = (i : Int) + 1 := by omega
    refine ⟨.ref s.heap.objs.size, _, I1, rfl, ⟨_, x, rfl, I.hok.fresh (Nat.le_refl _), rfl, fun ys hy => by rw [I.tuple_inj hy hq]; exact hx⟩, ⟨⟨u2, by rw [e1]; exact he'⟩, st'.1.at fun o q => (sb.2 it (Ne.symm hne)).trans q, hne⟩, fun b hb => ?_⟩
    have hb' : b < s.heap.objs.size := by
      rcases List.mem_cons.mp hb with z | hb
      · rw [z]; exact lt1
      · rw [List.mem_singleton.mp hb]; exact lt2
    rw [upd_ne (Nat.ne_of_lt hb')]
    exact (hf b hb).1
  done := by
    intro X hP hw hK hc i pins s σ H E I hf st hg
    subst hP hw hK
    obtain ⟨⟨old, he⟩, hit, hne⟩ := st
    obtain ⟨xs, hq, hx⟩ := hg
    obtain ⟨its, rv, p, hz⟩ := I.tuple hq
    have pt : s.heap.IsTuple a its.toArray := p
    obtain ⟨f0, f1, f2, f3, f4, f5⟩ := hf it (.tail _ (.head _))
    have hl := rv.length
    have hn : its.toArray.size = i := by rw [List.size_toArray]; omega
    exact wpAny_pyNext_enum_endD (Draws.tuple (prog := X.prog) (w := X.w) (A := X.A.in1) (I.ok.hd hc) it a hai its.toArray) he ⟨by rw [hn]; exact hit, pt⟩ fun h' eb => ⟨rfl, I.turned (t' := s.toks) (fun b o hb q => eb b o hb q) f0 f1 f3 f4 f5⟩
  self := fun A i s Q E st h => let ⟨⟨_, he⟩, _⟩ := st; wpAny_pyIter_enum he h
end Y
end
section
/-! ### a walk over a list or a tuple, by itself or counted -/
namespace Y
open PySem PySem.Spec PyProof.Rows L2
/-- a list (b) or a tuple -/
def SqB (K : PySem.W.Frag) (b : Bool) (H : Hp) (a : Addr) (xs : List V) : Prop := match b with
  | true => SqL K H a xs
  | false => SqT K H a xs
def ItB (K : PySem.W.Frag) (b : Bool) (a : Addr) : It := match b with
  | true => Itl K a
  | false => Itt K a
def ItEB (K : PySem.W.Frag) (b : Bool) (a : Addr) : It := match b with
  | true => Ite K a
  | false => ItET K a
def iSeq (K : PySem.W.Frag) (ta : TE) : TI := fun σ H R => ta σ H fun x H1 => ∃ b a xs, x = .ref a ∧ SqB K b H1 a xs ∧ R (ItB K b a) H1
def iEnumS (K : PySem.W.Frag) (ta : TA) : TI := fun σ H R => ta σ H fun vs H1 => ∃ b a xs, vs = [.ref a] ∧ SqB K b H1 a xs ∧ R (ItEB K b a) H1
theorem pi_seq {X : Cx} {tg l : Expr} {ta : TE} (hl : PE X l ta) : PI X tg l (iSeq X.K ta) := by
  refine ⟨fun pins s σ H R I h => ?_⟩
  refine thn (hl.run pins s σ H _ I h) fun v s1 ⟨x, H1, I1, r1, b, a, xs, ex, hq, q⟩ => ?_
  subst ex
  cases r1
  have fp1 : ∀ c ∈ [s1.heap.objs.size], FpOk X pins H1 c := fun c hc => by
    rw [List.mem_singleton.mp hc]
    exact I1.fpOk (Nat.le_refl _) (I1.hok.fresh (Nat.le_refl _))
  cases b with
  | true =>
    obtain ⟨its, rv, p, hz⟩ := I1.list hq
    exact wpAny_pyIter_list p.isList ⟨_, [s1.heap.objs.size], _, _, H1, rfl, I1.kept (t' := s1.toks) fun b o e => Heap.get?_push_of_some _ e, turn_list a _, ⟨_, Heap.get?_push_size _ rfl, rfl, rfl⟩, fp1, q⟩
  | false =>
    obtain ⟨its, rv, p, hz⟩ := I1.tuple hq
    exact wpAny_pyIter_tuple (show s1.heap.IsTuple a its.toArray from p) ⟨_, [s1.heap.objs.size], _, _, H1, rfl, I1.kept (t' := s1.toks) fun b o e => Heap.get?_push_of_some _ e, turn_tuple a _, ⟨_, Heap.get?_push_size _ rfl, rfl, rfl⟩, fp1, q⟩
theorem pi_enumS {X : Cx} {e : Expr} {ta : TA} {p pos tpos : Pos} {elts : List Expr} {kk : Nat} (hg : Gl X "enumerate") (hm : X.mg "enumerate" = none) (ha : PA X [e] ta) (hs : starEach [e] X.env = [(false, eval e X.env)] := by rfl) :
    PI X (.Tuple elts kk tpos) (.Call (.Name "enumerate" p) [e] [] pos) (iEnumS X.K ta) := by
  refine ⟨fun pins s σ H R I h => ?_⟩
  refine Call_ (ld_blt I hg hm boot_enumerate (PyProof.Rows.callWith_type1 (thn (ha.run pos pins s σ H _ I h) fun us s1 ⟨vs, H1, I1, r1, b, a, xs, ex, hq, q⟩ => ?_) hs rfl))
  subst ex
  cases r1 with
  | cons r rr =>
    cases rr
    cases r
    have fp2 : ∀ c ∈ [s1.heap.objs.size + 1, s1.heap.objs.size], FpOk X pins H1 c := fun c hc => by
      have hle : s1.heap.objs.size ≤ c := by
        rcases List.mem_cons.mp hc with z | hc
        · rw [z]; exact Nat.le_succ _
        · rw [List.mem_singleton.mp hc]; exact Nat.le_refl _
      exact I1.fpOk hle (I1.hok.fresh hle)
    cases b with
    | true =>
      obtain ⟨its, rv, p', hz⟩ := I1.list hq
      exact call_enumerate_list p'.isList fun h' he hit hsz hk => wpAny_pyIter_enum he
        ⟨_, [s1.heap.objs.size + 1, s1.heap.objs.size], _, _, H1, rfl, I1.kept (t' := s1.toks) hk, turn_enum a (s1.heap.objs.size + 1) s1.heap.objs.size, ⟨⟨.none, he⟩, hit, Nat.succ_ne_self _⟩, fp2, q⟩
    | false =>
      obtain ⟨its, rv, p', hz⟩ := I1.tuple hq
      have pt : s1.heap.IsTuple a its.toArray := p'
      have hai : a ≠ s1.heap.objs.size := by obtain ⟨o, ho, _⟩ := pt; exact Nat.ne_of_lt (Heap.lt_size ho)
      exact call_enum_tup pt fun h' he hit hk => wpAny_pyIter_enum he
        ⟨_, [s1.heap.objs.size + 1, s1.heap.objs.size], _, _, H1, rfl, I1.kept (t' := s1.toks) hk, turn_enumT a (s1.heap.objs.size + 1) s1.heap.objs.size hai, ⟨⟨.none, he⟩, hit, Nat.succ_ne_self _⟩, fp2, q⟩
section
variable {K : PySem.W.Frag} {σ : L2.St} {H : Hp} {Q : VK} {a : Addr} {xs : List V} {A : TA} {ta te : TE} {tt : TT} {k : Nat}
theorem walk_B (b : Bool) : Walk (ItB K b a) xs.length (fun H => SqB K b H a xs) (YAt xs) := by
  cases b with
  | true => exact walk_list
  | false => exact walk_tup
theorem walk_EB (b : Bool) : Walk (ItEB K b a) xs.length (fun H => SqB K b H a xs) (YPair (fun i => some (.int (i : Nat))) (fun i => xs[i]?)) := by
  cases b with
  | true => exact walk_enum
  | false =>
    refine ⟨fun i H hi q => ⟨xs, xs[i], q, List.getElem?_eq_getElem hi⟩, fun H q => ⟨xs, q, rfl⟩, fun i H v H' hi q yy => ?_⟩
    obtain ⟨T, x, h1, h2, h3, h4⟩ := yy
    exact ⟨T, _, x, h1, h2, h3, rfl, h4 xs q⟩
def SeqRest (K : PySem.W.Frag) (R : It → Hp → Prop) : V → Hp → Prop := fun x H1 => ∃ b a xs, x = V.ref a ∧ SqB K b H1 a xs ∧ R (ItB K b a) H1
theorem s_seqI {R : It → Hp → Prop} (q : ta σ H (SeqRest K R)) : iSeq K ta σ H R := q
def EnumSRest (K : PySem.W.Frag) (R : It → Hp → Prop) : List V → Hp → Prop := fun vs H1 => ∃ b a xs, vs = [V.ref a] ∧ SqB K b H1 a xs ∧ R (ItEB K b a) H1
theorem s_enumS {R : It → Hp → Prop} (q : A σ H (EnumSRest K R)) : iEnumS K A σ H R := q
theorem s_forES {g : TG} {tb : TS} {D : Ends} (b : Bool) (ha : SqB K b H a xs) (Pv : Nat → L2.St → Hp → Prop) (p0 : Pv 0 σ H) (hl : ∀ i σ H, Pv i σ H → SqB K b H a xs)
    (hs : ∀ i x T σ H, xs[i]? = some x → Pv i σ H → H T = none → g (.ref T) σ (upd H T (.tup [.int (i : Nat), x])) fun σ2 H2 => tb { D with nx := Pv (i + 1), ct := Pv (i + 1), bk := D.nx } σ2 H2) (hd : ∀ σ H, Pv xs.length σ H → D.nx σ H) :
    EnumSRest K (ForRest g tb D σ) [V.ref a] H := by
  refine ⟨b, a, xs, rfl, ha, for_it (walk_EB b) Pv p0 (fun i σ H _ p => hl i σ H p) (fun i x σ H H' hi p yy => ?_) hd⟩
  obtain ⟨T, u, w, rfl, hT, rfl, f1, f2⟩ := yy
  cases f1
  exact hs i w T σ H f2 p hT
theorem s_lcB (b : Bool) (ha : SqB K b H a xs) (h : ∀ D, H D = none → ∃ Inv : Nat → List V → Hp → Prop, Inv 0 [] (upd H D (.lst [])) ∧ (∀ i acc H, H D = some (.lst acc) → Inv i acc H → SqB K b H a xs) ∧
      (∀ (i : Nat) x acc H, xs[i]? = some x → acc.length ≤ i → H D = some (.lst acc) → Inv i acc H → tt ((σ.set k none).set k (some x)) H fun b H3 =>
        if b = true then te ((σ.set k none).set k (some x)) H3 fun y H4 => ∃ acc, H4 D = some (.lst acc) ∧ acc.length < sizeLine ∧ LcP D Inv (i + 1) (upd H4 D (.lst (acc ++ [y]))) else LcP D Inv (i + 1) H3) ∧
      ∀ acc H, H D = some (.lst acc) → acc.length ≤ xs.length → Inv xs.length acc H → Q (.ref D) H) :
    SeqRest K (LcRest (gName k) tt te [k] σ Q) (V.ref a) H := by
  refine ⟨b, a, xs, rfl, ha, fun D hD => ?_⟩
  obtain ⟨Inv, i0, hq, ht, hd⟩ := h D hD
  refine lc_it (walk_B b) (LcP D Inv) ⟨[], upd_same, Nat.zero_le _, i0⟩ (fun i H _ ⟨acc, ha, _, hv⟩ => hq i acc H ha hv) (fun i x H H' hi pp yy => ?_) (fun H ⟨acc, ha, hl, hv⟩ => hd acc H ha hl hv)
  obtain ⟨acc, ha, hl, hv⟩ := pp
  obtain ⟨rfl, hx⟩ := yy
  show (((σ.set k none).set k _).set k none) = σ.set k none ∧ _
  refine ⟨by rw [List.set_set, List.set_set], ht i x acc _ hx hl ha hv⟩
end
end Y
end
section
namespace G
open PySem L2 C8
variable {K : PySem.W.Frag}
/-- a list or a tuple that stands -/
def LT (b : Bool) (xs : List V) : HO := if b then .lst xs else .tup xs
theorem LT.sq {K : PySem.W.Frag} {b : Bool} {H : Hp} {p : Addr} {xs : List V} (h : H p = some (LT b xs)) : Y.SqB K b H p xs := by
  cases b with
  | true => exact SqL.of h
  | false => exact SqT.of h
theorem s_lenB {K : PySem.W.Frag} {b : Bool} {H : Hp} {Q : VK} {p : Addr} {xs : List V} (h : H p = some (LT b xs)) (q : Q (.int xs.length) H) : Y.rLen K [.ref p] H Q := by
  cases b with
  | true => exact Y.s_lenL (SqL.of h) q
  | false => exact Y.s_lenT (SqT.of h) q
theorem s_listB {K : PySem.W.Frag} {b : Bool} {H : Hp} {Q : VK} {p : Addr} {xs : List V} (h : H p = some (LT b xs)) (q : ∀ l, H l = none → Q (.ref l) (upd H l (.lst xs))) : Y.rListOf K [.ref p] H Q := by
  cases b with
  | true => exact Y.s_listL (SqL.of h) q
  | false => exact Y.s_listT (SqT.of h) q
theorem s_make {C : Addr} {sp : Sp} {dvs : List V} {E : XK} {t : TA} {σ : L2.St} {H : Hp} {Q : VK} (q : t σ H fun vs H1 => ∀ x dx, H1 x = none → H1 dx = none → dx ≠ x → sp (.ref x :: (vs ++ dvs)) (upd (upd H1 dx (.own x)) x (.ins C dx [])) (fun v H2 => v = .non ∧ Q (.ref x) H2) E) : tMake C sp dvs E t σ H Q := q
def spCheckCells2 (K : PySem.W.Frag) : Sp := fun vs H Q _ => ∃ (b : Bool) (p : Addr) (ts : List Thing), vs = [.ref p] ∧ H p = some (LT b (ts.map Thing.v)) ∧ (Things K) H ts ∧ 16 ≤ ts.length ∧ ts.length ≤ 40 ∧ ∀ H', Same H H' → Q .non H'
def spCheckEar2 : Sp := fun vs H Q _ => ∃ (b : Bool) (p : Addr) (ns : List Int), vs = [.ref p] ∧ H p = some (LT b (ns.map V.int)) ∧ (∀ n ∈ ns, Nm n) ∧ ns.length ≤ 20 ∧ ∀ H', Same H H' → Q .non H'
def spRoomInit {K : PySem.W.Frag} (Z : Zs K) : Sp := fun vs H Q _ => ∃ (x dx pf : Addr) (b : V) (f wd : Int), vs = [.ref x, .ref pf, b, .int f, .int wd] ∧ H x = some (.ins Z.CR dx []) ∧
  ∀ pt H', FrS [x] H H' → H pt = none → H' pt = some (.lst []) → H' x = some (.ins Z.CR dx [("floor", .ref pf), ("beneath", b), ("first", .int f), ("wide", .int wd), ("taken", .ref pt)]) → Q .non H'
def spRoomAlone {K : PySem.W.Frag} (Z : Zs K) : Sp := fun vs H Q _ => ∃ (b : Bool) (p : Addr) (xs : List V), vs = [.ref p] ∧ H p = some (LT b xs) ∧ xs.length ≤ 1000 ∧
  ∀ (r : Rm) (pf : Addr) H', Same H H' → H r.pm = none → H pf = none → r.first = 0 → r.wide = xs.length → Holds H' (rmObjs Z.CR pf [r]) → H' pf = some (.lst xs) → Q (.ref r.pm) H'
section
variable {P : Program} {w : World} {K : PySem.W.Frag} {mg : Str → Option Value} {base : Heap} {Z : Zs K}
theorem u_ccells2 {H : Hp} {Q : VK} {E : XK} {b : Bool} {p : Addr} {ts : List Thing} (h : H p = some (LT b (ts.map Thing.v))) (ht : (Things K) H ts) (h1 : 16 ≤ ts.length) (h2 : ts.length ≤ 40) (q : ∀ H', Same H H' → Q .non H') : (spCheckCells2 K) ([.ref p] ++ []) H Q E := ⟨b, p, ts, rfl, h, ht, h1, h2, q⟩
theorem u_cear2 {H : Hp} {Q : VK} {E : XK} {b : Bool} {p : Addr} {ns : List Int} (h : H p = some (LT b (ns.map V.int))) (hn : ∀ n ∈ ns, Nm n) (hl : ns.length ≤ 20) (q : ∀ H', Same H H' → Q .non H') : spCheckEar2 ([.ref p] ++ []) H Q E := ⟨b, p, ns, rfl, h, hn, hl, q⟩
theorem ok_check_cells2 {f : Addr} {fd : FuncData} (F : Def K mg "check_cells" s_check_cells f fd) (b : Binds K fd ["cells"] []) (T : Txt K mg) (v_MOST_CELLS : IntG mg "MOST_CELLS_checks" 40) (v_FEWEST_CELLS : IntG mg "FEWEST_CELLS_checks" 16) (c_is_thing : Cal P w K mg base 3 "is_thing" (spIsThing K) []) : Cal P w K mg base 4 "check_cells" (spCheckCells2 K) [] := by
  refine cal0 F b .nil sc_check_cells (fun vs H Q E h => ?_) (fun cdv A outer s H vs Q E hr h => ?_)
  · obtain ⟨b, p, ts, rfl, _⟩ := h
    rfl
  · obtain ⟨b, p, ts, rfl, hp, ht, l1, l2, q⟩ := h
    have nd := sc_check_cells.nd
    refine ⟨_, (pss_cons (ps_for PassesOwn.never rfl (Y.pi_enumS (by rfl) T.n_enumerate (pa_cons (pv 0) pa_nil)) (pg_tup (by rfl) (pgs_cons (pg_name (i := 1) nd rfl (by first | exact Or.inl rfl | exact Or.inr rfl)) (pgs_cons (pg_name (i := 2) nd rfl (by first | exact Or.inl rfl | exact Or.inr rfl)) pgs_nil)))
      (pss_one (ps_if (PW.pt (pw_or (pt_cmpR op_eq (pv 1) (pe_gc (by rfl) v_MOST_CELLS) (nomark _)) (pw_or1 (pt_not (pt_val (pe_c c_is_thing hr (by first | decide | omega) (by rfl) (pa_cons (pv 2) pa_nil)))))))
      (pss_one ps_never)
      pss_nil)))
      (pss_one (ps_if (pt_cmpR op_lt (pe_callB Y.cl_len (by rfl) T.n_len PySem.boot_len (pa_cons (pv 0) pa_nil)) (pe_gc (by rfl) v_FEWEST_CELLS) (nomark _))
      (pss_one ps_never)
      pss_nil))), ?_⟩
    walk_at "b"
    refine Y.s_enumS ?_
    walk_at "s"
    refine Y.s_forES b (LT.sq hp) (fun i σ H' => Same H H' ∧ ∃ v1 v2, σ = [some (.ref p), v1, v2]) ⟨Same.refl _, _, _, rfl⟩ (fun i σ H' ⟨s1, _⟩ => LT.sq (s1 _ _ hp)) ?_ ?_
    · rintro i x t σ H1 hx ⟨s1, v1, v2, rfl⟩ hT
      obtain ⟨u, hu, rfl⟩ := map_at hx
      have hi := (List.getElem?_eq_some_iff.mp hu).1
      refine Y.s_gTup (SqT.of upd_same) rfl ?_
      refine Y.s_gCons ?_
      walk_at "s"
      refine Y.s_gCons ?_
      walk_at "s"
      refine Y.s_gNil ?_
      walk_at "s"
      refine Y.s_dF (by omega) ?_
      walk_at "s"
      have s2 : Same H (upd H1 t (.tup [.int (i : Nat), u.v])) := Y.same_new hT s1
      refine u_isthing rfl ((ht u (List.mem_of_getElem? hu)).tu fun p xs h => s2 p _ h) fun H3 s3 => ?_
      walk_at "s"
      exact ⟨s2.trans s3, _, _, rfl⟩
    · rintro σ H1 ⟨s1, v1, v2, rfl⟩
      have hp1 := s1 _ _ hp
      walk_at "s"
      refine s_lenB hp1 ?_
      walk_at "s"
      refine Y.s_dF (by rw [List.length_map]; omega) ?_
      walk_at "s"
      exact q _ s1
theorem ok_check_ear2 {f : Addr} {fd : FuncData} (F : Def K mg "check_ear" s_check_ear f fd) (b : Binds K fd ["ear"] []) (T : Txt K mg) (v_LONGEST_EAR : IntG mg "LONGEST_EAR" 20) (v_LAST_NUMBER : IntG mg "LAST_NUMBER" 999) (c_is_number : Cal P w K mg base 1 "is_number" (spIsNumber K) []) : Cal P w K mg base 2 "check_ear" spCheckEar2 [] := by
  refine cal0 F b .nil sc_check_ear (fun vs H Q E h => ?_) (fun cdv A outer s H vs Q E hr h => ?_)
  · obtain ⟨b, p, ns, rfl, _⟩ := h
    rfl
  · obtain ⟨b, p, ns, rfl, hp, hn, hl, q⟩ := h
    have nd := sc_check_ear.nd
    refine ⟨_, (pss_one (ps_if (PW.pt (pw_or (pt_cmpR op_gt (pe_callB Y.cl_len (by rfl) T.n_len PySem.boot_len (pa_cons (pv 0) pa_nil)) (pe_gc (by rfl) v_LONGEST_EAR) (nomark _)) (pw_or1 (pt_not (pt_val (pe_callB (Y.cl_all rfl) (by rfl) T.n_all (by decide +kernel) (pa_cons (pe_lc (own := [("number", 1)]) (g := gName 1) (by rfl) nd (Y.pi_seq (pv 0)) (blkOk_by (N := ["ear", "number"]) (sc := fnScope s_check_ear) (by decide +kernel)) (fun _ _ _ _ _ => (pg_name (i := 1) nd rfl (by first | exact Or.inl rfl | exact Or.inr rfl))) (fun _ _ _ _ _ => pts_nil) (fun _ _ _ _ _ => (pe_c c_is_number hr (by first | decide | omega) (by rfl) (pa_cons (pv 1) (pa_cons pe_int (pa_cons (pe_gc (by rfl) v_LAST_NUMBER) pa_nil)))))) pa_nil)))))))
      (pss_one ps_never)
      pss_nil)), ?_⟩
    walk_at "b"
    refine s_lenB hp ?_
    walk_at "s"
    refine Y.s_dF (by rw [List.length_map]; omega) ?_
    walk_at "s"
    refine Y.s_seqI ?_
    walk_at "s"
    refine Y.s_lcB b (LT.sq hp) fun D hD => ⟨fun i acc Hx => Same H Hx ∧ acc = (List.replicate i true).map V.bl, ?_, ?_, ?_, ?_⟩
    · exact ⟨Y.same_new hD (Same.refl _), rfl⟩
    · rintro i acc Hx _ ⟨sx, _⟩
      exact LT.sq (sx _ _ hp)
    · rintro i x acc Hx hx hl2 hD2 ⟨sx, rfl⟩
      obtain ⟨n, en, rfl⟩ := map_at hx
      have hi := (List.getElem?_eq_some_iff.mp en).1
      have hnn := hn n (List.mem_of_getElem? en)
      walk_at "s"
      refine u_isnum (b := true) (.inl ⟨n, rfl, (decide_eq_true ⟨hnn.1, by have := hnn.2; omega⟩).symm⟩) ?_
      exact Y.s_lcE hD2 hl2 (by omega) ⟨Y.same_own hD sx, by rw [List.replicate_succ', List.map_append]; rfl⟩
    · rintro acc Hx hD2 hl2 ⟨sx, rfl⟩
      walk_at "s"
      refine Y.s_all (SqL.of hD2) ?_
      rw [Y.all_true]
      walk_at "s"
      exact q _ sx
abbrev s_Room___init__ : Stmt := inClass (top 47) 0
theorem sc_Room___init__ : FnScope ["self", "floor", "beneath", "first", "wide"] ["self", "floor", "beneath", "first", "wide"] (fnScope s_Room___init__) := fnScope_by (by decide +kernel)
theorem ok_Room_init {f : Addr} {fd : FuncData} (M : Mk K Z.CR f) (hm : mg "Room" = some (.ref Z.CR)) (F : C8.Fun K "__init__" "Room.__init__" s_Room___init__ f fd) (b : Binds K fd ["self", "floor", "beneath", "first", "wide"] []) (T : Txt K mg) : Mak P w K mg base 1 "Room" Z.CR (spRoomInit Z) [] := by
  refine mak0 M hm F b .nil sc_Room___init__ (fun vs H Q E h => ?_) (fun cdv A outer s H vs Q E hr h => ?_)
  · obtain ⟨x, dx, pf, bb, f, wd, rfl, _⟩ := h
    rfl
  · obtain ⟨x, dx, pf, bb, f, wd, rfl, hx, q⟩ := h
    have nd := sc_Room___init__.nd
    refine ⟨_, (pss_cons (ps_fld (pv 0) (pv 1) rfl)
      (pss_cons (ps_fld (pv 0) (pv 2) rfl)
      (pss_cons (ps_fld (pv 0) (pv 3) rfl)
      (pss_cons (ps_fld (pv 0) (pv 4) rfl)
      (pss_one (ps_fld (pv 0) (pe_lst pa_nil) rfl)))))), ?_⟩
    walk_at "b"
    refine Y.s_setF ?_
    walk_at "s"
    refine Y.s_setFI hx Z.r.cls (Z.r.at_ 0 rfl) (by decide) ?_
    walk_at "s"
    refine Y.s_setF ?_
    walk_at "s"
    refine Y.s_setFI upd_same Z.r.cls (Z.r.at_ 1 rfl) (by show 1 < 1000; decide) ?_
    walk_at "s"
    refine Y.s_setF ?_
    walk_at "s"
    refine Y.s_setFI upd_same Z.r.cls (Z.r.at_ 2 rfl) (by show 2 < 1000; decide) ?_
    walk_at "s"
    refine Y.s_setF ?_
    walk_at "s"
    refine Y.s_setFI upd_same Z.r.cls (Z.r.at_ 3 rfl) (by show 3 < 1000; decide) ?_
    walk_at "s"
    refine Y.s_setF ?_
    walk_at "s"
    refine Y.s_new rfl fun pt hpt => ?_
    walk_at "s"
    have nx : x ≠ pt := ne_of_none upd_same hpt
    refine Y.s_setFI (by rw [upd_ne nx]; exact upd_same) Z.r.cls (Z.r.at_ 4 rfl) (by show 4 < 1000; decide) ?_
    walk_at "s"
    refine q pt _ ((((((FrS.refl.upd (.head _)).upd (.head _)).upd (.head _)).upd (.head _)).new hpt).upd (.head _)) ?_ (by rw [upd_ne nx.symm]; exact upd_same) upd_same
    have h1 := hpt
    simp only [upd_ne nx.symm] at h1
    exact h1
abbrev s_room_alone : Stmt := top 48
theorem sc_room_alone : FnScope ["things"] ["things"] (fnScope s_room_alone) := fnScope_by (by decide +kernel)
theorem ok_room_alone {f : Addr} {fd : FuncData} (F : Def K mg "room_alone" s_room_alone f fd) (b : Binds K fd ["things"] []) (T : Txt K mg) (m_Room : Mak P w K mg base 1 "Room" Z.CR (spRoomInit Z) []) : Cal P w K mg base 3 "room_alone" (spRoomAlone Z) [] := by
  refine cal0 F b .nil sc_room_alone (fun vs H Q E h => ?_) (fun cdv A outer s H vs Q E hr h => ?_)
  · obtain ⟨b, p, xs, rfl, _⟩ := h
    rfl
  · obtain ⟨b, p, xs, rfl, hp, hl, q⟩ := h
    have nd := sc_room_alone.nd
    refine ⟨_, (pss_one (ps_ret (pe_mk m_Room hr (by first | decide | omega) (by rfl) (pa_cons (pe_callTy Y.cl_list (by rfl) T.n_list (by decide +kernel) (pa_cons (pv 0) pa_nil)) (pa_cons pe_non (pa_cons pe_int (pa_cons (pe_callB Y.cl_len (by rfl) T.n_len PySem.boot_len (pa_cons (pv 0) pa_nil)) pa_nil))))))), ?_⟩
    walk_at "b"
    refine s_make ?_
    walk_at "s"
    refine s_listB hp fun pf hpf => ?_
    have npf : p ≠ pf := ne_of_none hp hpf
    walk_at "s"
    refine s_lenB (b := b) (xs := xs) (by rw [upd_ne npf]; exact hp) ?_
    walk_at "s"
    intro x dx hx hdx hne
    have hx0 : H x = none := by
      by_cases z : x = pf
      · rw [z] at hx; rw [upd_same] at hx; cases hx
      · rw [upd_ne z] at hx; exact hx
    have n1 : pf ≠ x := fun z => by rw [← z, upd_same] at hx; cases hx
    have n2 : pf ≠ dx := fun z => by rw [← z, upd_same] at hdx; cases hdx
    refine ⟨x, dx, pf, .non, 0, (xs.length : Nat), rfl, upd_same, fun pt H' f1 npt e1 e2 => ⟨rfl, ?_⟩⟩
    walk_at "s"
    have sm : Same H H' := fun c u hc => by
      have c1 : c ≠ x := ne_of_none hc hx0
      refine f1 c u (fun m => c1 (List.mem_singleton.mp m)) ?_
      rw [upd_ne c1, upd_ne (fun z => ?_), upd_ne (ne_of_none hc hpf)]
      · exact hc
      · have := hdx
        rw [← z, upd_ne (ne_of_none hc hpf), hc] at this
        cases this
    exact q ⟨x, dx, 0, (xs.length : Nat), pt⟩ pf H' sm hx0 hpf rfl rfl (fun y my => by rw [List.mem_singleton.mp my]; exact e2) (f1 pf _ (fun m => n1 (List.mem_singleton.mp m)) (by rw [upd_ne n1, upd_ne n2]; exact upd_same))
end
end G
end
section
namespace G
open PySem L2 C8
def Mc.start (ts : List Thing) (ns : List Int) : Mc := ⟨ts, List.replicate 4 (.num 0), 0, true, 0, ts.length, 0, [], ns, "", 0, []⟩
def spBodyInit {K : PySem.W.Frag} (Z : Zs K) : Sp := fun vs H Q _ => ∃ (x dx pk pm rdx pear : Addr) (rf : List (Str × V)) (wd : Int) (b : Bool) (ns : List Int), vs = [.ref x, .ref pk, .ref pm, .ref pear] ∧ H x = some (.ins Z.CB dx []) ∧ H pm = some (.ins Z.CR rdx rf) ∧ rf.lookup ("wide" : Str) = some (V.int wd) ∧ pm ≠ x ∧ H pear = some (LT b (ns.map V.int)) ∧
  ∀ (px pw ps pe : Addr) H', FrS [x] H H' → H px = none → H ps = none → H pe = none → px ≠ ps → px ≠ pe → ps ≠ pe → H' px = some (.lst [.int 0, .int 0, .int 0, .int 0]) → H' pw = some (.tup [.int 0, .int wd]) → H' ps = some (.lst []) → H' pe = some (.lst (ns.map V.int)) →
    H' x = some (.ins Z.CB dx [("kind", .ref pk), ("room", .ref pm), ("ground", .non), ("through", .bl false), ("boxes", .ref px), ("place", .int 0), ("high", .bl true), ("window", .ref pw), ("alarm", .int 0), ("spoken", .ref ps), ("ear", .ref pe), ("why", .str ""), ("steps", .int 0)]) → Q .non H'
section
variable {P : Program} {w : World} {K : PySem.W.Frag} {mg : Str → Option Value} {base : Heap} {Z : Zs K}
abbrev s_Body___init__ : Stmt := inClass (top 57) 0
theorem sc_Body___init__ : FnScope ["self", "kind", "room", "ear"] ["self", "kind", "room", "ear"] (fnScope s_Body___init__) := fnScope_by (by decide +kernel)
theorem ok_Body_init {f : Addr} {fd : FuncData} (M : Mk K Z.CB f) (hm : mg "Body" = some (.ref Z.CB)) (F : C8.Fun K "__init__" "Body.__init__" s_Body___init__ f fd) (b : Binds K fd ["self", "kind", "room", "ear"] []) (T : Txt K mg) : Mak P w K mg base 1 "Body" Z.CB (spBodyInit Z) [] := by
  refine mak0 M hm F b .nil sc_Body___init__ (fun vs H Q E h => ?_) (fun cdv A outer s H vs Q E hr h => ?_)
  · obtain ⟨x, dx, pk, pm, rdx, pear, rf, wd, bb, ns, rfl, _⟩ := h
    rfl
  · obtain ⟨x, dx, pk, pm, rdx, pear, rf, wd, bb, ns, rfl, hx, hpm, hwd, npm, hpe, q⟩ := h
    have nd := sc_Body___init__.nd
    refine ⟨_, (pss_cons (ps_fld (pv 0) (pv 1) rfl)
      (pss_cons (ps_fld (pv 0) (pv 2) rfl)
      (pss_cons (ps_fld (pv 0) pe_non rfl)
      (pss_cons (ps_fld (pv 0) pe_bl rfl)
      (pss_cons (ps_fld (pv 0) (pe_lst (pa_cons pe_int (pa_cons pe_int (pa_cons pe_int (pa_cons pe_int pa_nil))))) rfl)
      (pss_cons (ps_fld (pv 0) pe_int rfl)
      (pss_cons (ps_fld (pv 0) pe_bl rfl)
      (pss_cons (ps_fld (pv 0) (pe_tup (pa_cons pe_int (pa_cons (pe_fld (pv 2) rfl) pa_nil))) rfl)
      (pss_cons (ps_fld (pv 0) pe_int rfl)
      (pss_cons (ps_fld (pv 0) (pe_lst pa_nil) rfl)
      (pss_cons (ps_fld (pv 0) (pe_callTy Y.cl_list (by rfl) T.n_list (by decide +kernel) (pa_cons (pv 3) pa_nil)) rfl)
      (pss_cons (ps_fld (pv 0) pe_str rfl)
      (pss_one (ps_fld (pv 0) pe_int rfl)))))))))))))), ?_⟩
    have npx : pear ≠ x := fun z => by rw [z, hx] at hpe; cases bb <;> cases hpe
    -- one field: the heap is told anew by what is known of it
    have step : ∀ (H1 : Hp) (fs : List (Str × V)) (f : Str) (v : V) (i : Nat) (q1 : Hp → Prop), fldB[i]? = some f → fs.length < 1000 → FrS [x] H H1 → H1 x = some (.ins Z.CB dx fs) → (∀ H2, FrS [x] H1 H2 → FrS [x] H H2 → H2 x = some (.ins Z.CB dx (putF f v fs)) → q1 H2) → Y.SetR K f v q1 (.ref x) H1 := fun H1 fs f v i q1 hi hl f1 e1 h => by
      refine Y.s_setFI e1 Z.b.cls (Z.b.at_ i hi) hl (h _ (FrS.refl.upd (.head _)) (f1.upd (.head _)) upd_same)
    walk_at "b"
    refine Y.s_setF ?_
    walk_at "s"
    refine step _ _ _ _ 0 _ rfl (by decide) FrS.refl hx fun H1 _ f1 e1 => ?_
    walk_at "s"
    refine Y.s_setF ?_
    walk_at "s"
    refine step _ _ _ _ 1 _ rfl (by show 1 < 1000; decide) f1 e1 fun H2 _ f2 e2 => ?_
    walk_at "s"
    refine Y.s_setF ?_
    walk_at "s"
    refine step _ _ _ _ 2 _ rfl (by show 2 < 1000; decide) f2 e2 fun H3 _ f3 e3 => ?_
    walk_at "s"
    refine Y.s_setF ?_
    walk_at "s"
    refine step _ _ _ _ 3 _ rfl (by show 3 < 1000; decide) f3 e3 fun H4 _ f4 e4 => ?_
    walk_at "s"
    refine Y.s_setF ?_
    walk_at "s"
    refine Y.s_new rfl fun px hpx => ?_
    have n5 : x ≠ px := ne_of_none e4 hpx
    walk_at "s"
    refine step _ _ _ _ 4 _ rfl (by show 4 < 1000; decide) (f4.new hpx) ((upd_ne n5).trans e4) fun H5 g5 f5 e5 => ?_
    have x5 : H5 px = some (.lst [.int 0, .int 0, .int 0, .int 0]) := g5 px _ (fun m => n5 (List.mem_singleton.mp m).symm) upd_same
    walk_at "s"
    refine Y.s_setF ?_
    walk_at "s"
    refine step _ _ _ _ 5 _ rfl (by show 5 < 1000; decide) f5 e5 fun H6 g6 f6 e6 => ?_
    walk_at "s"
    refine Y.s_setF ?_
    walk_at "s"
    refine step _ _ _ _ 6 _ rfl (by show 6 < 1000; decide) f6 e6 fun H7 g7 f7 e7 => ?_
    walk_at "s"
    refine Y.s_setF ?_
    walk_at "s"
    refine Y.s_fld ?_
    walk_at "s"
    refine Y.s_fldI (f7 pm _ (fun m => npm (List.mem_singleton.mp m)) hpm) Z.r.cls (Z.r.at_ 3 rfl) hwd ?_
    walk_at "s"
    refine Y.s_new rfl fun pw hpw => ?_
    have n8 : x ≠ pw := ne_of_none e7 hpw
    have x7 : H7 px = some (.lst [.int 0, .int 0, .int 0, .int 0]) := g7 px _ (fun m => n5 (List.mem_singleton.mp m).symm) (g6 px _ (fun m => n5 (List.mem_singleton.mp m).symm) x5)
    walk_at "s"
    refine step _ _ _ _ 7 _ rfl (by show 7 < 1000; decide) (f7.new hpw) ((upd_ne n8).trans e7) fun H8 g8 f8 e8 => ?_
    have w8 : H8 pw = some (.tup [.int 0, .int wd]) := g8 pw _ (fun m => n8 (List.mem_singleton.mp m).symm) upd_same
    have x8 : H8 px = some (.lst [.int 0, .int 0, .int 0, .int 0]) := g8 px _ (fun m => n5 (List.mem_singleton.mp m).symm) (by rw [upd_ne (ne_of_none x7 hpw)]; exact x7)
    walk_at "s"
    refine Y.s_setF ?_
    walk_at "s"
    refine step _ _ _ _ 8 _ rfl (by show 8 < 1000; decide) f8 e8 fun H9 g9 f9 e9 => ?_
    have w9 := g9 pw _ (fun m => n8 (List.mem_singleton.mp m).symm) w8
    have x9 := g9 px _ (fun m => n5 (List.mem_singleton.mp m).symm) x8
    walk_at "s"
    refine Y.s_setF ?_
    walk_at "s"
    refine Y.s_new rfl fun ps hps => ?_
    have n10 : x ≠ ps := ne_of_none e9 hps
    have nxs : px ≠ ps := ne_of_none x9 hps
    walk_at "s"
    refine step _ _ _ _ 9 _ rfl (by show 9 < 1000; decide) (f9.new hps) ((upd_ne n10).trans e9) fun H10 g10 f10 e10 => ?_
    have s10 : H10 ps = some (.lst []) := g10 ps _ (fun m => n10 (List.mem_singleton.mp m).symm) upd_same
    have w10 := g10 pw _ (fun m => n8 (List.mem_singleton.mp m).symm) (by rw [upd_ne (ne_of_none w9 hps)]; exact w9)
    have x10 := g10 px _ (fun m => n5 (List.mem_singleton.mp m).symm) (by rw [upd_ne nxs]; exact x9)
    walk_at "s"
    refine Y.s_setF ?_
    walk_at "s"
    refine s_listB (f10 pear _ (fun m => npx (List.mem_singleton.mp m)) hpe) fun pe hpe2 => ?_
    have n11 : x ≠ pe := ne_of_none e10 hpe2
    have nxe : px ≠ pe := ne_of_none x10 hpe2
    have nse : ps ≠ pe := ne_of_none s10 hpe2
    walk_at "s"
    refine step _ _ _ _ 10 _ rfl (by show 10 < 1000; decide) (f10.new hpe2) ((upd_ne n11).trans e10) fun H11 g11 f11 e11 => ?_
    have ee : H11 pe = some (.lst (ns.map V.int)) := g11 pe _ (fun m => n11 (List.mem_singleton.mp m).symm) upd_same
    have s11 := g11 ps _ (fun m => n10 (List.mem_singleton.mp m).symm) (by rw [upd_ne nse]; exact s10)
    have w11 := g11 pw _ (fun m => n8 (List.mem_singleton.mp m).symm) (by rw [upd_ne (ne_of_none w10 hpe2)]; exact w10)
    have x11 := g11 px _ (fun m => n5 (List.mem_singleton.mp m).symm) (by rw [upd_ne nxe]; exact x10)
    walk_at "s"
    refine Y.s_setF ?_
    walk_at "s"
    refine step _ _ _ _ 11 _ rfl (by show 11 < 1000; decide) f11 e11 fun H12 g12 f12 e12 => ?_
    walk_at "s"
    refine Y.s_setF ?_
    walk_at "s"
    refine step _ _ _ _ 12 _ rfl (by show 12 < 1000; decide) f12 e12 fun H13 g13 f13 e13 => ?_
    walk_at "s"
    have keep : ∀ {p : Addr} {o : HO}, x ≠ p → H11 p = some o → H13 p = some o := fun n h => g13 _ _ (fun m => n (List.mem_singleton.mp m).symm) (g12 _ _ (fun m => n (List.mem_singleton.mp m).symm) h)
    have fresh : ∀ {p : Addr} {H' : Hp}, x ≠ p → FrS [x] H H' → H' p = none → H p = none := fun {p H'} n f h => by
      cases e : H p with
      | none => rfl
      | some o => rw [f p o (fun m => n (List.mem_singleton.mp m).symm) e] at h; cases h
    exact q px pw ps pe H13 f13 (fresh n5 f4 hpx) (fresh n10 f9 hps) (fresh n11 f10 hpe2) nxs nxe nse (keep n5 x11) (keep n8 w11) (keep n10 s11) (keep n11 ee) e13
end
end G
end
section
namespace G
open PySem L2 C8
variable {K : PySem.W.Frag}
/-- what is carried -/
def BundleAt (K : PySem.W.Frag) (H : Hp) (t : Addr) (m : Mc) : Prop := ∃ pc px pw ps pe : Addr, H t = some (.tup [.ref pc, .ref px, .int m.place, .bl m.high, .ref pw, .int m.alarm, .ref ps, .ref pe, .str m.why, .int m.steps]) ∧ H pc = some (.tup (m.cells.map Thing.v)) ∧ H px = some (.tup (m.boxes.map Thing.v)) ∧ H pw = some (.tup [.int m.w0, .int m.w1]) ∧
  H ps = some (.tup (m.said.map V.int)) ∧ H pe = some (.tup (m.ear.map V.int)) ∧ (Things K) H m.cells ∧ (Things K) H m.boxes
theorem BundleAt.tu {H H' : Hp} {t : Addr} {m : Mc} (h : (BundleAt K) H t m) (f : Tu H H') : (BundleAt K) H' t m := by
  obtain ⟨pc, px, pw, ps, pe, h1, h2, h3, h4, h5, h6, h7, h8⟩ := h
  exact ⟨pc, px, pw, ps, pe, f _ _ h1, f _ _ h2, f _ _ h3, f _ _ h4, f _ _ h5, f _ _ h6, h7.tu f, h8.tu f⟩
def spBundled {K : PySem.W.Frag} (Z : Zs K) : Sp := fun vs H Q _ => ∃ A m, vs = [.ref A.pb] ∧ BodyAt Z H A m ∧ ∀ t H', Same H H' → H t = none → (BundleAt K) H' t m → Q (.ref t) H'
theorem tup_of {K : PySem.W.Frag} {H : Hp} {Q : VK} {p : Addr} {xs : List V} (h : H p = some (.lst xs)) (q : ∀ l, H l = none → Q (.ref l) (upd H l (.tup xs))) : Y.rTupleOf K [.ref p] H Q := Y.s_tupleL (SqL.of h) q
section
variable {P : Program} {w : World} {K : PySem.W.Frag} {mg : Str → Option Value} {base : Heap} {Z : Zs K} {CM : Addr}
abbrev s_bundled : Stmt := top 58
theorem sc_bundled : FnScope ["body"] ["body"] (fnScope s_bundled) := fnScope_by (by decide +kernel)
theorem ok_bundled {f : Addr} {fd : FuncData} (F : Def K mg "bundled" s_bundled f fd) (b : Binds K fd ["body"] []) (T : Txt K mg) (m_Room_all_things : Met P w K mg base 7 Z.CR "all_things" (spAllThings Z) []) : Cal P w K mg base 8 "bundled" (spBundled Z) [] := by
  refine cal0 F b .nil sc_bundled (fun vs H Q E h => ?_) (fun cdv A outer s H vs Q E hr h => ?_)
  · obtain ⟨A, m, rfl, _⟩ := h
    rfl
  · obtain ⟨A, m, rfl, k, q⟩ := h
    have nd := sc_bundled.nd
    refine ⟨_, (pss_one (ps_ret (pe_tup (pa_cons (pe_callTy Y.cl_tuple (by rfl) T.n_tuple (by decide +kernel) (pa_cons (pe_mt0 m_Room_all_things hr (by first | decide | omega) (pe_fld (pv 0) rfl)) pa_nil)) (pa_cons (pe_callTy Y.cl_tuple (by rfl) T.n_tuple (by decide +kernel) (pa_cons (pe_fld (pv 0) rfl) pa_nil)) (pa_cons (pe_fld (pv 0) rfl) (pa_cons (pe_fld (pv 0) rfl) (pa_cons (pe_fld (pv 0) rfl) (pa_cons (pe_fld (pv 0) rfl) (pa_cons (pe_callTy Y.cl_tuple (by rfl) T.n_tuple (by decide +kernel) (pa_cons (pe_fld (pv 0) rfl) pa_nil)) (pa_cons (pe_callTy Y.cl_tuple (by rfl) T.n_tuple (by decide +kernel) (pa_cons (pe_fld (pv 0) rfl) pa_nil)) (pa_cons (pe_fld (pv 0) rfl) (pa_cons (pe_fld (pv 0) rfl) pa_nil))))))))))))), ?_⟩
    obtain ⟨pw, e0, ew⟩ := k.ins
    walk_at "b"
    refine Y.s_meth ?_
    refine Y.s_fld ?_
    walk_at "s"
    refine body_fld e0 1 rfl rfl ?_
    refine Y.s_methI (k.room.get (.head _)) rfl ?_
    walk_at "s"
    refine ⟨A, m, rfl, k, fun p1 h1 => ?_⟩
    walk_at "s"
    intro pc hpc
    have sA : Same H (upd (upd H p1 (.lst (m.cells.map Thing.v))) pc (.tup (m.cells.map Thing.v))) := Y.same_new hpc (Y.same_new h1 (Same.refl _))
    have c1 : upd (upd H p1 (.lst (m.cells.map Thing.v))) pc (.tup (m.cells.map Thing.v)) pc = some (.tup (m.cells.map Thing.v)) := upd_same
    generalize upd (upd H p1 (.lst (m.cells.map Thing.v))) pc (.tup (m.cells.map Thing.v)) = HA at sA c1 ⊢
    have kA := k.same sA
    have eA := sA _ _ e0
    have wA := sA _ _ ew
    walk_at "s"
    refine Y.s_fld ?_
    walk_at "s"
    refine body_fld eA 4 rfl rfl ?_
    walk_at "s"
    refine tup_of kA.bx fun px hpx => ?_
    walk_at "s"
    have e2 := (Y.same_new hpx (Same.refl HA) : Same HA (upd HA px (.tup (m.boxes.map Thing.v)))) _ _ eA
    refine Y.s_fld ?_
    walk_at "s"
    refine body_fld e2 5 rfl rfl ?_
    walk_at "s"
    refine Y.s_fld ?_
    walk_at "s"
    refine body_fld e2 6 rfl rfl ?_
    walk_at "s"
    refine Y.s_fld ?_
    walk_at "s"
    refine body_fld e2 7 rfl rfl ?_
    walk_at "s"
    refine Y.s_fld ?_
    walk_at "s"
    refine body_fld e2 8 rfl rfl ?_
    walk_at "s"
    refine Y.s_fld ?_
    walk_at "s"
    refine body_fld e2 9 rfl rfl ?_
    have sB : Same HA (upd HA px (.tup (m.boxes.map Thing.v))) := Y.same_new hpx (Same.refl HA)
    have b1 : upd HA px (.tup (m.boxes.map Thing.v)) px = some (.tup (m.boxes.map Thing.v)) := upd_same
    generalize upd HA px (.tup (m.boxes.map Thing.v)) = HB at sB b1 e2 ⊢
    have kB := kA.same sB
    walk_at "s"
    refine tup_of kB.spk fun ps hps => ?_
    walk_at "s"
    have sC : Same HB (upd HB ps (.tup (m.said.map V.int))) := Y.same_new hps (Same.refl HB)
    have d1 : upd HB ps (.tup (m.said.map V.int)) ps = some (.tup (m.said.map V.int)) := upd_same
    generalize upd HB ps (.tup (m.said.map V.int)) = HC at sC d1 ⊢
    have kC := kB.same sC
    have e3 := sC _ _ e2
    refine Y.s_fld ?_
    walk_at "s"
    refine body_fld e3 10 rfl rfl ?_
    walk_at "s"
    refine tup_of kC.eare fun pe hpe => ?_
    walk_at "s"
    have sD : Same HC (upd HC pe (.tup (m.ear.map V.int))) := Y.same_new hpe (Same.refl HC)
    have f1 : upd HC pe (.tup (m.ear.map V.int)) pe = some (.tup (m.ear.map V.int)) := upd_same
    generalize upd HC pe (.tup (m.ear.map V.int)) = HD at sD f1 ⊢
    have e4 := sD _ _ e3
    refine Y.s_fld ?_
    walk_at "s"
    refine body_fld e4 11 rfl rfl ?_
    walk_at "s"
    refine Y.s_fld ?_
    walk_at "s"
    refine body_fld e4 12 rfl rfl ?_
    walk_at "s"
    refine Y.s_new rfl fun t ht => ?_
    have sE : Same HD (upd HD t (.tup [.ref pc, .ref px, .int m.place, .bl m.high, .ref pw, .int m.alarm, .ref ps, .ref pe, .str m.why, .int m.steps])) := Y.same_new ht (Same.refl HD)
    have sAD : Same HA HD := (sB.trans sC).trans sD
    have fresh : H t = none := by
      cases e : H t with
      | none => rfl
      | some o => rw [sAD _ _ (sA _ _ e)] at ht; cases ht
    walk_at "s"
    exact q t _ ((sA.trans sAD).trans sE) fresh ⟨pc, px, pw, ps, pe, upd_same, sE _ _ (sAD _ _ c1), sE _ _ (sD _ _ (sC _ _ b1)), sE _ _ (sAD _ _ wA), sE _ _ (sD _ _ d1), sE _ _ f1, (cells_in k).same ((sA.trans sAD).trans sE), k.tb.same ((sA.trans sAD).trans sE)⟩
end
end G
end
section
/-! ### what a machine keeps to, wherever it lies -/
namespace G
open PySem L2 C8
/-- what a bundle keeps to -/
structure Mc.Ok (m : Mc) : Prop where
  box : m.boxes.length = 4
  n16 : 16 ≤ m.cells.length
  n40 : m.cells.length ≤ 40
  pl : Nm m.place
  w0 : 0 ≤ m.w0
  w1 : 0 ≤ m.w1
  win : m.w0 + m.w1 ≤ m.cells.length
  al : Nm m.alarm
  ear : ∀ n ∈ m.ear, Nm n
  el : m.ear.length ≤ 20
theorem Mc.Ok.wf {m m0 : Mc} {A : Adr} (o : m.Ok) (w : m0.Wf A) (e : m0.cells = m.cells) : m.Wf A :=
  ⟨o.box, o.n16, o.n40, o.pl, o.w0, o.w1, o.win, o.al, o.ear, by have := o.el; omega, w.bs, w.st, by rw [← e]; exact w.wd, by
    have h := w.fl
    unfold Adr.floor at h ⊢
    rw [← e]; exact h, w.dp⟩
theorem Mc.Wf.ok {m : Mc} {A : Adr} (w : m.Wf A) (h : m.ear.length ≤ 20) : m.Ok := ⟨w.box, w.n16, w.n40, w.pl, w.w0, w.w1, w.win, w.al, w.ear, h⟩
theorem adr_some {K : PySem.W.Frag} {Z : Zs K} {H : Hp} {A : Adr} {m : Mc} (k : BodyAt Z H A m) : ∀ a ∈ A.adrs, ∃ o, H a = some o := fun a ha => by
  obtain ⟨⟨pw, h, _⟩, _⟩ := k
  rw [← A.objs_fst Z pw m] at ha
  obtain ⟨y, hy, rfl⟩ := List.mem_map.mp ha
  exact ⟨_, h y hy⟩
end G
end
section
/-! ### d.update(o), both dicts with keys that are texts and ints -/
namespace Y
open PySem PySem.Spec PyProof.Rows L2
def rUpdate : V → List V → Hp → VK → Prop := fun x vs H Q => ∃ (d o : Addr) (kvs more : List (Key × V)), x = .ref d ∧ vs = [.ref o] ∧ d ≠ o ∧ H d = some (.dK kvs) ∧ H o = some (.dK more) ∧ kvs.length + more.length ≤ sizeLine ∧ Q .non (upd H d (.dK (mergeK kvs more)))
theorem mt_update {X : Cx} : MtR X "dict.update" rUpdate := by
  intro pins s σ H x vs v us Q I rx rv h
  obtain ⟨d, o, kvs, more, ex, ev, hne, e, eo, hl, q⟩ := h
  subst ex
  subst ev
  obtain rfl : v = Value.ref d := rx
  obtain ⟨u, rfl, ru⟩ := vals1 rv
  obtain rfl : u = Value.ref o := ru
  obtain ⟨z, hd, ws, rel, dd⟩ := dk_of I.hok e
  obtain ⟨z2, hd2, ws2, rel2, dd2⟩ := dk_of I.hok eo
  refine call_meetsIn PySem.F.slot_dict_update dd.typeIs PySem.F.entry_dict_update (PySem.F.args_dict_update_2 _ _) (meets_dict_update (mixKind X.prog X.w) d o hne hd2) ⟨ws, ws2, dd, dd2, by rw [← rel.length, ← rel2.length]; exact hl, fun h' h1 h2 hs => ?_⟩
  have he : ∃ q, h'.get? d = some q := let ⟨q, _, _, hq, _⟩ := h1; ⟨q, hq⟩
  have hz : (mergeK kvs more).length ≤ sizeLine := Nat.le_trans (length_mergeK more kvs) hl
  exact ⟨.non, _, d_write (t' := s.toks) I (by rw [e]; exact True.intro) hs he (dk_new hz hd (rel2.merge rel) h1), rfl, q⟩
theorem s_update {H : Hp} {Q : VK} {d o : Addr} {kvs more : List (Key × V)} (hne : d ≠ o) (e : H d = some (.dK kvs)) (eo : H o = some (.dK more)) (hl : kvs.length + more.length ≤ sizeLine) (q : Q .non (upd H d (.dK (mergeK kvs more)))) : rUpdate (.ref d) [.ref o] H Q :=
  ⟨d, o, kvs, more, rfl, rfl, hne, e, eo, hl, q⟩
end Y
end
section
namespace G
open PySem L2 C8
variable {K : PySem.W.Frag}
def fldM : List Str := ["body"]
def Adr.alone (A : Adr) : Prop := A.grd = none ∧ A.rms = [] ∧ A.pre = [] ∧ A.post = [] ∧ A.thr = false
/-- a Machine at x -/
structure MachAt {K : PySem.W.Frag} (Z : Zs K) (CM : Addr) (H : Hp) (x : Addr) (A : Adr) (m : Mc) : Prop where
  ins : ∃ dx, H x = some (.ins CM dx [("body", .ref A.pb)])
  b : BodyAt Z H A m
  al : A.alone
/-- what a step of it may write, and is all fresh -/
def spMachInit {K : PySem.W.Frag} (Z : Zs K) (CM : Addr) : Sp := fun vs H Q _ => ∃ (x dx pk pc pe : Addr) (bs : List Bool) (b1 b2 : Bool) (ts : List Thing) (ns : List Int), vs = [.ref x, .ref pk, .ref pc, .ref pe] ∧ H x = some (.ins CM dx []) ∧ KindAt H pk bs ∧
  H pc = some (LT b1 (ts.map Thing.v)) ∧ (Things K) H ts ∧ 16 ≤ ts.length ∧ ts.length ≤ 40 ∧ H pe = some (LT b2 (ns.map V.int)) ∧ (∀ n ∈ ns, Nm n) ∧ ns.length ≤ 20 ∧
  ∀ (A : Adr) H', FrS [x] H H' → (∀ a ∈ A.adrs, H a = none) → A.pk = pk → A.bs = bs → A.alone → H' x = some (.ins CM dx [("body", .ref A.pb)]) → BodyAt Z H' A (Mc.start ts ns) → Q .non H'
theorem start_wf {A : Adr} {ts : List Thing} {ns : List Int} (h1 : 16 ≤ ts.length) (h2 : ts.length ≤ 40) (hn : ∀ n ∈ ns, Nm n) (hl : ns.length ≤ 20) (hb : A.bs.length = 7) (al : A.alone) (hf : A.rm.first = 0) (hw : A.rm.wide = ts.length) : (Mc.start ts ns).Wf A := by
  obtain ⟨_, a2, a3, a4, _⟩ := al
  have z : Nm 0 := ⟨by decide, by decide⟩
  refine ⟨rfl, h1, h2, z, Int.le_refl 0, ?_, ?_, z, hn, ?_, hb, ?_, hw, ?_, ?_⟩
  · show (0 : Int) ≤ (ts.length : Nat); omega
  · show (0 : Int) + (ts.length : Nat) ≤ (ts.length : Nat); omega
  · show ns.length ≤ 1000; omega
  · rw [a2, a3]; show (0 : Int) + A.rm.first = ((([] : List Thing).length : Nat) : Int); rw [hf]; rfl
  · unfold Adr.floor; rw [a3, a4, List.nil_append, List.append_nil]; show ts.length ≤ 1000; omega
  · rw [a2]; exact Nat.zero_le _
section
variable {P : Program} {w : World} {K : PySem.W.Frag} {mg : Str → Option Value} {base : Heap} {Z : Zs K} {CM : Addr}
abbrev s_Machine___init__ : Stmt := inClass (top 112) 0
theorem sc_Machine___init__ : FnScope ["self", "kind", "cells", "ear"] ["self", "kind", "cells", "ear"] (fnScope s_Machine___init__) := fnScope_by (by decide +kernel)
theorem ok_Machine_init {f : Addr} {fd : FuncData} (cz : Cz K CM fldM) (M : Mk K CM f) (hm : mg "Machine" = some (.ref CM)) (F : C8.Fun K "__init__" "Machine.__init__" s_Machine___init__ f fd) (b : Binds K fd ["self", "kind", "cells", "ear"] []) (T : Txt K mg)
    (c_check_kind : Cal P w K mg base 1 "check_kind" spCheckKind []) (c_check_cells : Cal P w K mg base 4 "check_cells" (spCheckCells2 K) []) (c_check_ear : Cal P w K mg base 2 "check_ear" spCheckEar2 []) (c_room_alone : Cal P w K mg base 3 "room_alone" (spRoomAlone Z) []) (m_Body : Mak P w K mg base 1 "Body" Z.CB (spBodyInit Z) []) : Mak P w K mg base 5 "Machine" CM (spMachInit Z CM) [] := by
  refine mak0 M hm F b .nil sc_Machine___init__ (fun vs H Q E h => ?_) (fun cdv A outer s H vs Q E hr h => ?_)
  · obtain ⟨x, dx, pk, pc, pe, bs, b1, b2, ts, ns, rfl, _⟩ := h
    rfl
  · obtain ⟨x, dx, pk, pc, pe, bs, b1, b2, ts, ns, rfl, hx, hk, hc, ht, l16, l40, he, hn, hl, q⟩ := h
    have nd := sc_Machine___init__.nd
    refine ⟨_, (pss_cons (ps_expr (pe_c c_check_kind hr (by first | decide | omega) (by rfl) (pa_cons (pv 1) pa_nil)))
      (pss_cons (ps_expr (pe_c c_check_cells hr (by first | decide | omega) (by rfl) (pa_cons (pv 2) pa_nil)))
      (pss_cons (ps_expr (pe_c c_check_ear hr (by first | decide | omega) (by rfl) (pa_cons (pv 3) pa_nil)))
      (pss_one (ps_fld (pv 0) (pe_mk m_Body hr (by first | decide | omega) (by rfl) (pa_cons (pv 1) (pa_cons (pe_c c_room_alone hr (by first | decide | omega) (by rfl) (pa_cons (pv 2) pa_nil)) (pa_cons (pv 3) pa_nil)))) rfl))))), ?_⟩
    walk_at "b"
    refine u_ckind hk fun H1 s1 => ?_
    walk_at "s"
    refine u_ccells2 (s1 _ _ hc) (ht.same s1) l16 l40 fun H2 s2 => ?_
    have s12 := s1.trans s2
    walk_at "s"
    refine u_cear2 (s12 _ _ he) hn hl fun H3 s3 => ?_
    have s13 := s12.trans s3
    walk_at "s"
    refine Y.s_setF ?_
    walk_at "s"
    refine s_make ?_
    walk_at "s"
    refine ⟨b1, pc, ts.map Thing.v, rfl, s13 _ _ hc, by rw [List.length_map]; omega, fun r pf H4 s4 nr nf hr0 hrw hro hpf => ?_⟩
    have s14 := s13.trans s4
    have fresh : ∀ {p : Addr} {H' : Hp}, Same H H' → H' p = none → H p = none := fun {p H'} f h => by
      cases e : H p with
      | none => rfl
      | some o => rw [f p o e] at h; cases h
    walk_at "s"
    intro pb dx2 hpb hdx2 hne
    have er := hro (r.pm, _) (.head _)
    have n1 : r.pm ≠ pb := ne_of_none er hpb
    have n2 : r.pm ≠ dx2 := ne_of_none er hdx2
    have sm5 : Same H4 (upd (upd H4 dx2 (.own pb)) pb (.ins Z.CB dx2 [])) := fun c u hc => by
      rw [upd_ne (ne_of_none hc hpb), upd_ne (ne_of_none hc hdx2)]; exact hc
    refine ⟨pb, dx2, pk, r.pm, r.dx, pe, _, r.wide, b2, ns, rfl, upd_same, sm5 _ _ er, rfl, n1, sm5 _ _ (s14 _ _ he), fun px pw ps pe2 H6 f6 npx nps npe n3 n4 n5 ex ew es ee eb => ⟨rfl, ?_⟩⟩
    have up : ∀ {p : Addr}, (upd (upd H4 dx2 (.own pb)) pb (.ins Z.CB dx2 [])) p = none → H4 p = none := fun {p} h => by
      cases e : H4 p with
      | none => rfl
      | some o => rw [sm5 p o e] at h; cases h
    have keep : ∀ {p : Addr} {o : HO}, H4 p = some o → H6 p = some o := fun {p o} h => f6 p o (fun m => ne_of_none h hpb (List.mem_singleton.mp m)) (sm5 p o h)
    have sm6 : Same H H6 := fun p o h => keep (s14 p o h)
    walk_at "s"
    refine Y.s_setFI (sm6 _ _ hx) cz.cls (cz.at_ 0 rfl) (by decide) ?_
    walk_at "s"
    have hx6 := sm6 _ _ hx
    have nA : ∀ p, H p = none → p ≠ x := fun p h z => by rw [z, hx] at h; cases h
    refine q ⟨pb, dx2, pk, px, ps, pe2, pf, bs, none, false, r, [], [], []⟩ _ ?_ ?_ rfl rfl ⟨rfl, rfl, rfl, rfl, rfl⟩ upd_same ?_
    · exact FrS.trans (fun p o _ h => sm6 p o h) (FrS.refl.upd (.head _))
    · intro a ha
      simp only [Adr.adrs, Gd.adrs, List.nil_append, List.map_cons, List.map_nil, List.mem_cons, List.not_mem_nil, or_false] at ha
      rcases ha with rfl | rfl | rfl | rfl | rfl | rfl
      · exact fresh s14 hpb
      · exact fresh s14 (up npx)
      · exact fresh s14 (up nps)
      · exact fresh s14 (up npe)
      · exact fresh s13 nf
      · exact fresh s13 nr
    · have pfn : ∀ p, H4 p = none → p ≠ pf := fun p h z => by rw [z, hpf] at h; cases h
      have prn : ∀ p, H4 p = none → p ≠ r.pm := fun p h z => by rw [z, er] at h; cases h
      have pbn : ∀ p o, H6 p = some (.lst o) → p ≠ pb := fun p o h z => by rw [z, eb] at h; cases h
      have frp : pf ≠ r.pm := fun z => by rw [z, er] at hpf; cases hpf
      have tu6 : Tu H H6 := fun p xs h => sm6 p _ h
      have tu7 : Tu H6 (upd H6 x (.ins CM dx (putF "body" (.ref pb) []))) := tu_ins hx6
      have hdx : ∀ {p : Addr} {o : HO}, p ≠ x → H6 p = some o → upd H6 x (.ins CM dx (putF "body" (.ref pb) [])) p = some o := fun n h => by rw [upd_ne n]; exact h
      have nxb : pb ≠ x := nA _ (fresh s14 hpb)
      have nxx : px ≠ x := nA _ (fresh s14 (up npx))
      have nxs : ps ≠ x := nA _ (fresh s14 (up nps))
      have nxe : pe2 ≠ x := nA _ (fresh s14 (up npe))
      have nxf : pf ≠ x := nA _ (fresh s13 nf)
      have nxr : r.pm ≠ x := nA _ (fresh s13 nr)
      have nww : r.wide = ts.length := by rw [hrw, List.length_map]
      refine ⟨⟨pw, ?_, ?_⟩, tu7 _ _ (tu6 _ _ hk.1), ?_, ?_, ?_, start_wf l16 l40 hn hl hk.2 ⟨rfl, rfl, rfl, rfl, rfl⟩ hr0 nww⟩
      · intro y my
        simp only [Adr.objs, Gd.objs, rmObjs, List.nil_append, List.mem_cons, List.not_mem_nil, or_false] at my
        rcases my with rfl | rfl | rfl | rfl | rfl | rfl
        · exact hdx nxb eb
        · exact hdx nxx ex
        · exact hdx nxs es
        · exact hdx nxe ee
        · refine hdx nxf (keep ?_)
          unfold Adr.floor Mc.start
          rw [List.nil_append, List.append_nil]
          exact hpf
        · exact hdx nxr (keep er)
      · refine tu7 _ _ ?_
        rw [nww] at ew
        exact ew
      · unfold Adr.floor Mc.start
        rw [List.nil_append, List.append_nil]
        exact (ht.tu tu6).tu tu7
      · intro t mt
        rw [List.eq_of_mem_replicate mt]
        exact ⟨by decide, by decide⟩
      · simp only [Adr.adrs, Gd.adrs, List.nil_append, List.map_cons, List.map_nil, List.nodup_cons, List.mem_cons, List.not_mem_nil, or_false, not_or, not_false_eq_true, List.nodup_nil, and_true]
        exact ⟨⟨fun z => pbn px _ ex z.symm, fun z => pbn ps _ es z.symm, fun z => pbn pe2 _ ee z.symm, fun z => pfn pb hpb z, fun z => n1 z.symm⟩, ⟨n3, n4, pfn _ (up npx), prn _ (up npx)⟩, ⟨n5, pfn _ (up nps), prn _ (up nps)⟩, ⟨pfn _ (up npe), prn _ (up npe)⟩, frp⟩
end
end G
end
section
namespace G
open PySem L2 C8
variable {K : PySem.W.Frag}
theorem MachAt.same {K : PySem.W.Frag} {Z : Zs K} {CM : Addr} {H H' : Hp} {x : Addr} {A : Adr} {m : Mc} (k : MachAt Z CM H x A m) (s : Same H H') : MachAt Z CM H' x A m := by
  obtain ⟨⟨dx, e⟩, b, al⟩ := k
  exact ⟨⟨dx, s _ _ e⟩, b.same s, al⟩
/-- the Machine's own object is none of those that a step writes -/
theorem own_mach {K : PySem.W.Frag} {Z : Zs K} {CM : Addr} {H : Hp} {A : Adr} {m : Mc} (k : BodyAt Z H A m) {x dx : Addr} (hp : x ∈ A.own) (e : H x = some (.ins CM dx [("body", .ref A.pb)])) : False := by
  obtain ⟨⟨pw, h, hw⟩, _⟩ := k
  have h5 : ∀ x ∈ A.objs Z pw m, H x.1 = some x.2 := h
  unfold Adr.own at hp
  rcases List.mem_cons.mp hp with rfl | hp
  · have := h5 _ (.head _); rw [e] at this; cases this
  rcases List.mem_cons.mp hp with rfl | hp
  · have := h5 _ (.tail _ (.head _)); rw [e] at this; cases this
  rcases List.mem_cons.mp hp with rfl | hp
  · have := h5 _ (.tail _ (.tail _ (.head _))); rw [e] at this; cases this
  rcases List.mem_cons.mp hp with rfl | hp
  · have := h5 _ (.tail _ (.tail _ (.tail _ (.head _)))); rw [e] at this; cases this
  rcases List.mem_cons.mp hp with rfl | hp
  · have := h5 _ (.tail _ (.tail _ (.tail _ (.tail _ (.head _))))); rw [e] at this; cases this
  cases hg : A.grd with
  | none => rw [hg] at hp; cases hp
  | some g =>
    rw [hg] at hp
    rcases List.mem_cons.mp hp with rfl | hp
    · have hm : (g.pgs, HO.lst (m.gsaid.map V.int)) ∈ A.objs Z pw m := by
        unfold Adr.objs
        rw [hg]
        exact .tail _ (.tail _ (.tail _ (.tail _ (.tail _ (.head _)))))
      have := h5 _ hm
      rw [e] at this; cases this
    · cases hp
def spMachGo {K : PySem.W.Frag} (Z : Zs K) (CM : Addr) : Sp := fun vs H Q _ => ∃ (x : Addr) (A : Adr) (m : Mc) (n : Int), vs = [.ref x, .int n] ∧ MachAt Z CM H x A m ∧ 0 ≤ n ∧ n ≤ 400 ∧ m.said.length + n.toNat ≤ 90000 ∧ m.gsaid.length + n.toNat ≤ 90000 ∧ ∀ H', FrS A.own H H' → MachAt Z CM H' x A (m.goes A n.toNat).1 → Q (.int ((m.goes A n.toNat).2 : Nat)) H'
def spMachSaid {K : PySem.W.Frag} (Z : Zs K) (CM : Addr) : Sp := fun vs H Q _ => ∃ (x : Addr) (A : Adr) (m : Mc), vs = [.ref x] ∧ MachAt Z CM H x A m ∧ ∀ t, H t = none → Q (.ref t) (upd H t (.lst (m.said.map V.int)))
def spMachCarried {K : PySem.W.Frag} (Z : Zs K) (CM : Addr) : Sp := fun vs H Q _ => ∃ (x : Addr) (A : Adr) (m : Mc), vs = [.ref x] ∧ MachAt Z CM H x A m ∧ ∀ t H', Same H H' → H t = none → (BundleAt K) H' t m → Q (.ref t) H'
section
variable {P : Program} {w : World} {K : PySem.W.Frag} {mg : Str → Option Value} {base : Heap} {Z : Zs K} {CM : Addr}
abbrev s_Machine_go : Stmt := inClass (top 112) 1
theorem sc_Machine_go : FnScope ["self", "many"] ["self", "many"] (fnScope s_Machine_go) := fnScope_by (by decide +kernel)
theorem ok_Machine_go {f : Addr} {fd : FuncData} (cz : Cz K CM fldM) (me : Meth K CM "go" f) (F : C8.Fun K "go" "Machine.go" s_Machine_go f fd) (b : Binds K fd ["self", "many"] []) (T : Txt K mg) (c_check_steps : Cal P w K mg base 3 "check_steps" spCheckSteps []) (c_let_go : Cal P w K mg base 14 "let_go" (sp_let_go Z) []) : Met P w K mg base 15 CM "go" (spMachGo Z CM) [] := by
  refine met0 cz.cls me F b sc_Machine_go (fun vs H Q E h => ?_) (fun cdv A outer s H vs Q E hr h => ?_)
  · obtain ⟨x, A, m, n, rfl, _⟩ := h
    rfl
  · obtain ⟨x, A, m, n, rfl, k, h0, h4, l1, l2, q⟩ := h
    have nd := sc_Machine_go.nd
    refine ⟨_, (pss_cons (ps_expr (pe_c c_check_steps hr (by first | decide | omega) (by rfl) (pa_cons (pv 1) pa_nil)))
      (pss_one (ps_ret (pe_c c_let_go hr (by first | decide | omega) (by rfl) (pa_cons (pe_fld (pv 0) rfl) (pa_cons (pv 1) pa_nil)))))), ?_⟩
    obtain ⟨⟨dx, e0⟩, kb, al⟩ := k
    walk_at "b"
    refine u_csteps h0 h4 ?_
    walk_at "s"
    refine Y.s_fld ?_
    walk_at "s"
    refine Y.s_fldI e0 cz.cls (cz.at_ 0 rfl) rfl ?_
    walk_at "s"
    refine u_letgo kb h0 (by omega) l1 l2 fun H1 f1 k1 => ?_
    refine q H1 f1 ⟨⟨dx, f1 x _ (fun z => own_mach kb z e0) e0⟩, k1, al⟩
abbrev s_Machine_said : Stmt := inClass (top 112) 2
theorem sc_Machine_said : FnScope ["self"] ["self"] (fnScope s_Machine_said) := fnScope_by (by decide +kernel)
theorem ok_Machine_said {f : Addr} {fd : FuncData} (cz : Cz K CM fldM) (me : Meth K CM "said" f) (F : C8.Fun K "said" "Machine.said" s_Machine_said f fd) (b : Binds K fd ["self"] []) (T : Txt K mg) : Met P w K mg base 1 CM "said" (spMachSaid Z CM) [] := by
  refine met0 cz.cls me F b sc_Machine_said (fun vs H Q E h => ?_) (fun cdv A outer s H vs Q E hr h => ?_)
  · obtain ⟨x, A, m, rfl, _⟩ := h
    rfl
  · obtain ⟨x, A, m, rfl, k, q⟩ := h
    have nd := sc_Machine_said.nd
    refine ⟨_, (pss_one (ps_ret (pe_callTy Y.cl_list (by rfl) T.n_list (by decide +kernel) (pa_cons (pe_fld (pe_fld (pv 0) rfl) rfl) pa_nil)))), ?_⟩
    obtain ⟨⟨dx, e0⟩, kb, al⟩ := k
    obtain ⟨pw, e1, _⟩ := kb.ins
    walk_at "b"
    refine Y.s_fld ?_
    refine Y.s_fld ?_
    walk_at "s"
    refine Y.s_fldI e0 cz.cls (cz.at_ 0 rfl) rfl ?_
    refine body_fld e1 9 rfl rfl ?_
    walk_at "s"
    exact Y.s_listL (SqL.of kb.spk) q
abbrev s_Machine_carried : Stmt := inClass (top 112) 3
theorem sc_Machine_carried : FnScope ["self"] ["self"] (fnScope s_Machine_carried) := fnScope_by (by decide +kernel)
theorem ok_Machine_carried {f : Addr} {fd : FuncData} (cz : Cz K CM fldM) (me : Meth K CM "carried" f) (F : C8.Fun K "carried" "Machine.carried" s_Machine_carried f fd) (b : Binds K fd ["self"] []) (T : Txt K mg) (c_bundled : Cal P w K mg base 8 "bundled" (spBundled Z) []) : Met P w K mg base 9 CM "carried" (spMachCarried Z CM) [] := by
  refine met0 cz.cls me F b sc_Machine_carried (fun vs H Q E h => ?_) (fun cdv A outer s H vs Q E hr h => ?_)
  · obtain ⟨x, A, m, rfl, _⟩ := h
    rfl
  · obtain ⟨x, A, m, rfl, k, q⟩ := h
    have nd := sc_Machine_carried.nd
    refine ⟨_, (pss_one (ps_ret (pe_c c_bundled hr (by first | decide | omega) (by rfl) (pa_cons (pe_fld (pv 0) rfl) pa_nil)))), ?_⟩
    obtain ⟨⟨dx, e0⟩, kb, al⟩ := k
    walk_at "b"
    refine Y.s_fld ?_
    walk_at "s"
    refine Y.s_fldI e0 cz.cls (cz.at_ 0 rfl) rfl ?_
    walk_at "s"
    exact ⟨A, m, rfl, kb, q⟩
end
end G
end
section
/-! ### what a machine may write -/
namespace G
open PySem L2 C8
section
variable {K : PySem.W.Frag} {Z : Zs K} {H H' : Hp} {A : Adr} {m : Mc}
theorem own_kind (k : BodyAt Z H A m) : ∀ p ∈ A.own, (∃ xs, H p = some (.lst xs)) ∨ ∃ C dx fs, H p = some (.ins C dx fs) := fun p hp => by
  obtain ⟨⟨pw, h, hw⟩, _⟩ := k
  have h5 : ∀ x ∈ A.objs Z pw m, H x.1 = some x.2 := h
  unfold Adr.own at hp
  rcases List.mem_cons.mp hp with rfl | hp
  · exact .inr ⟨_, _, _, h5 _ (.head _)⟩
  rcases List.mem_cons.mp hp with rfl | hp
  · exact .inl ⟨_, h5 _ (.tail _ (.head _))⟩
  rcases List.mem_cons.mp hp with rfl | hp
  · exact .inl ⟨_, h5 _ (.tail _ (.tail _ (.head _)))⟩
  rcases List.mem_cons.mp hp with rfl | hp
  · exact .inl ⟨_, h5 _ (.tail _ (.tail _ (.tail _ (.head _))))⟩
  rcases List.mem_cons.mp hp with rfl | hp
  · exact .inl ⟨_, h5 _ (.tail _ (.tail _ (.tail _ (.tail _ (.head _)))))⟩
  cases hg : A.grd with
  | none => rw [hg] at hp; cases hp
  | some g =>
    rw [hg] at hp
    rw [List.mem_singleton.mp hp]
    refine .inl ⟨_, h5 (g.pgs, HO.lst (m.gsaid.map V.int)) ?_⟩
    unfold Adr.objs
    rw [hg]
    exact .tail _ (.tail _ (.tail _ (.tail _ (.tail _ (.head _)))))
theorem tu_own (k : BodyAt Z H A m) (f : FrS A.own H H') : Tu H H' := fun p xs h => f p _ (fun hp => by
  rcases own_kind k p hp with ⟨ys, e⟩ | ⟨C, dx, fs, e⟩ <;> rw [h] at e <;> cases e) h
theorem st_own {a : Addr} (h : StAt K H a) (k : BodyAt Z H A m) (n : a ∉ A.own) (f : FrS A.own H H') : StAt K H' a := by
  obtain ⟨p, ns, i, mm, r, e, q, z⟩ := h
  refine ⟨p, ns, i, mm, r, f a _ n e, ?_, z⟩
  rcases q with ⟨o, q⟩ | q
  · refine .inl ⟨o, f p _ (fun hp => ?_) q⟩
    rcases own_kind k p hp with ⟨ys, e⟩ | ⟨C, dx, fs, e⟩ <;> rw [q] at e <;> cases e
  · exact .inr q
end
end G
end
section
/-! ### machines beside one another; the same machine at two places -/
namespace G
open PySem L2 C8
variable {K : PySem.W.Frag}
theorem byGround_none {A : Adr} {m : Mc} {z : Str} (h : A.grd = none) : m.byGround A z = false := by unfold Mc.byGround; rw [h]; rfl
section
variable {A A2 : Adr} (g1 : A.grd = none) (g2 : A2.grd = none) (eb : A.bs = A2.bs)
include g1 g2
theorem act_congr (m : Mc) (r : Row) : m.act A r = m.act A2 r := by cases r <;> simp only [Mc.act, byGround_none g1, byGround_none g2]
theorem doRow_congr (m : Mc) (r : Row) : m.doRow A r = m.doRow A2 r := by unfold Mc.doRow; rw [act_congr g1 g2]
include eb
theorem step_congr (m : Mc) : m.step A = m.step A2 := by
  unfold Mc.step Mc.step1
  rw [eb]
  split
  · split
    · exact doRow_congr g1 g2 _ _
    · rfl
  · rfl
theorem goes_congr : ∀ (n : Nat) (m : Mc), m.goes A n = m.goes A2 n
  | 0, _ => rfl
  | n + 1, m => by
    show (if m.why = "" then _ else _) = (if m.why = "" then _ else _)
    rw [step_congr g1 g2 eb, goes_congr n]
end
theorem goes_count (A : Adr) : ∀ (n : Nat) (m : Mc), (m.goes A n).2 ≤ n
  | 0, _ => Nat.le_refl _
  | n + 1, m => by
    show (if m.why = "" then _ else _ : Mc × Nat).2 ≤ n + 1
    split
    · exact Nat.succ_le_succ (goes_count A n _)
    · exact Nat.zero_le _
theorem catch_ear {m : Mc} (n : Int) : (m.catch_ n).ear = m.ear := by
  unfold Mc.catch_ Mc.mkHigh
  split
  · rfl
  · split <;> rfl
theorem lessens_ear {m : Mc} : m.lessens.ear = m.ear := by
  unfold Mc.lessens
  split
  · split
    · exact catch_ear (m := { m with alarm := 0 }) 4
    · rfl
  · rfl
theorem hears_ear {m : Mc} (b : Int) : (m.hears b).ear.length ≤ m.ear.length := by
  unfold Mc.hears
  cases h : m.ear with
  | nil => show m.ear.length ≤ _; rw [h]; exact Nat.le_refl _
  | cons n r => exact Nat.le_succ _
theorem act_ear {A : Adr} {m : Mc} (r : Row) : (m.act A r).ear.length ≤ m.ear.length := by
  cases r <;> dsimp only [Mc.act] <;> (try split) <;> (try split) <;> first
    | exact Nat.le_refl _
    | exact hears_ear _
    | (unfold Mc.enters; split <;> exact Nat.le_refl _)
theorem step_ear {A : Adr} {m : Mc} : (m.step A).ear.length ≤ m.ear.length := by
  unfold Mc.step Mc.step1
  split
  · split
    · unfold Mc.doRow
      split
      · exact act_ear (m := { { m with steps := m.steps + 1 } with place := m.place + 1 }) _
      · rw [lessens_ear]
        exact act_ear (m := { { m with steps := m.steps + 1 } with place := m.place + 1 }) _
    · exact Nat.le_refl _
  · rw [catch_ear]
    exact Nat.le_refl _
theorem act_gs {A : Adr} (g : A.grd = none) {m : Mc} (r : Row) : (m.act A r).gsaid = m.gsaid := by
  cases r <;> simp only [Mc.act, byGround_none g, Bool.false_eq_true, if_false] <;> (try split) <;> first
    | rfl
    | (unfold Mc.hears; split <;> rfl)
    | (unfold Mc.enters; split <;> rfl)
theorem step_gs {A : Adr} (g : A.grd = none) {m : Mc} : (m.step A).gsaid = m.gsaid := by
  unfold Mc.step Mc.step1
  split
  · split
    · unfold Mc.doRow
      split
      · exact act_gs g (m := { { m with steps := m.steps + 1 } with place := m.place + 1 }) _
      · rw [lessens_said.2]
        exact act_gs g (m := { { m with steps := m.steps + 1 } with place := m.place + 1 }) _
    · rfl
  · exact (catch_said _).2
theorem goes_keeps {A : Adr} (g : A.grd = none) : ∀ (n : Nat) (m : Mc), (m.goes A n).1.gsaid = m.gsaid ∧ (m.goes A n).1.ear.length ≤ m.ear.length ∧ (m.goes A n).1.said.length ≤ m.said.length + n
  | 0, _ => ⟨rfl, Nat.le_refl _, Nat.le_refl _⟩
  | n + 1, m => by
    show (if m.why = "" then _ else _ : Mc × Nat).1.gsaid = _ ∧ (if m.why = "" then _ else _ : Mc × Nat).1.ear.length ≤ _ ∧ (if m.why = "" then _ else _ : Mc × Nat).1.said.length ≤ _
    split
    · obtain ⟨h1, h2, h3⟩ := goes_keeps g n (m.step A)
      have s1 := step_said (A := A) (m := m)
      have s2 := s1.1
      refine ⟨h1.trans (step_gs g), Nat.le_trans h2 step_ear, Nat.le_trans h3 ?_⟩
      omega
    · exact ⟨rfl, Nat.le_refl _, Nat.le_add_right _ _⟩
section
variable {K : PySem.W.Frag} {Z : Zs K} {CM : Addr} {H H' : Hp} {A A2 : Adr} {m m2 : Mc} {x x2 : Addr}
theorem own_sub (al : A.alone) : ∀ a ∈ A.own, a ∈ A.adrs := fun a ha => by
  unfold Adr.own at ha
  rw [al.1] at ha
  unfold Adr.adrs
  rcases List.mem_cons.mp ha with rfl | ha
  · exact .head _
  rcases List.mem_cons.mp ha with rfl | ha
  · exact .tail _ (.head _)
  rcases List.mem_cons.mp ha with rfl | ha
  · exact .tail _ (.tail _ (.head _))
  rcases List.mem_cons.mp ha with rfl | ha
  · exact .tail _ (.tail _ (.tail _ (.head _)))
  · rw [List.mem_singleton.mp ha]
    exact .tail _ (.tail _ (.tail _ (.tail _ (.head _))))
theorem MachAt.fr {S : List Addr} (k : MachAt Z CM H x A m) (f : FrS S H H') (d : ∀ a ∈ x :: A.adrs, a ∉ S) (tu : Tu H H') : MachAt Z CM H' x A m := by
  obtain ⟨⟨dx, e⟩, b, al⟩ := k
  exact ⟨⟨dx, f x _ (d x (.head _)) e⟩, b.fr f (fun a ha => d a (.tail _ ha)) tu, al⟩
theorem MachAt.draw {a : Addr} (k : MachAt Z CM H x A m) (h : StAt K H a) (f : Fr a H H') (d : a ∉ x :: A.adrs) : MachAt Z CM H' x A m :=
  k.fr (S := [a]) (fun b o n e => f b o (fun z => n (by rw [z]; exact .head _)) e) (fun b hb m => d (by rw [← List.mem_singleton.mp m]; exact hb)) fun p xs e => f p _ (ne_of e h.spec fun z => nomatch z) e
/-- what is carried of one machine, twice -/
theorem sm_ints {H : Hp} {p1 p2 : Addr} {ns : List Int} (h1 : H p1 = some (.tup (ns.map V.int))) (h2 : H p2 = some (.tup (ns.map V.int))) (hl : ns.length ≤ 10000) : Sm K H 3 (.ref p1) (.ref p2) := by
  refine .inr ⟨p1, p2, _, _, rfl, rfl, .inr ⟨.inl h1, .inl h2⟩, rfl, by rw [List.length_map]; exact hl, fun i u v e1 e2 => ?_⟩
  rw [e1] at e2
  obtain rfl := Option.some.inj e2
  obtain ⟨n, _, rfl⟩ := map_at e1
  exact .inl ⟨rfl, rfl⟩
theorem smr {H : Hp} {p : Addr} {r : Row} (h : TpAt K H p r.vs) : Sm K H 2 (.ref p) (.ref p) := by
  refine .inr ⟨p, p, r.vs, r.vs, rfl, rfl, .inr ⟨h, h⟩, rfl, by cases r <;> exact Nat.le_of_ble_eq_true rfl, fun i u v e1 e2 => ?_⟩
  rw [e1] at e2
  obtain rfl := Option.some.inj e2
  refine .inl ⟨?_, rfl⟩
  have g : u ∈ r.vs := List.mem_of_getElem? e1
  cases r <;> simp only [Row.vs, List.mem_cons, List.not_mem_nil, or_false] at g <;> (repeat (first | (rcases g with rfl | g; rfl) | (subst g; rfl)))
theorem smt {H : Hp} {t : Thing} (h : t.At K H) : Sm K H 2 t.v t.v := by
  cases t with
  | num n => exact .inl ⟨rfl, rfl⟩
  | row p r => exact smr h.1
theorem sm_tup {H : Hp} {p1 p2 : Addr} {ts : List Thing} (h1 : H p1 = some (.tup (ts.map Thing.v))) (h2 : H p2 = some (.tup (ts.map Thing.v))) (ht : (Things K) H ts) (hl : ts.length ≤ 10000) : Sm K H 3 (.ref p1) (.ref p2) :=
  .inr ⟨p1, p2, _, _, rfl, rfl, .inr ⟨.inl h1, .inl h2⟩, rfl, by rw [List.length_map]; exact hl, fun i u v e1 e2 => by
    rw [e1] at e2
    obtain rfl := Option.some.inj e2
    obtain ⟨t, et, rfl⟩ := map_at e1
    exact smt (ht t (List.mem_of_getElem? et))⟩
theorem sm_bundle {H : Hp} {t1 t2 : Addr} {m : Mc} (h1 : (BundleAt K) H t1 m) (h2 : (BundleAt K) H t2 m) (o : m.Ok) (hs : m.said.length ≤ 10000) : Sm K H 4 (.ref t1) (.ref t2) := by
  obtain ⟨pc, px, pw, ps, pe, a1, a2, a3, a4, a5, a6, a7, a8⟩ := h1
  obtain ⟨qc, qx, qw, qs, qe, b1, b2, b3, b4, b5, b6, b7, b8⟩ := h2
  refine .inr ⟨t1, t2, _, _, rfl, rfl, .inr ⟨.inl a1, .inl b1⟩, rfl, by show 10 ≤ 10000; decide, fun i u v e1 e2 => ?_⟩
  rcases i with _ | _ | _ | _ | _ | _ | _ | _ | _ | _ | i
  · cases e1; cases e2; exact sm_tup a2 b2 a7 (Nat.le_trans o.n40 (by decide))
  · cases e1; cases e2; exact sm_tup a3 b3 a8 (by rw [o.box]; decide)
  · cases e1; cases e2; exact .inl ⟨rfl, rfl⟩
  · cases e1; cases e2; exact .inl ⟨rfl, rfl⟩
  · cases e1; cases e2; exact sm_ints (ns := [m.w0, m.w1]) a4 b4 (by show 2 ≤ 10000; decide)
  · cases e1; cases e2; exact .inl ⟨rfl, rfl⟩
  · cases e1; cases e2; exact sm_ints a5 b5 hs
  · cases e1; cases e2; exact sm_ints a6 b6 (Nat.le_trans o.el (by decide))
  · cases e1; cases e2; exact .inl ⟨rfl, rfl⟩
  · cases e1; cases e2; exact .inl ⟨rfl, rfl⟩
  · cases e1
end
end G
end
section
/-! ### the law's own machine, in the heap: a dict with text keys -/
namespace Y
open PySem L2 C8
section
variable {σ : L2.St} {H : Hp} {Q : VK} {v x y : V} {n k : Nat} {ta tb tc td ty tv te : TE} {A : TA} {D : Ends} {K : PySem.W.Frag} {p : Addr} {xs : List V}
def DpR (v : V) (q : Hp → Prop) : V → V → Hp → Prop := fun x y H3 => ∃ a H4, x = .ref a ∧ DPut H3 a y v H4 ∧ q H4
theorem s_dput (q : tv σ H fun v H1 => td σ H1 fun x H2 => ty σ H2 fun y H3 => DpR v (D.nx σ) x y H3) : sDPut td ty tv D σ H := q
theorem s_dputS {p : Addr} {kvs new : List (Key × V)} {z : Str} {v : V} {q : Hp → Prop} (h : H p = some (.dK kvs)) (hl : Nat.ble kvs.length 100 = true) (e : putK kvs (Sum.inr z) v = new) (h2 : q (upd H p (.dK new))) : DpR v q (.ref p) (.str z) H :=
  ⟨p, _, rfl, DPut.k (k := Sum.inr z) h (Nat.lt_of_le_of_lt (Nat.le_of_ble_eq_true hl) (by decide)), by rw [e]; exact h2⟩
theorem s_bmD {r : V → List V → Hp → VK → Prop} {t : TA} {kvs : List (Key × V)} (h : H p = some (.dK kvs)) (q : t σ H fun xs H2 => r (.ref p) xs H2 Q) : G.BMR K "dict" r t σ Q (.ref p) H := ⟨.inr (.inr (.inl ⟨rfl, .inl ⟨kvs, h⟩⟩)), q⟩
/-- .. its keys are ints -/
theorem s_dendI {ps : List (V × V)} {p : Addr} (kvs : List (Int × V)) (e : H p = some (.dK [])) (hp : ps = kvs.map fun kv => (V.int kv.1, kv.2)) (nd : decide (kvs.map (·.1)).Nodup = true) (hl : Nat.ble kvs.length 15 = true)
    (q : Q (.ref p) (upd H p (.dK (kvs.map fun kv => ((Sum.inl kv.1 : Key), kv.2))))) : DRest Q p ps H := by
  refine ⟨e, kvs.map fun kv => ((Sum.inl kv.1 : Key), kv.2), ?_, ?_, ?_⟩
  · rw [hp, List.map_map]; rfl
  · rw [List.length_map]; exact Nat.le_of_ble_eq_true hl
  · rw [merge_nd _ [] ?_ (fun _ _ => rfl), List.nil_append]
    · exact q
    · have h1 := of_decide_eq_true nd
      rw [List.map_map]
      have e1 : ((fun kv : Key × V => kv.1) ∘ fun kv : Int × V => ((Sum.inl kv.1 : Key), kv.2)) = (fun i => Sum.inl i) ∘ fun kv => kv.1 := rfl
      rw [e1, ← List.map_map]
      have h2 : ∀ is : List Int, is.Nodup → (is.map fun i => (Sum.inl i : Key)).Nodup := by
        intro is
        induction is with
        | nil => intro _; exact List.nodup_nil
        | cons a r ih =>
          intro h
          have h' := List.nodup_cons.mp h
          refine List.nodup_cons.mpr ⟨fun m => ?_, ih h'.2⟩
          obtain ⟨z, hz, e⟩ := List.mem_map.mp m
          exact h'.1 (by rw [← show z = a from Sum.inl.inj e]; exact hz)
      exact h2 _ h1
theorem s_dgetI {p : Addr} {kvs : List (Key × V)} {i : Int} {w : V} (h : H p = some (.dK kvs)) (e : valV kvs (Sum.inl i) = some w) (q : Q w H) : DgR Q (.ref p) (.int i) H := ⟨p, w, rfl, by rw [← e]; exact DGet.k (k := Sum.inl i) h, q⟩
theorem s_updateS {d o : Addr} {kvs more new : List (Key × V)} (hne : d ≠ o) (e : H d = some (.dK kvs)) (eo : H o = some (.dK more)) (hl : kvs.length + more.length ≤ sizeLine) (hm : mergeK kvs more = new) (q : Q .non (upd H d (.dK new))) : rUpdate (.ref d) [.ref o] H Q := s_update hne e eo hl (by rw [hm]; exact q)
theorem s_slL {lo hi : Option Int} {ys : List V} (h : SqL K H p xs) (e : cutV xs lo hi = ys) (q : ∀ p', H p' = none → Q (.ref p') (upd H p' (.lst ys))) : rSlL K (.ref p) lo hi H Q := ⟨p, xs, rfl, h, by rw [e]; exact q⟩
theorem s_gUnl {t : TGs} {Q : L2.St → Hp → Prop} (h : SqL K H p xs) (hl : xs.length = n) (q : t xs σ H Q) : gUnl K n t (.ref p) σ H Q := ⟨p, xs, rfl, h, hl, q⟩
end
end Y
namespace G
open PySem L2 C8
variable {K : PySem.W.Frag}
structure Lm where
  d : Addr
  pc : Addr
  px : Addr
  pw : Addr
  ps : Addr
  pe : Addr
def Lm.kvs (L : Lm) (m : Mc) : List (Key × V) := [(.inr "cells", .ref L.pc), (.inr "boxes", .ref L.px), (.inr "place", .int m.place), (.inr "high", .bl m.high), (.inr "window", .ref L.pw), (.inr "alarm", .int m.alarm), (.inr "said", .ref L.ps), (.inr "ear", .ref L.pe), (.inr "why", .str m.why), (.inr "many", .int m.steps)]
def Lm.own (L : Lm) : List Addr := [L.d, L.pc, L.px, L.ps, L.pe]
structure LmAt (K : PySem.W.Frag) (H : Hp) (L : Lm) (m : Mc) : Prop where
  d : H L.d = some (.dK (L.kvs m))
  c : H L.pc = some (.lst (m.cells.map Thing.v))
  x : H L.px = some (.lst (m.boxes.map Thing.v))
  w : H L.pw = some (.tup [.int m.w0, .int m.w1])
  s : H L.ps = some (.lst (m.said.map V.int))
  e : H L.pe = some (.lst (m.ear.map V.int))
  tc : (Things K) H m.cells
  tb : (Things K) H m.boxes
  cx : L.pc ≠ L.px
  cs : L.pc ≠ L.ps
  ce : L.pc ≠ L.pe
  xs : L.px ≠ L.ps
  xe : L.px ≠ L.pe
  se : L.ps ≠ L.pe
  ok : m.Ok
section
variable {H H' : Hp} {L : Lm} {m m' : Mc} {p : Addr} {o : HO}
theorem LmAt.same (k : (LmAt K) H L m) (s : Same H H') : (LmAt K) H' L m := ⟨s _ _ k.d, s _ _ k.c, s _ _ k.x, s _ _ k.w, s _ _ k.s, s _ _ k.e, k.tc.same s, k.tb.same s, k.cx, k.cs, k.ce, k.xs, k.xe, k.se, k.ok⟩
theorem LmAt.new (k : (LmAt K) H L m) (n : H p = none) : (LmAt K) (upd H p o) L m := k.same (Y.same_new n (Same.refl H))
theorem Lm.kind (k : (LmAt K) H L m) : ∀ a ∈ L.own, (∃ xs, H a = some (.lst xs)) ∨ ∃ kvs, H a = some (.dK kvs) := fun a ha => by
  unfold Lm.own at ha
  simp only [List.mem_cons, List.not_mem_nil, or_false] at ha
  rcases ha with rfl | rfl | rfl | rfl | rfl
  · exact .inr ⟨_, k.d⟩
  · exact .inl ⟨_, k.c⟩
  · exact .inl ⟨_, k.x⟩
  · exact .inl ⟨_, k.s⟩
  · exact .inl ⟨_, k.e⟩
theorem tu_lm (k : (LmAt K) H L m) (f : FrS L.own H H') : Tu H H' := fun p xs h => f p _ (fun hp => by
  rcases Lm.kind k p hp with ⟨ys, e⟩ | ⟨fs, e⟩ <;> rw [h] at e <;> cases e) h
theorem tu_dk {kvs : List (Key × V)} (e : H p = some (.dK kvs)) : Tu H (upd H p o) := (Tu.refl H).dic e
/-- fields are told anew -/
theorem LmAt.fld (k : (LmAt K) H L m) (e1 : m'.cells = m.cells) (e2 : m'.boxes = m.boxes) (e3 : m'.said = m.said) (e4 : m'.ear = m.ear) (e6 : m'.w0 = m.w0) (e7 : m'.w1 = m.w1) (ok : m'.Ok) : (LmAt K) (upd H L.d (.dK (L.kvs m'))) L m' := by
  have n : ∀ {a : Addr} {xs : List V}, H a = some (.lst xs) → a ≠ L.d := fun h z => by rw [z, k.d] at h; cases h
  have t := tu_dk (o := .dK (L.kvs m')) k.d
  exact ⟨upd_same, by rw [upd_ne (n k.c), e1]; exact k.c, by rw [upd_ne (n k.x), e2]; exact k.x, by rw [e6, e7]; exact t _ _ k.w, by rw [upd_ne (n k.s), e3]; exact k.s, by rw [upd_ne (n k.e), e4]; exact k.e,
    by rw [e1]; exact k.tc.tu t, by rw [e2]; exact k.tb.tu t, k.cx, k.cs, k.ce, k.xs, k.xe, k.se, ok⟩
/-- the window, too -/
theorem LmAt.win (k : (LmAt K) H L m) {pw : Addr} (hw : H pw = some (.tup [.int m'.w0, .int m'.w1])) (e1 : m'.cells = m.cells) (e2 : m'.boxes = m.boxes) (e3 : m'.said = m.said) (e4 : m'.ear = m.ear) (ok : m'.Ok) : (LmAt K) (upd H L.d (.dK (Lm.kvs { L with pw := pw } m'))) { L with pw := pw } m' := by
  have n : ∀ {a : Addr} {xs : List V}, H a = some (.lst xs) → a ≠ L.d := fun h z => by rw [z, k.d] at h; cases h
  have t := tu_dk (o := .dK (Lm.kvs { L with pw := pw } m')) k.d
  exact ⟨upd_same, (upd_ne (n k.c)).trans (by rw [e1]; exact k.c), (upd_ne (n k.x)).trans (by rw [e2]; exact k.x), t _ _ hw, (upd_ne (n k.s)).trans (by rw [e3]; exact k.s), (upd_ne (n k.e)).trans (by rw [e4]; exact k.e),
    by rw [e1]; exact k.tc.tu t, by rw [e2]; exact k.tb.tu t, k.cx, k.cs, k.ce, k.xs, k.xe, k.se, ok⟩
/-- a box is filled -/
theorem LmAt.boxes (k : (LmAt K) H L m) {bx : List Thing} (hb : bx.length = 4) (ht : (Things K) H bx) : (LmAt K) (upd H L.px (.lst (bx.map Thing.v))) L { m with boxes := bx } := by
  have t := (Tu.refl H).lst (o := .lst (bx.map Thing.v)) k.x
  have nd : L.d ≠ L.px := fun z => by have h := k.d; rw [z, k.x] at h; cases h
  exact ⟨(upd_ne nd).trans k.d, (upd_ne k.cx).trans k.c, upd_same, t _ _ k.w, (upd_ne k.xs.symm).trans k.s, (upd_ne k.xe.symm).trans k.e, k.tc.tu t, ht.tu t, k.cx, k.cs, k.ce, k.xs, k.xe, k.se,
    ⟨hb, k.ok.n16, k.ok.n40, k.ok.pl, k.ok.w0, k.ok.w1, k.ok.win, k.ok.al, k.ok.ear, k.ok.el⟩⟩
/-- a cell is filled -/
theorem LmAt.cells (k : (LmAt K) H L m) {cs : List Thing} (hb : cs.length = m.cells.length) (ht : (Things K) H cs) : (LmAt K) (upd H L.pc (.lst (cs.map Thing.v))) L { m with cells := cs } := by
  have t := (Tu.refl H).lst (o := .lst (cs.map Thing.v)) k.c
  have nd : L.d ≠ L.pc := fun z => by have h := k.d; rw [z, k.c] at h; cases h
  exact ⟨(upd_ne nd).trans k.d, upd_same, (upd_ne k.cx.symm).trans k.x, t _ _ k.w, (upd_ne k.cs.symm).trans k.s, (upd_ne k.ce.symm).trans k.e, ht.tu t, k.tb.tu t, k.cx, k.cs, k.ce, k.xs, k.xe, k.se,
    ⟨k.ok.box, by rw [show ({ m with cells := cs } : Mc).cells = cs from rfl, hb]; exact k.ok.n16, by rw [show ({ m with cells := cs } : Mc).cells = cs from rfl, hb]; exact k.ok.n40, k.ok.pl, k.ok.w0, k.ok.w1, by rw [show ({ m with cells := cs } : Mc).cells = cs from rfl, hb]; exact k.ok.win, k.ok.al, k.ok.ear, k.ok.el⟩⟩
/-- all cells are told anew, in a new list -/
theorem LmAt.newCells (k : (LmAt K) H L m) {pc : Addr} (hw : H pc = some (.lst (m'.cells.map Thing.v))) (hx : pc ≠ L.px) (hs : pc ≠ L.ps) (he : pc ≠ L.pe) (ht : (Things K) H m'.cells) (e2 : m'.boxes = m.boxes) (e3 : m'.said = m.said) (e4 : m'.ear = m.ear) (e6 : m'.w0 = m.w0) (e7 : m'.w1 = m.w1) (ok : m'.Ok) : (LmAt K) (upd H L.d (.dK (Lm.kvs { L with pc := pc } m'))) { L with pc := pc } m' := by
  have n : ∀ {a : Addr} {xs : List V}, H a = some (.lst xs) → a ≠ L.d := fun h z => by rw [z, k.d] at h; cases h
  have t := tu_dk (o := .dK (Lm.kvs { L with pc := pc } m')) k.d
  exact ⟨upd_same, (upd_ne (n hw)).trans hw, (upd_ne (n k.x)).trans (by rw [e2]; exact k.x), by rw [e6, e7]; exact t _ _ k.w, (upd_ne (n k.s)).trans (by rw [e3]; exact k.s), (upd_ne (n k.e)).trans (by rw [e4]; exact k.e),
    ht.tu t, by rw [e2]; exact k.tb.tu t, hx, hs, he, k.xs, k.xe, k.se, ok⟩
theorem LmAt.newEar (k : (LmAt K) H L m) {pe : Addr} (hw : H pe = some (.lst (m'.ear.map V.int))) (hx : L.px ≠ pe) (hs : L.ps ≠ pe) (he : L.pc ≠ pe) (e1 : m'.cells = m.cells) (e2 : m'.boxes = m.boxes) (e3 : m'.said = m.said) (e6 : m'.w0 = m.w0) (e7 : m'.w1 = m.w1) (ok : m'.Ok) : (LmAt K) (upd H L.d (.dK (Lm.kvs { L with pe := pe } m'))) { L with pe := pe } m' := by
  have n : ∀ {a : Addr} {xs : List V}, H a = some (.lst xs) → a ≠ L.d := fun h z => by rw [z, k.d] at h; cases h
  have t := tu_dk (o := .dK (Lm.kvs { L with pe := pe } m')) k.d
  exact ⟨upd_same, (upd_ne (n k.c)).trans (by rw [e1]; exact k.c), (upd_ne (n k.x)).trans (by rw [e2]; exact k.x), by rw [e6, e7]; exact t _ _ k.w, (upd_ne (n k.s)).trans (by rw [e3]; exact k.s), (upd_ne (n hw)).trans hw,
    by rw [e1]; exact k.tc.tu t, by rw [e2]; exact k.tb.tu t, k.cx, k.cs, he, k.xs, hx, hs, ok⟩
theorem LmAt.says (k : (LmAt K) H L m) {ns : List Int} : (LmAt K) (upd H L.ps (.lst (ns.map V.int))) L { m with said := ns } := by
  have t := (Tu.refl H).lst (o := .lst (ns.map V.int)) k.s
  have nd : L.d ≠ L.ps := fun z => by have h := k.d; rw [z, k.s] at h; cases h
  exact ⟨(upd_ne nd).trans k.d, (upd_ne k.cs).trans k.c, (upd_ne k.xs).trans k.x, t _ _ k.w, upd_same, (upd_ne k.se.symm).trans k.e, k.tc.tu t, k.tb.tu t, k.cx, k.cs, k.ce, k.xs, k.xe, k.se,
    ⟨k.ok.box, k.ok.n16, k.ok.n40, k.ok.pl, k.ok.w0, k.ok.w1, k.ok.win, k.ok.al, k.ok.ear, k.ok.el⟩⟩
theorem LmAt.ears (k : (LmAt K) H L m) {ns : List Int} (hn : ∀ n ∈ ns, Nm n) (hl : ns.length ≤ 20) : (LmAt K) (upd H L.pe (.lst (ns.map V.int))) L { m with ear := ns } := by
  have t := (Tu.refl H).lst (o := .lst (ns.map V.int)) k.e
  have nd : L.d ≠ L.pe := fun z => by have h := k.d; rw [z, k.e] at h; cases h
  exact ⟨(upd_ne nd).trans k.d, (upd_ne k.ce).trans k.c, (upd_ne k.xe).trans k.x, t _ _ k.w, (upd_ne k.se).trans k.s, upd_same, k.tc.tu t, k.tb.tu t, k.cx, k.cs, k.ce, k.xs, k.xe, k.se,
    ⟨k.ok.box, k.ok.n16, k.ok.n40, k.ok.pl, k.ok.w0, k.ok.w1, k.ok.win, k.ok.al, hn, hl⟩⟩
end
/-- what the law's own machine comes to -/
def LmTo (K : PySem.W.Frag) (H : Hp) (L : Lm) (m' : Mc) (R : Hp → Prop) : Prop := ∀ H' L', FrS L.own H H' → L'.d = L.d → (∀ a ∈ L'.own, a ∈ L.own ∨ H a = none) → (LmAt K) H' L' m' → R H'
def Mc.caughtL (m : Mc) (n c : Int) : Mc := if m.high then { m with why := if n = 2 then "beyond" else "no row" } else m.mkHigh n c
def spLWorth (K : PySem.W.Frag) : Sp := fun vs H Q _ => ∃ t : Thing, vs = [t.v] ∧ t.At K H ∧ Q (.int t.worth) H
def spLCaught (K : PySem.W.Frag) : Sp := fun vs H Q _ => ∃ L m n c, vs = [.ref L.d, .int n, .int c] ∧ (LmAt K) H L m ∧ Nm n ∧ Nm c ∧ (m.high = true → n = 2 ∨ n = 3) ∧ (LmTo K) H L (m.caughtL n c) (Q .non)
theorem u_lworth {H : Hp} {Q : VK} {E : XK} {t : Thing} {v : V} (e : v = t.v) (h : t.At K H) (q : Q (.int t.worth) H) : (spLWorth K) ([v] ++ []) H Q E := ⟨t, by rw [e]; rfl, h, q⟩
theorem u_lcaught {H : Hp} {Q : VK} {E : XK} {L : Lm} {m : Mc} {n c : Int} (k : (LmAt K) H L m) (hn : Nm n) (hc : Nm c) (hh : m.high = true → n = 2 ∨ n = 3) (q : (LmTo K) H L (m.caughtL n c) (Q .non)) : (spLCaught K) ([.ref L.d, .int n, .int c] ++ []) H Q E := ⟨L, m, n, c, rfl, k, hn, hc, hh, q⟩
end G
end
section
namespace G
open PySem L2 C8
variable {K : PySem.W.Frag}
section
variable {S : List Addr} {H H1 H2 : Hp} {p : Addr} {o : HO} {L : Lm}
theorem fs_own (h : H p = none) (x : FrS S H H1) : FrS S H (L2.upd H1 p o) := x.own h
theorem fs_new (h : H1 p = none) (x : FrS S H H1) : FrS S H (L2.upd H1 p o) := x.new h
theorem fs_upd (h : p ∈ S) (x : FrS S H H1) : FrS S H (L2.upd H1 p o) := x.upd h
theorem fs_tr (y : FrS S H1 H2) (x : FrS S H H1) : FrS S H H2 := x.trans y
theorem Lm.i0 : L.d ∈ L.own := .head _
theorem Lm.i1 : L.pc ∈ L.own := .tail _ (.head _)
theorem Lm.i2 : L.px ∈ L.own := .tail _ (.tail _ (.head _))
theorem Lm.i3 : L.ps ∈ L.own := .tail _ (.tail _ (.tail _ (.head _)))
theorem Lm.i4 : L.pe ∈ L.own := .tail _ (.tail _ (.tail _ (.tail _ (.head _))))
end
end G
local macro_rules
  | `(tactic| walk_at "fs") => `(tactic| first
    | walk_at "as"
    | with_reducible apply G.FrS.refl
    | ((with_reducible apply G.fs_own); (focus walk_at "as"); (focus walk_at "fs"))
    | ((with_reducible apply G.fs_new); (focus walk_at "as"); (focus walk_at "fs"))
    | ((with_reducible apply G.fs_upd); (focus first | exact G.Lm.i0 | exact G.Lm.i1 | exact G.Lm.i2 | exact G.Lm.i3 | exact G.Lm.i4 | walk_at "as"); (focus walk_at "fs"))
    | ((with_reducible apply G.fs_tr); (focus walk_at "as"); (focus walk_at "fs")))
local macro_rules
  | `(tactic| walk_at "u1") => `(tactic| first
    | walk_at "s1"
    | with_reducible refine Y.s_dput ?_
    | with_reducible refine G.s_par2 ?_
    | with_reducible refine G.s_two ?_
    | with_reducible refine Y.s_sl ?_
    | with_reducible refine Y.s_part ?_
    | with_reducible refine Y.s_partI ?_
    | with_reducible refine Y.s_noPart ?_
    | with_reducible refine Y.s_new rfl fun _ _ => ?_
    | ((with_reducible refine' Y.s_ixL (xs := ?xs) (w := ?w) ?h ?e ?q); (case' h => walk_at "sq"); (case' e => walk_at "as"))
    | ((with_reducible refine' Y.s_ixL' (xs := ?xs) (w := ?w) ?h ?e ?q); (case' h => walk_at "sq"); (case' e => walk_at "as"))
    | ((with_reducible refine' G.u_lworth (t := ?t) rfl ?a ?q); (case' a => first | walk_at "as" | ((with_reducible apply G.at_tu); (focus walk_at "as"); (focus walk_at "tu")))))
local macro_rules
  | `(tactic| walk_at "u") => `(tactic| repeat walk_at "u1")

namespace G
open PySem L2 C8
variable {K : PySem.W.Frag}
/-- what is caught, laid at the begin -/
def Mc.laid (m : Mc) (n c : Int) : List Thing := lay (lay m.cells 0 [.num m.place, .num m.w0, .num m.w1, .num n, .num c]) 6 m.boxes
theorem laid_len {m : Mc} {n c : Int} (o : m.Ok) : (m.laid n c).length = m.cells.length := by
  have h16 := o.n16
  have hb := o.box
  unfold Mc.laid
  rw [lay_length (by rw [lay_length (by show 0 + 5 ≤ _; omega)]; omega), lay_length (by show 0 + 5 ≤ _; omega)]
theorem laid_is {m : Mc} {n c : Int} (o : m.Ok) : ([Thing.num m.place, .num m.w0, .num m.w1, .num n, .num c] ++ (m.cells.drop 5).take 1 ++ m.boxes ++ m.cells.drop 10) = m.laid n c := by
  have h16 := o.n16
  have hb := o.box
  unfold Mc.laid
  match hm : m.cells, h16 with
  | a0 :: a1 :: a2 :: a3 :: a4 :: a5 :: a6 :: a7 :: a8 :: a9 :: r, _ =>
    match hx : m.boxes, hb with
    | [b0, b1, b2, b3], _ => rfl
theorem laid_5 {m : Mc} {n c : Int} (o : m.Ok) : (m.laid n c)[5]? = m.cells[5]? := by
  have h16 := o.n16
  have hb := o.box
  unfold Mc.laid
  match hm : m.cells, h16 with
  | a0 :: a1 :: a2 :: a3 :: a4 :: a5 :: a6 :: a7 :: a8 :: a9 :: r, _ =>
    match hx : m.boxes, hb with
    | [b0, b1, b2, b3], _ => rfl
theorem mkHigh_is {m : Mc} {n c : Int} {t : Thing} (o : m.Ok) (h : m.cells[5]? = some t) : m.mkHigh n c = { m with cells := m.laid n c, high := true, w0 := 0, w1 := m.cells.length, alarm := 0, place := t.worth } := by
  have e := laid_5 (n := n) (c := c) o
  rw [h] at e
  unfold Mc.mkHigh
  unfold Mc.laid at e ⊢
  rw [e]
theorem cut_some {ts : List Thing} {i j : Nat} (hi : i ≤ ts.length) (hj : j ≤ ts.length) : cutV (ts.map Thing.v) (some (i : Nat)) (some (j : Nat)) = ((ts.drop i).take (j - i)).map Thing.v := by
  unfold cutV
  rw [HT.sIx_nat, HT.sIx_nat, List.length_map, Nat.min_eq_left hi, Nat.min_eq_left hj, ← List.map_drop, ← List.map_take]
theorem cut_from {ts : List Thing} {i : Nat} (hi : i ≤ ts.length) : cutV (ts.map Thing.v) (some (i : Nat)) none = (ts.drop i).map Thing.v := by
  unfold cutV
  rw [HT.sIx_nat, List.length_map, Nat.min_eq_left hi, show HT.sIx ts.length ts.length none = ts.length from rfl, ← List.map_drop, List.take_of_length_le]
  rw [List.length_map, List.length_drop]
  exact Nat.le_refl _
theorem catM {a b : List Thing} : a.map Thing.v ++ b.map Thing.v = (a ++ b).map Thing.v := List.map_append.symm
theorem none_of {H H' : Hp} {p : Addr} (s : Same H H') (h : H' p = none) : H p = none := by
  cases e : H p with
  | none => rfl
  | some o => rw [s p o e] at h; cases h
theorem none_fr {S : List Addr} {H H' : Hp} {p : Addr} (s : FrS S H H') (n : p ∉ S) (h : H' p = none) : H p = none := by
  cases e : H p with
  | none => rfl
  | some o => rw [s p o n e] at h; cases h
theorem laid_th {H : Hp} {m : Mc} {n c : Int} (o : m.Ok) (h : (Things K) H m.cells) (hb : (Things K) H m.boxes) (hn : Nm n) (hc : Nm c) : (Things K) H (m.laid n c) := by
  refine lay_things (lay_things h ?_) hb
  have w0 := o.w0
  have w1 := o.w1
  have hw := o.win
  have n40 := o.n40
  intro t mt
  simp only [List.mem_cons, List.not_mem_nil, or_false] at mt
  rcases mt with rfl | rfl | rfl | rfl | rfl
  · exact o.pl
  · exact ⟨w0, by omega⟩
  · exact ⟨w1, by omega⟩
  · exact hn
  · exact hc
section
variable {P : Program} {w : World} {K : PySem.W.Frag} {mg : Str → Option Value} {base : Heap}
abbrev s__law_worth : Stmt := top 126
theorem sc__law_worth : FnScope ["_law_thing"] ["_law_thing"] (fnScope s__law_worth) := fnScope_by (by decide +kernel)
theorem ok__law_worth {f : Addr} {fd : FuncData} (F : Def K mg "_law_worth" s__law_worth f fd) (b : Binds K fd ["_law_thing"] []) (T : Txt K mg) : Cal P w K mg base 1 "_law_worth" (spLWorth K) [] := by
  refine cal0 F b .nil sc__law_worth (fun vs H Q E h => ?_) (fun cdv A outer s H vs Q E hr h => ?_)
  · obtain ⟨t, rfl, _⟩ := h
    rfl
  · obtain ⟨t, rfl, ht, q⟩ := h
    have nd := sc__law_worth.nd
    refine ⟨_, (pss_one (ps_ret (pe_ifExp (pt_val (pe_callB call_isi (by rfl) T.n_isinstance (by decide +kernel) (pa_cons (pv 0) (pa_cons (Y.pe_bty (T := "int") (by rfl) T.n_int (by decide +kernel)) pa_nil)))) (pv 0) pe_int))), ?_⟩
    cases t with
    | num n =>
      dsimp only [Thing.v]
      walk_at "b"
      exact q
    | row p r =>
      have hp := ht.1
      dsimp only [Thing.v]
      walk_at "b"
      exact q
abbrev s__law_caught : Stmt := top 127
theorem sc__law_caught : FnScope ["_law_m", "_law_number_here", "_law_more", "_law_told"] ["_law_m", "_law_number_here", "_law_more"] (fnScope s__law_caught) := fnScope_by (by decide +kernel)
theorem ok__law_caught {f : Addr} {fd : FuncData} (F : Def K mg "_law_caught" s__law_caught f fd) (b : Binds K fd ["_law_m", "_law_number_here", "_law_more"] []) (T : Txt K mg) (c__law_worth : Cal P w K mg base 1 "_law_worth" (spLWorth K) []) : Cal P w K mg base 2 "_law_caught" (spLCaught K) [] := by
  refine cal0 F b .nil sc__law_caught (fun vs H Q E h => ?_) (fun cdv A outer s H vs Q E hr h => ?_)
  · obtain ⟨L, m, n, c, rfl, _⟩ := h
    rfl
  · obtain ⟨L, m, n, c, rfl, k, hn, hc, hh, q⟩ := h
    have nd := sc__law_caught.nd
    have hu := hu_of hr
    have kd := k.d
    have n40 := k.ok.n40
    have n16 := k.ok.n16
    have nb := k.ok.box
    refine ⟨_, (pss_cons (ps_if (pt_val (pe_dget hu (pv 0) pe_str (fun _ _ => rfl)))
      (pss_cons (ps_dput hu (pv 0) pe_str (pe_dget hu (pe_disp (pps_cons pe_int pe_str (pps_cons pe_int pe_str pps_nil)) (by rfl) (by rfl) (fun z => by cases z) (by decide)) (pv 1) (fun _ _ => rfl)) rfl)
      (pss_one ps_retN))
      pss_nil)
      (pss_cons (ps_set (i := 3) nd rfl (by first | exact Or.inl rfl | exact Or.inr rfl) (pe_lst (pa_cons (pe_dget hu (pv 0) pe_str (fun _ _ => rfl)) (pa_cons (pe_ix ix_tup (pe_dget hu (pv 0) pe_str (fun _ _ => rfl)) pe_int (fun _ _ => rfl)) (pa_cons (pe_ix ix_tup (pe_dget hu (pv 0) pe_str (fun _ _ => rfl)) pe_int (fun _ _ => rfl)) (pa_cons (pv 1) (pa_cons (pv 2) pa_nil)))))))
      (pss_cons (ps_dput hu (pv 0) pe_str (pe_op op_cat (pe_op op_cat (pe_op op_cat (pv 3) (pe_slice sl_list (pe_dget hu (pv 0) pe_str (fun _ _ => rfl)) (po_some pe_int) (po_some pe_int))) (pe_dget hu (pv 0) pe_str (fun _ _ => rfl))) (pe_slice sl_list (pe_dget hu (pv 0) pe_str (fun _ _ => rfl)) (po_some pe_int) po_none)) rfl)
      (pss_one (ps_expr (pe_bm PySem.F.plainAttrs_dict PySem.F.slot_dict_update PySem.F.type_dict_update Y.mt_update (pv 0) (pa_cons (pe_disp (pps_cons pe_str pe_bl (pps_cons pe_str (pe_tup (pa_cons pe_int (pa_cons (pe_callB Y.cl_len (by rfl) T.n_len PySem.boot_len (pa_cons (pe_dget hu (pv 0) pe_str (fun _ _ => rfl)) pa_nil)) pa_nil))) (pps_cons pe_str pe_int (pps_cons pe_str (pe_c c__law_worth hr (by first | decide | omega) (by rfl) (pa_cons (pe_ix ix_list (pe_dget hu (pv 0) pe_str (fun _ _ => rfl)) pe_int (fun _ _ => rfl)) pa_nil)) pps_nil)))) (by rfl) (by rfl) (fun z => by cases z) (by decide)) pa_nil))))))), ?_⟩
    unfold Mc.caughtL at q
    walk_at "b"
    cases hi : m.high with
    | true =>
      rw [if_pos hi] at q
      walk_at "s"
      refine Y.s_dput ?_
      walk_at "s"
      intro p hp
      walk_at "s"
      refine Y.s_dendI [(2, .str "beyond"), (3, .str "no row")] upd_same rfl (by decide +kernel) rfl ?_
      have kd2 : upd (upd H p (.dK [])) p (.dK ([((2 : Int), V.str "beyond"), (3, .str "no row")].map fun kv => ((Sum.inl kv.1 : Key), kv.2))) L.d = some (.dK (L.kvs m)) := by walk_at "hp"
      have e : valV ([((2 : Int), V.str "beyond"), (3, .str "no row")].map fun kv => ((Sum.inl kv.1 : Key), kv.2)) (Sum.inl n) = some (.str (if n = 2 then "beyond" else "no row")) := by
        rcases hh hi with rfl | rfl <;> rfl
      walk_at "s"
      refine Y.s_dgetI upd_same e ?_
      walk_at "s"
      refine Y.s_dputS (new := L.kvs { m with why := if n = 2 then "beyond" else "no row" }) kd2 rfl (by rfl) ?_
      walk_at "s"
      refine q _ L ?_ rfl (fun a ha => .inl ha) ?_
      · walk_at "fs"
      · exact (k.same (Y.same_own hp (Y.same_new hp (Same.refl H)))).fld (m' := { m with why := if n = 2 then "beyond" else "no row" }) rfl rfl rfl rfl rfl rfl ⟨k.ok.box, k.ok.n16, k.ok.n40, k.ok.pl, k.ok.w0, k.ok.w1, k.ok.win, k.ok.al, k.ok.ear, k.ok.el⟩
    | false =>
      rw [if_neg (by rw [hi]; exact Bool.false_ne_true)] at q
      have kc := k.c
      have kx := k.x
      have kw := k.w
      walk_at "s"
      refine Y.s_new rfl fun pt hpt => ?_
      have et : upd H pt (.lst [V.int m.place, V.int m.w0, V.int m.w1, V.int n, V.int c]) pt = some (.lst ([Thing.num m.place, .num m.w0, .num m.w1, .num n, .num c].map Thing.v)) := upd_same
      have kA := k.new (o := .lst [V.int m.place, V.int m.w0, V.int m.w1, V.int n, V.int c]) hpt
      have fA : FrS L.own H (upd H pt (.lst [V.int m.place, V.int m.w0, V.int m.w1, V.int n, V.int c])) := by walk_at "fs"
      have sA : Same H (upd H pt (.lst [V.int m.place, V.int m.w0, V.int m.w1, V.int n, V.int c])) := Y.same_new hpt (Same.refl H)
      generalize upd H pt (.lst [V.int m.place, V.int m.w0, V.int m.w1, V.int n, V.int c]) = HA at et kA fA sA ⊢
      have kdA := kA.d
      have kcA := kA.c
      have kxA := kA.x
      walk_at "s"
      refine Y.s_dput ?_
      walk_at "s"
      refine Y.s_sl ?_
      walk_at "s"
      refine Y.s_part ?_
      walk_at "s"
      refine Y.s_partI ?_
      refine Y.s_part ?_
      walk_at "s"
      refine Y.s_partI ?_
      refine Y.s_slL (ys := ((m.cells.drop 5).take 1).map Thing.v) (SqL.of kcA) ?_ fun p1 hp1 => ?_
      · exact cut_some (i := 5) (j := 6) (by omega) (by omega)
      walk_at "s"
      intro p2 hp2
      walk_at "s"
      intro p3 hp3
      refine Y.s_sl ?_
      walk_at "s"
      refine Y.s_part ?_
      walk_at "s"
      refine Y.s_partI ?_
      refine Y.s_noPart ?_
      refine Y.s_slL (ys := (m.cells.drop 10).map Thing.v) (SqL.of (by walk_at "hp")) (cut_from (i := 10) (by omega)) fun p4 hp4 => ?_
      walk_at "s"
      intro p5 hp5
      have n5 : HA p5 = none := none_of (by walk_at "sm") hp5
      walk_at "s"
      refine Y.fgt (fun H' => Same HA H' ∧ H' p5 = some (.lst ((m.laid n c).map Thing.v))) ⟨by walk_at "sm", by rw [upd_same, catM, catM, catM, laid_is k.ok]⟩ fun HB ⟨sB, eB⟩ => ?_
      have kB := kA.same sB
      refine Y.s_dputS (new := Lm.kvs { L with pc := p5 } m) kB.d rfl (by rfl) ?_
      have ok1 : Mc.Ok { m with cells := m.laid n c } := ⟨nb, by rw [laid_len k.ok]; exact n16, by rw [laid_len k.ok]; exact n40, k.ok.pl, k.ok.w0, k.ok.w1, by rw [laid_len k.ok]; exact k.ok.win, k.ok.al, k.ok.ear, k.ok.el⟩
      have k1 := kB.newCells (m' := { m with cells := m.laid n c }) (pc := p5) eB (ne_of_none kA.x n5).symm (ne_of_none kA.s n5).symm (ne_of_none kA.e n5).symm (laid_th k.ok kB.tc kB.tb hn hc) rfl rfl rfl rfl rfl ok1
      refine Y.fgt (fun H' => FrS L.own HA H' ∧ (LmAt K) H' { L with pc := p5 } { m with cells := m.laid n c }) ⟨(FrS.refl.same sB).upd Lm.i0, k1⟩ fun HC ⟨fC, kC⟩ => ?_
      obtain ⟨t, h5⟩ : ∃ t, m.cells[5]? = some t := ⟨_, List.getElem?_eq_getElem (by omega)⟩
      have g5 : (m.laid n c)[5]? = some t := (laid_5 k.ok).trans h5
      rw [mkHigh_is k.ok h5] at q
      have kdC : HC L.d = some (.dK (Lm.kvs { L with pc := p5 } { m with cells := m.laid n c })) := kC.d
      have kcC : HC p5 = some (.lst ((m.laid n c).map Thing.v)) := kC.c
      have t5 : t.At K HC := kC.tc t (List.mem_of_getElem? g5)
      walk_at "s"
      refine s_bm ?_
      walk_at "s"
      refine Y.s_bmD kdC ?_
      walk_at "s"
      intro pd hpd
      walk_at "s"
      refine Y.s_new rfl fun pw hpw => ?_
      walk_at "s"
      refine Y.s_ixL' (w := t.v) (SqL.of (xs := (m.laid n c).map Thing.v) (by walk_at "hp")) (at_of (j := 5) (by decide) (by rw [List.getElem?_map, g5]; rfl)) ?_
      walk_at "s"
      refine u_lworth rfl (t5.tu ((Y.tu_new hpw (Y.tu_new hpd (Tu.refl HC))))) ?_
      walk_at "s"
      refine Y.s_dend ["high", "window", "alarm", "place"] [.bl true, .ref pw, .int 0, .int t.worth] (by walk_at "hp") rfl (by decide +kernel) rfl ?_
      walk_at "s"
      have ndd : L.d ≠ pd := ne_of_none kdC hpd
      refine Y.s_updateS (new := Lm.kvs { L with pc := p5, pw := pw } { m with cells := m.laid n c, high := true, w0 := 0, w1 := m.cells.length, alarm := 0, place := t.worth }) ndd (by walk_at "hp") upd_same (by show 10 + 4 ≤ _; decide) (by rfl) ?_
      walk_at "s"
      refine q _ { L with pc := p5, pw := pw } ?_ rfl ?_ (LmAt.win (m' := { m with cells := m.laid n c, high := true, w0 := 0, w1 := m.cells.length, alarm := 0, place := t.worth }) (kC.same ?_) (pw := pw) ?_ rfl rfl rfl rfl ?_)
      · refine (fA.trans fC).trans ?_
        walk_at "fs"
      · intro a ha
        simp only [Lm.own, List.mem_cons, List.not_mem_nil, or_false] at ha
        rcases ha with rfl | rfl | rfl | rfl | rfl
        · exact .inl Lm.i0
        · exact .inr (none_of sA n5)
        · exact .inl Lm.i2
        · exact .inl Lm.i3
        · exact .inl Lm.i4
      · exact Y.same_own hpd (Y.same_new hpw (Y.same_new hpd (Same.refl HC)))
      · show upd _ _ _ pw = some (.tup [.int 0, .int (m.cells.length : Nat)])
        rw [upd_ne (fun z => by rw [z, upd_same] at hpw; cases hpw), upd_same, List.length_map, laid_len k.ok]
      · exact ⟨nb, by rw [laid_len k.ok]; exact n16, by rw [laid_len k.ok]; exact n40, t.worth_nm t5, Int.le_refl 0, by show (0 : Int) ≤ (m.cells.length : Nat); omega, by rw [laid_len k.ok]; show (0 : Int) + (m.cells.length : Nat) ≤ (m.cells.length : Nat); omega, (show Nm 0 from ⟨by decide, by decide⟩), k.ok.ear, k.ok.el⟩
end
end G
end
section
namespace G
open PySem L2 C8
variable {K : PySem.W.Frag}
theorem s_par2 {i j : Nat} {ta : TA} {D : Ends} {σ : L2.St} {H : Hp} (q : ta σ H fun vs H1 => ∃ v w, vs = [v, w] ∧ D.nx ((σ.set i (some v)).set j (some w)) H1) : tPar i j ta D σ H := q
theorem s_two {a b : V} {R : V → V → Prop} (q : R a b) : ∃ v w, [a, b] = [v, w] ∧ R v w := ⟨a, b, rfl, q⟩
theorem at_tu {H H' : Hp} {t : Thing} (h : t.At K H) (f : Tu H H') : t.At K H' := h.tu f
section
variable {K : PySem.W.Frag} {H0 H : Hp} {L : Lm} {m : Mc} {q : Hp → Prop}
theorem lm_set {z : Str} {v : V} {m' : Mc} (k : (LmAt K) H0 L m) (s : Same H0 H) (hk : putK (L.kvs m) (Sum.inr z) v = L.kvs m') (e1 : m'.cells = m.cells) (e2 : m'.boxes = m.boxes) (e3 : m'.said = m.said) (e4 : m'.ear = m.ear) (e6 : m'.w0 = m.w0) (e7 : m'.w1 = m.w1) (ok : m'.Ok)
    (h : ∀ H', FrS L.own H0 H' → (LmAt K) H' L m' → q H') : Y.DpR v q (.ref L.d) (.str z) H :=
  Y.s_dputS (s _ _ k.d) rfl hk (h _ ((FrS.refl.same s).upd Lm.i0) ((k.same s).fld e1 e2 e3 e4 e6 e7 ok))
theorem lm_place {a : Int} (k : (LmAt K) H0 L m) (s : Same H0 H) (hn : Nm a) (h : ∀ H', FrS L.own H0 H' → (LmAt K) H' L { m with place := a } → q H') : Y.DpR (.int a) q (.ref L.d) (.str "place") H :=
  lm_set (m' := { m with place := a }) k s rfl rfl rfl rfl rfl rfl rfl ⟨k.ok.box, k.ok.n16, k.ok.n40, hn, k.ok.w0, k.ok.w1, k.ok.win, k.ok.al, k.ok.ear, k.ok.el⟩ h
theorem lm_alarm {a : Int} (k : (LmAt K) H0 L m) (s : Same H0 H) (hn : Nm a) (h : ∀ H', FrS L.own H0 H' → (LmAt K) H' L { m with alarm := a } → q H') : Y.DpR (.int a) q (.ref L.d) (.str "alarm") H :=
  lm_set (m' := { m with alarm := a }) k s rfl rfl rfl rfl rfl rfl rfl ⟨k.ok.box, k.ok.n16, k.ok.n40, k.ok.pl, k.ok.w0, k.ok.w1, k.ok.win, hn, k.ok.ear, k.ok.el⟩ h
theorem lm_why {a : Str} (k : (LmAt K) H0 L m) (s : Same H0 H) (h : ∀ H', FrS L.own H0 H' → (LmAt K) H' L { m with why := a } → q H') : Y.DpR (.str a) q (.ref L.d) (.str "why") H :=
  lm_set (m' := { m with why := a }) k s rfl rfl rfl rfl rfl rfl rfl ⟨k.ok.box, k.ok.n16, k.ok.n40, k.ok.pl, k.ok.w0, k.ok.w1, k.ok.win, k.ok.al, k.ok.ear, k.ok.el⟩ h
theorem lm_many {a : Int} (k : (LmAt K) H0 L m) (s : Same H0 H) (h : ∀ H', FrS L.own H0 H' → (LmAt K) H' L { m with steps := a } → q H') : Y.DpR (.int a) q (.ref L.d) (.str "many") H :=
  lm_set (m' := { m with steps := a }) k s rfl rfl rfl rfl rfl rfl rfl ⟨k.ok.box, k.ok.n16, k.ok.n40, k.ok.pl, k.ok.w0, k.ok.w1, k.ok.win, k.ok.al, k.ok.ear, k.ok.el⟩ h
theorem lm_ix {n : Nat} {b : Int} (h0 : 0 ≤ b) (h1 : b < n) : ixN n b = some b.toNat := by
  have e := ixN_nat (n := n) (k := b.toNat) (by omega)
  rw [Int.toNat_of_nonneg h0] at e
  exact e
theorem lm_box {b : Int} {t : Thing} {v : V} (k : (LmAt K) H0 L m) (s : Same H0 H) (hb : Bx b) (ht : t.At K H0) (ev : v = t.v) (h : ∀ H', FrS L.own H0 H' → (LmAt K) H' L (m.setBox b t) → q H') : rSetL (.ref L.px) (.int b) v H q := by
  have k1 := (k.same s).boxes (bx := m.boxes.set b.toNat t) (by rw [List.length_set]; exact k.ok.box) (things_set (k.same s).tb (ht.tu fun p xs h => s p _ h))
  refine Y.s_setL (k := b.toNat) (s _ _ k.x) (lm_ix hb.1 ?_) ?_
  · rw [List.length_map, k.ok.box]; exact hb.2
  · rw [ev, ← List.map_set]
    exact h _ ((FrS.refl.same s).upd Lm.i2) k1
theorem lm_cell {a : Int} {t : Thing} {v : V} (k : (LmAt K) H0 L m) (s : Same H0 H) (h0 : 0 ≤ a) (h1 : a < m.cells.length) (ht : t.At K H0) (ev : v = t.v) (h : ∀ H', FrS L.own H0 H' → (LmAt K) H' L { m with cells := m.cells.set a.toNat t } → q H') : rSetL (.ref L.pc) (.int a) v H q := by
  have k1 := (k.same s).cells (cs := m.cells.set a.toNat t) (by rw [List.length_set]) (things_set (k.same s).tc (ht.tu fun p xs h => s p _ h))
  refine Y.s_setL (k := a.toNat) (s _ _ k.c) (lm_ix h0 ?_) ?_
  · rw [List.length_map]; exact h1
  · rw [ev, ← List.map_set]
    exact h _ ((FrS.refl.same s).upd Lm.i1) k1
theorem bx_lt (k : (LmAt K) H0 L m) {b : Int} (h : Bx b) : ∃ t, m.boxes[b.toNat]? = some t ∧ t.At K H0 ∧ m.bw b = t.worth ∧ atI (m.boxes.map Thing.v) b = some t.v := by
  have hl : b.toNat < m.boxes.length := by rw [k.ok.box]; have := h.1; have := h.2; omega
  have e := List.getElem?_eq_getElem hl
  refine ⟨m.boxes[b.toNat], e, k.tb _ (List.getElem_mem _), ?_, at_of (j := b.toNat) (by have := h.1; omega) (by rw [List.getElem?_map, e]; rfl)⟩
  unfold Mc.bw
  rw [e]
theorem cell_lt (k : (LmAt K) H0 L m) {a : Int} (h0 : 0 ≤ a) (h1 : a < m.w1) : ∃ t, m.at_ a = some t ∧ t.At K H0 ∧ atI (m.cells.map Thing.v) (m.w0 + a) = some t.v := by
  have hw := k.ok.win
  have w0 := k.ok.w0
  have hl : (m.w0 + a).toNat < m.cells.length := by omega
  have e := List.getElem?_eq_getElem hl
  exact ⟨m.cells[(m.w0 + a).toNat], e, k.tc _ (List.getElem_mem _), at_of (j := (m.w0 + a).toNat) (by omega) (by rw [List.getElem?_map, e]; rfl)⟩
end
theorem LmTo.same {H0 H : Hp} {L : Lm} {m : Mc} {R : Hp → Prop} (q : (LmTo K) H0 L m R) (s : Same H0 H) : (LmTo K) H L m R := fun H' L' f d g k => q H' L' ((FrS.refl.same s).trans f) d (fun a ha => (g a ha).imp_right (none_of s)) k
theorem LmTo.after {H0 H : Hp} {L L1 : Lm} {m : Mc} {R : Hp → Prop} (q : (LmTo K) H0 L m R) (f : FrS L.own H0 H) (d : L1.d = L.d) (g : ∀ a ∈ L1.own, a ∈ L.own ∨ H0 a = none) : (LmTo K) H L1 m R := fun H' L' f' d' g' k => by
  refine q H' L' (fun b u n h => ?_) (d'.trans d) (fun a ha => ?_) k
  · refine f' b u (fun m => ?_) (f b u n h)
    rcases g b m with z | z
    · exact n z
    · rw [h] at z; cases z
  · rcases g' a ha with z | z
    · exact g a z
    · by_cases ho : a ∈ L.own
      · exact .inl ho
      · exact .inr (none_fr f ho z)
theorem lay_one {cs : List Thing} {t : Thing} {c : Nat} (h : c < cs.length) : lay cs c [t] = cs.set c t := by
  unfold lay
  rw [List.set_eq_take_append_cons_drop, if_pos h]
  simp
def Row.plain : Row → Bool
  | .put _ _ => true | .add _ _ _ => true | .less _ _ _ => true | .load _ _ => true | .store _ _ => true | .zero _ _ => true | .go _ => true | _ => false
def spLPlain (K : PySem.W.Frag) : Sp := fun vs H Q _ => ∃ (L : Lm) (m : Mc) (A : Adr) (p : Addr) (r : Row), vs = [.ref L.d, .ref p] ∧ (LmAt K) H L m ∧ (Thing.row p r).At K H ∧ r.plain = true ∧ m.place < m.w1 ∧
  (m.reaches r = true → (LmTo K) H L (m.caughtL 2 0) (Q (.bl false))) ∧ (m.reaches r = false → (LmTo K) H L (({ m with place := m.place + 1 } : Mc).act A r) (Q (.bl true)))
end G
local macro_rules
  | `(tactic| walk_at "fs") => `(tactic| first
    | walk_at "as"
    | with_reducible apply G.FrS.refl
    | ((with_reducible apply G.fs_own); (focus walk_at "as"); (focus walk_at "fs"))
    | ((with_reducible apply G.fs_new); (focus walk_at "as"); (focus walk_at "fs"))
    | ((with_reducible apply G.fs_upd); (focus first | exact G.Lm.i0 | exact G.Lm.i1 | exact G.Lm.i2 | exact G.Lm.i3 | exact G.Lm.i4 | walk_at "as"); (focus walk_at "fs"))
    | ((with_reducible apply G.fs_tr); (focus walk_at "as"); (focus walk_at "fs")))
local macro_rules
  | `(tactic| walk_at "u1") => `(tactic| first
    | walk_at "s1"
    | with_reducible refine Y.s_dput ?_
    | with_reducible refine G.s_par2 ?_
    | with_reducible refine G.s_two ?_
    | with_reducible refine Y.s_sl ?_
    | with_reducible refine Y.s_part ?_
    | with_reducible refine Y.s_partI ?_
    | with_reducible refine Y.s_noPart ?_
    | with_reducible refine Y.s_new rfl fun _ _ => ?_
    | ((with_reducible refine' Y.s_ixL (xs := ?xs) (w := ?w) ?h ?e ?q); (case' h => walk_at "sq"); (case' e => walk_at "as"))
    | ((with_reducible refine' Y.s_ixL' (xs := ?xs) (w := ?w) ?h ?e ?q); (case' h => walk_at "sq"); (case' e => walk_at "as"))
    | ((with_reducible refine' G.u_lworth (t := ?t) rfl ?a ?q); (case' a => first | walk_at "as" | ((with_reducible apply G.at_tu); (focus walk_at "as"); (focus walk_at "tu")))))
local macro_rules
  | `(tactic| walk_at "u") => `(tactic| repeat walk_at "u1")

namespace G
open PySem L2 C8
variable {K : PySem.W.Frag}
section
variable {P : Program} {w : World} {K : PySem.W.Frag} {mg : Str → Option Value} {base : Heap}
abbrev s__law_plain : Stmt := top 128
theorem sc__law_plain : FnScope ["_law_m", "_law_row_here", "_law_word", "_law_boxes", "_law_after", "_law_address", "_law_one", "_law_other"] ["_law_m", "_law_row_here"] (fnScope s__law_plain) := fnScope_by (by decide +kernel)
theorem ok__law_plain {f : Addr} {fd : FuncData} (F : Def K mg "_law_plain" s__law_plain f fd) (b : Binds K fd ["_law_m", "_law_row_here"] []) (T : Txt K mg) (c__law_worth : Cal P w K mg base 1 "_law_worth" (spLWorth K) []) (c__law_caught : Cal P w K mg base 2 "_law_caught" (spLCaught K) []) : Cal P w K mg base 3 "_law_plain" (spLPlain K) [] := by
  refine cal0 F b .nil sc__law_plain (fun vs H Q E h => ?_) (fun cdv A outer s H vs Q E hr h => ?_)
  · obtain ⟨L, m, A, p, r, rfl, _⟩ := h
    rfl
  · obtain ⟨L, m, A, p, r, rfl, k, ⟨hp, hok⟩, hpl, hlt, q1, q2⟩ := h
    have nd := sc__law_plain.nd
    have hu := hu_of hr
    have kd := k.d
    have kc := k.c
    have kx := k.x
    have kw := k.w
    have n40 := k.ok.n40
    have win := k.ok.win
    have w0 := k.ok.w0
    have pl := k.ok.pl
    have np1 : Nm (m.place + 1) := ⟨by have := pl.1; omega, by omega⟩
    refine ⟨_, (pss_cons (ps_par (i := 2) (j := 3) (by rfl) nd rfl rfl (by decide) rfl rfl (pa_cons (pe_ix ix_tup (pv 1) pe_int (fun _ _ => rfl)) (pa_cons (pe_dget hu (pv 0) pe_str (fun _ _ => rfl)) pa_nil)) (by rfl))
      (pss_cons (ps_set (i := 4) nd rfl (by first | exact Or.inl rfl | exact Or.inr rfl) (pe_op op_add (pe_dget hu (pv 0) pe_str (fun _ _ => rfl)) pe_int))
      (pss_cons (ps_if (pt_cmpR op_in_seq (pv 2) (pe_tup (pa_cons pe_str (pa_cons pe_str pa_nil))) (by rfl))
      (pss_cons (ps_set (i := 5) nd rfl (by first | exact Or.inl rfl | exact Or.inr rfl) (pe_c c__law_worth hr (by first | decide | omega) (by rfl) (pa_cons (pe_ix ix_list (pv 3) (pe_ifExp (pt_cmpR op_eq (pv 2) pe_str (nomark _)) (pe_ix ix_tup (pv 1) pe_int (fun _ _ => rfl)) (pe_ix ix_tup (pv 1) pe_int (fun _ _ => rfl))) (fun _ _ => rfl)) pa_nil)))
      (pss_cons (ps_if (pt_cmpR op_ge (pv 5) (pe_ix ix_tup (pe_dget hu (pv 0) pe_str (fun _ _ => rfl)) pe_int (fun _ _ => rfl)) (nomark _))
      (pss_cons (ps_expr (pe_c c__law_caught hr (by first | decide | omega) (by rfl) (pa_cons (pv 0) (pa_cons pe_int (pa_cons pe_int pa_nil)))))
      (pss_one (ps_ret pe_bl)))
      pss_nil)
      (pss_one (ps_if (pt_cmpR op_eq (pv 2) pe_str (nomark _))
      (pss_one (ps_asg (pe_ix ix_list (pe_dget hu (pv 0) pe_str (fun _ _ => rfl)) (pe_op op_add (pe_ix ix_tup (pe_dget hu (pv 0) pe_str (fun _ _ => rfl)) pe_int (fun _ _ => rfl)) (pv 5)) (fun _ _ => rfl)) (pg_sub (pv 3) (pe_ix ix_tup (pv 1) pe_int (fun _ _ => rfl)) set_list)))
      (pss_one (ps_asg (pe_ix ix_list (pv 3) (pe_ix ix_tup (pv 1) pe_int (fun _ _ => rfl)) (fun _ _ => rfl)) (pg_sub (pe_dget hu (pv 0) pe_str (fun _ _ => rfl)) (pe_op op_add (pe_ix ix_tup (pe_dget hu (pv 0) pe_str (fun _ _ => rfl)) pe_int (fun _ _ => rfl)) (pv 5)) set_list)))))))
      pss_nil)
      (pss_cons (ps_if (pt_cmpR op_eq (pv 2) pe_str (nomark _))
      (pss_one (ps_asg (pe_ix ix_tup (pv 1) pe_int (fun _ _ => rfl)) (pg_sub (pv 3) (pe_ix ix_tup (pv 1) pe_int (fun _ _ => rfl)) set_list)))
      pss_nil)
      (pss_cons (ps_if (pt_cmpR op_in_seq (pv 2) (pe_tup (pa_cons pe_str (pa_cons pe_str pa_nil))) (by rfl))
      (pss_cons (ps_par (i := 6) (j := 7) (by rfl) nd rfl rfl (by decide) rfl rfl (pa_cons (pe_c c__law_worth hr (by first | decide | omega) (by rfl) (pa_cons (pe_ix ix_list (pv 3) (pe_ix ix_tup (pv 1) pe_int (fun _ _ => rfl)) (fun _ _ => rfl)) pa_nil)) (pa_cons (pe_c c__law_worth hr (by first | decide | omega) (by rfl) (pa_cons (pe_ix ix_list (pv 3) (pe_ix ix_tup (pv 1) pe_int (fun _ _ => rfl)) (fun _ _ => rfl)) pa_nil)) pa_nil)) (by rfl))
      (pss_one (ps_asg (pe_op op_mod (pe_ix ix_list (pe_lst (pa_cons (pe_op op_add (pv 6) (pv 7)) (pa_cons (pe_op op_sub (pv 6) (pv 7)) pa_nil))) (pe_callTy Y.cl_int (by rfl) T.n_int (by decide +kernel) (pa_cons (pe_cmpR op_eq (pv 2) pe_str (nomark _)) pa_nil)) (fun _ _ => rfl)) pe_int) (pg_sub (pv 3) (pe_ix ix_tup (pv 1) pe_int (fun _ _ => rfl)) set_list))))
      pss_nil)
      (pss_cons (ps_if (PW.pt (pw_or (pt_cmpR op_eq (pv 2) pe_str (nomark _)) (pw_or1 (PW.pt (pw_and (pt_cmpR op_eq (pv 2) pe_str (nomark _)) (pw_and1 (pt_cmpR op_eq (pe_c c__law_worth hr (by first | decide | omega) (by rfl) (pa_cons (pe_ix ix_list (pv 3) (pe_ix ix_tup (pv 1) pe_int (fun _ _ => rfl)) (fun _ _ => rfl)) pa_nil)) pe_int (nomark _))))))))
      (pss_one (ps_set (i := 4) nd rfl (by first | exact Or.inl rfl | exact Or.inr rfl) (pe_ix ix_tup (pv 1) (pe_un un_neg pe_int) (fun _ _ => rfl))))
      pss_nil)
      (pss_cons (ps_dput hu (pv 0) pe_str (pv 4) rfl)
      (pss_one (ps_ret pe_bl))))))))), ?_⟩
    cases r with
    | put b n =>
      have hp' : TpAt K H p [.str "put", .int b, .int n] := hp
      have q2 := q2 rfl
      walk_at "b"
      walk_at "u"
      refine lm_box k (by walk_at "sm") hok.1 (t := .num n) hok.2 rfl fun H1 f1 k1 => ?_
      have kd1 := k1.d
      walk_at "u"
      refine lm_place k1 (by walk_at "sm") np1 fun H2 f2 k2 => ?_
      walk_at "u"
      exact q2 _ L (f1.trans f2) rfl (fun a ha => .inl ha) k2
    | add b c d =>
      have hp' : TpAt K H p [.str "add", .int b, .int c, .int d] := hp
      obtain ⟨t1, h1, a1, w1, x1⟩ := bx_lt k hok.2.1
      obtain ⟨t2, h2, a2, w2, x2⟩ := bx_lt k hok.2.2
      have q2 := q2 rfl
      rw [show ({ m with place := m.place + 1 } : Mc).act A (.add b c d) = { m.setBox b (.num ((t1.worth + t2.worth) % 1000)) with place := m.place + 1 } from by rw [← w1, ← w2]; rfl] at q2
      walk_at "b"
      walk_at "u"
      refine lm_box k (by walk_at "sm") hok.1 (t := .num ((t1.worth + t2.worth) % 1000)) ⟨Int.emod_nonneg _ (by decide), Int.emod_lt_of_pos _ (by decide)⟩ rfl fun H1 f1 k1 => ?_
      have kd1 := k1.d
      walk_at "u"
      refine lm_place k1 (by walk_at "sm") np1 fun H2 f2 k2 => ?_
      walk_at "u"
      exact q2 _ L (f1.trans f2) rfl (fun a ha => .inl ha) k2
    | less b c d =>
      have hp' : TpAt K H p [.str "less", .int b, .int c, .int d] := hp
      obtain ⟨t1, h1, a1, w1, x1⟩ := bx_lt k hok.2.1
      obtain ⟨t2, h2, a2, w2, x2⟩ := bx_lt k hok.2.2
      have q2 := q2 rfl
      rw [show ({ m with place := m.place + 1 } : Mc).act A (.less b c d) = { m.setBox b (.num ((t1.worth - t2.worth) % 1000)) with place := m.place + 1 } from by rw [← w1, ← w2]; rfl] at q2
      walk_at "b"
      walk_at "u"
      refine lm_box k (by walk_at "sm") hok.1 (t := .num ((t1.worth - t2.worth) % 1000)) ⟨Int.emod_nonneg _ (by decide), Int.emod_lt_of_pos _ (by decide)⟩ rfl fun H1 f1 k1 => ?_
      have kd1 := k1.d
      walk_at "u"
      refine lm_place k1 (by walk_at "sm") np1 fun H2 f2 k2 => ?_
      walk_at "u"
      exact q2 _ L (f1.trans f2) rfl (fun a ha => .inl ha) k2
    | load b c =>
      have hp' : TpAt K H p [.str "load", .int b, .int c] := hp
      obtain ⟨t1, h1, a1, w1, x1⟩ := bx_lt k hok.2
      have n1 := t1.worth_nm a1
      have n10 := n1.1
      have er : m.reaches (.load b c) = decide (m.w1 ≤ t1.worth) := by rw [← w1]; rfl
      rw [er] at q1 q2
      walk_at "b"
      walk_at "u"
      refine Y.s_d2 (fun hge => ?_) (fun hge => ?_)
      · walk_at "u"
        refine u_lcaught (k.same (by walk_at "sm")) ⟨by decide, by decide⟩ ⟨by decide, by decide⟩ (fun _ => .inl rfl) fun H1 L1 f1 d1 g1 k1 => ?_
        walk_at "u"
        exact ((q1 (decide_eq_true hge)).same (by walk_at "sm")) H1 L1 f1 d1 g1 k1
      · have q2 := q2 (decide_eq_false hge)
        obtain ⟨t, et, at1, xt⟩ := cell_lt k n1.1 (show t1.worth < m.w1 by omega)
        rw [show ({ m with place := m.place + 1 } : Mc).act A (.load b c) = { m.setBox b t with place := m.place + 1 } from by
          show (match m.at_ (m.bw c) with | some t => Mc.setBox _ b t | none => _) = _
          rw [w1, et]
          rfl] at q2
        walk_at "u"
        refine lm_box k (by walk_at "sm") hok.1 (t := t) at1 rfl fun H1 f1 k1 => ?_
        have kd1 := k1.d
        walk_at "u"
        refine lm_place k1 (by walk_at "sm") np1 fun H2 f2 k2 => ?_
        walk_at "u"
        exact q2 _ L (f1.trans f2) rfl (fun a ha => .inl ha) k2
    | store c b =>
      have hp' : TpAt K H p [.str "store", .int c, .int b] := hp
      obtain ⟨t1, h1, a1, w1, x1⟩ := bx_lt k hok.1
      obtain ⟨t2, h2, a2, w2, x2⟩ := bx_lt k hok.2
      have n1 := t1.worth_nm a1
      have n10 := n1.1
      have er : m.reaches (.store c b) = decide (m.w1 ≤ t1.worth) := by rw [← w1]; rfl
      rw [er] at q1 q2
      walk_at "b"
      walk_at "u"
      refine Y.s_d2 (fun hge => ?_) (fun hge => ?_)
      · walk_at "u"
        refine u_lcaught (k.same (by walk_at "sm")) ⟨by decide, by decide⟩ ⟨by decide, by decide⟩ (fun _ => .inl rfl) fun H1 L1 f1 d1 g1 k1 => ?_
        walk_at "u"
        exact ((q1 (decide_eq_true hge)).same (by walk_at "sm")) H1 L1 f1 d1 g1 k1
      · have q2 := q2 (decide_eq_false hge)
        rw [show ({ m with place := m.place + 1 } : Mc).act A (.store c b) = { m with cells := m.cells.set (m.w0 + t1.worth).toNat t2, place := m.place + 1 } from by
          show (match m.boxes[b.toNat]? with | some t => ({ m with cells := lay m.cells (m.w0 + m.bw c).toNat [t], place := m.place + 1 } : Mc) | none => _) = _
          rw [h2, w1]
          show ({ m with cells := lay m.cells (m.w0 + t1.worth).toNat [t2], place := m.place + 1 } : Mc) = _
          rw [lay_one (by omega)]] at q2
        walk_at "u"
        refine lm_cell k (by walk_at "sm") (by omega) (by omega) (t := t2) a2 rfl fun H1 f1 k1 => ?_
        have kd1 := k1.d
        walk_at "u"
        refine lm_place k1 (by walk_at "sm") np1 fun H2 f2 k2 => ?_
        walk_at "u"
        exact q2 _ L (f1.trans f2) rfl (fun a ha => .inl ha) k2
    | zero b n =>
      have hp' : TpAt K H p [.str "zero", .int b, .int n] := hp
      obtain ⟨t1, h1, a1, w1, x1⟩ := bx_lt k hok.1
      have q2 := q2 rfl
      rw [show ({ m with place := m.place + 1 } : Mc).act A (.zero b n) = { m with place := if t1.worth = 0 then n else m.place + 1 } from by
        show (if m.bw b = 0 then ({ m with place := n } : Mc) else { m with place := m.place + 1 }) = _
        rw [w1]
        split <;> rfl] at q2
      walk_at "b"
      walk_at "u"
      refine Y.s_d2 (fun hz => ?_) (fun hz => ?_)
      · rw [if_pos hz] at q2
        walk_at "u"
        refine lm_place k (by walk_at "sm") hok.2 fun H2 f2 k2 => ?_
        walk_at "u"
        exact q2 _ L f2 rfl (fun a ha => .inl ha) k2
      · rw [if_neg hz] at q2
        walk_at "u"
        refine lm_place k (by walk_at "sm") np1 fun H2 f2 k2 => ?_
        walk_at "u"
        exact q2 _ L f2 rfl (fun a ha => .inl ha) k2
    | go n =>
      have hp' : TpAt K H p [.str "go", .int n] := hp
      have q2 := q2 rfl
      walk_at "b"
      walk_at "u"
      refine lm_place k (by walk_at "sm") hok fun H2 f2 k2 => ?_
      walk_at "u"
      exact q2 _ L f2 rfl (fun a ha => .inl ha) k2
    | call n => cases hpl
    | say b => cases hpl
    | hear b => cases hpl
    | which b => cases hpl
    | room b => cases hpl
    | enter b => cases hpl
    | alarm b => cases hpl
    | stop => cases hpl
end
end G
end
section
namespace G
open PySem L2 C8
variable {K : PySem.W.Frag}
def Row.owns : Row → Bool
  | .say _ => true | .hear _ => true | .which _ => true | .room _ => true | .enter _ => true | .alarm _ => true | .stop => true | _ => false
def spLHigh (K : PySem.W.Frag) : Sp := fun vs H Q _ => ∃ (L : Lm) (m : Mc) (A : Adr) (p : Addr) (r : Row), vs = [.ref L.d, .ref p] ∧ (LmAt K) H L m ∧ (Thing.row p r).At K H ∧ r.owns = true ∧ m.place < m.w1 ∧ m.high = true ∧ m.why = "" ∧ m.w1 = m.cells.length ∧ m.byGround A r.word = false ∧ m.said.length < 90000 ∧
  (LmTo K) H L (({ m with place := m.place + 1 } : Mc).act A r) (Q .non)
section
variable {K : PySem.W.Frag} {H0 H : Hp} {L : Lm} {m : Mc} {q : Hp → Prop} {Q : VK}
theorem lm_say {n : Int} (k : (LmAt K) H0 L m) (s : Same H0 H) (hl : m.said.length < 90000) (h : ∀ H', FrS L.own H0 H' → (LmAt K) H' L { m with said := m.said ++ [n] } → Q .non H') : rAppend (.ref L.ps) [.int n] H Q := by
  refine s_append (s _ _ k.s) (by rw [List.length_map]; omega) ?_
  rw [show m.said.map V.int ++ [V.int n] = (m.said ++ [n]).map V.int from by rw [List.map_append]; rfl]
  exact h _ ((FrS.refl.same s).upd Lm.i3) (k.same s).says
theorem lm_newear {pe : Addr} {ns : List Int} (k : (LmAt K) H0 L m) (s : Same H0 H) (hp : H0 pe = none) (he : H pe = some (.lst (ns.map V.int))) (hn : ∀ n ∈ ns, Nm n) (hl : ns.length ≤ 20) (h : ∀ H', FrS L.own H0 H' → (LmAt K) H' { L with pe := pe } { m with ear := ns } → q H') : Y.DpR (.ref pe) q (.ref L.d) (.str "ear") H :=
  Y.s_dputS (s _ _ k.d) rfl (new := Lm.kvs { L with pe := pe } { m with ear := ns }) rfl (h _ ((FrS.refl.same s).upd Lm.i0) ((k.same s).newEar (m' := { m with ear := ns }) he (ne_of_none k.x hp) (ne_of_none k.s hp) (ne_of_none k.c hp) rfl rfl rfl rfl rfl ⟨k.ok.box, k.ok.n16, k.ok.n40, k.ok.pl, k.ok.w0, k.ok.w1, k.ok.win, k.ok.al, hn, hl⟩))
theorem lm_win {pw d2 : Addr} {kvs2 : List (Key × V)} {m' : Mc} (k : (LmAt K) H0 L m) (s : Same H0 H) (hn : L.d ≠ d2) (e2 : H d2 = some (.dK kvs2)) (hl : Nat.ble kvs2.length 20 = true) (hm : mergeK (L.kvs m) kvs2 = Lm.kvs { L with pw := pw } m') (hw : H pw = some (.tup [.int m'.w0, .int m'.w1])) (e1 : m'.cells = m.cells) (e3 : m'.boxes = m.boxes) (e4 : m'.said = m.said) (e5 : m'.ear = m.ear) (ok : m'.Ok)
    (h : ∀ H', FrS L.own H0 H' → (LmAt K) H' { L with pw := pw } m' → Q .non H') : Y.rUpdate (.ref L.d) [.ref d2] H Q :=
  Y.s_updateS hn (s _ _ k.d) e2 (Nat.le_trans (Nat.add_le_add_left (Nat.le_of_ble_eq_true hl) 10) (by decide)) hm (h _ ((FrS.refl.same s).upd Lm.i0) ((k.same s).win hw e1 e3 e4 e5 ok))
theorem fresh_after {H1 : Hp} {m1 : Mc} {p : Addr} (k : (LmAt K) H1 L m1) (f : FrS L.own H0 H1) (h : H1 p = none) : H0 p = none := by
  refine none_fr f (fun hm => ?_) h
  rcases Lm.kind k p hm with ⟨_, e⟩ | ⟨_, e⟩ <;> rw [h] at e <;> cases e
theorem grow_pe {pe : Addr} (h : H0 pe = none) : ∀ a ∈ ({ L with pe := pe } : Lm).own, a ∈ L.own ∨ H0 a = none := fun a ha => by
  simp only [Lm.own, List.mem_cons, List.not_mem_nil, or_false] at ha
  rcases ha with rfl | rfl | rfl | rfl | rfl
  · exact .inl Lm.i0
  · exact .inl Lm.i1
  · exact .inl Lm.i2
  · exact .inl Lm.i3
  · exact .inr h
end
end G
local macro_rules
  | `(tactic| walk_at "fs") => `(tactic| first
    | walk_at "as"
    | with_reducible apply G.FrS.refl
    | ((with_reducible apply G.fs_own); (focus walk_at "as"); (focus walk_at "fs"))
    | ((with_reducible apply G.fs_new); (focus walk_at "as"); (focus walk_at "fs"))
    | ((with_reducible apply G.fs_upd); (focus first | exact G.Lm.i0 | exact G.Lm.i1 | exact G.Lm.i2 | exact G.Lm.i3 | exact G.Lm.i4 | walk_at "as"); (focus walk_at "fs"))
    | ((with_reducible apply G.fs_tr); (focus walk_at "as"); (focus walk_at "fs")))
local macro_rules
  | `(tactic| walk_at "u1") => `(tactic| first
    | walk_at "s1"
    | with_reducible refine Y.s_dput ?_
    | with_reducible refine G.s_par2 ?_
    | with_reducible refine G.s_two ?_
    | with_reducible refine Y.s_sl ?_
    | with_reducible refine Y.s_part ?_
    | with_reducible refine Y.s_partI ?_
    | with_reducible refine Y.s_noPart ?_
    | with_reducible refine Y.s_new rfl fun _ _ => ?_
    | ((with_reducible refine' Y.s_ixL (xs := ?xs) (w := ?w) ?h ?e ?q); (case' h => walk_at "sq"); (case' e => walk_at "as"))
    | ((with_reducible refine' Y.s_ixL' (xs := ?xs) (w := ?w) ?h ?e ?q); (case' h => walk_at "sq"); (case' e => walk_at "as"))
    | ((with_reducible refine' G.u_lworth (t := ?t) rfl ?a ?q); (case' a => first | walk_at "as" | ((with_reducible apply G.at_tu); (focus walk_at "as"); (focus walk_at "tu")))))
local macro_rules
  | `(tactic| walk_at "u") => `(tactic| repeat walk_at "u1")

namespace G
open PySem L2 C8
variable {K : PySem.W.Frag}
section
variable {P : Program} {w : World} {K : PySem.W.Frag} {mg : Str → Option Value} {base : Heap}
abbrev s__law_high : Stmt := top 129
theorem sc__law_high : FnScope ["_law_m", "_law_row_here", "_law_word", "_law_boxes", "_law_after", "_law_first", "_law_size", "_law_start_here", "_law_thing"] ["_law_m", "_law_row_here"] (fnScope s__law_high) := fnScope_by (by decide +kernel)
theorem ok__law_high {f : Addr} {fd : FuncData} (F : Def K mg "_law_high" s__law_high f fd) (b : Binds K fd ["_law_m", "_law_row_here"] []) (T : Txt K mg) (c__law_worth : Cal P w K mg base 1 "_law_worth" (spLWorth K) []) : Cal P w K mg base 2 "_law_high" (spLHigh K) [] := by
  refine cal0 F b .nil sc__law_high (fun vs H Q E h => ?_) (fun cdv A outer s H vs Q E hr h => ?_)
  · obtain ⟨L, m, A, p, r, rfl, _⟩ := h
    rfl
  · obtain ⟨L, m, A, p, r, rfl, k, ⟨hp, hok⟩, hpl, hlt, hh, hy, hw, hg, hs, q⟩ := h
    have nd := sc__law_high.nd
    have hu := hu_of hr
    have kd := k.d
    have kc := k.c
    have kx := k.x
    have kw := k.w
    have ks := k.s
    have ke := k.e
    have n16 := k.ok.n16
    have n40 := k.ok.n40
    have el := k.ok.el
    have win := k.ok.win
    have w0 := k.ok.w0
    have pl := k.ok.pl
    have np1 : Nm (m.place + 1) := ⟨by have := pl.1; omega, by omega⟩
    have nwin : ¬ m.why = "window" := by rw [hy]; decide +kernel
    have hg' : ({ m with place := m.place + 1 } : Mc).byGround A r.word = false := hg
    refine ⟨_, (pss_cons (ps_par (i := 2) (j := 3) (by rfl) nd rfl rfl (by decide) rfl rfl (pa_cons (pe_ix ix_tup (pv 1) pe_int (fun _ _ => rfl)) (pa_cons (pe_dget hu (pv 0) pe_str (fun _ _ => rfl)) pa_nil)) (by rfl))
      (pss_cons (ps_set (i := 4) nd rfl (by first | exact Or.inl rfl | exact Or.inr rfl) (pe_op op_add (pe_dget hu (pv 0) pe_str (fun _ _ => rfl)) pe_int))
      (pss_cons (ps_if (pt_cmpR op_eq (pv 2) pe_str (nomark _))
      (pss_one (ps_expr (pe_bm PySem.F.plainAttrs_list PySem.F.slot_list_append PySem.F.type_list_append mt_append (pe_dget hu (pv 0) pe_str (fun _ _ => rfl)) (pa_cons (pe_c c__law_worth hr (by first | decide | omega) (by rfl) (pa_cons (pe_ix ix_list (pv 3) (pe_ix ix_tup (pv 1) pe_int (fun _ _ => rfl)) (fun _ _ => rfl)) pa_nil)) pa_nil))))
      pss_nil)
      (pss_cons (ps_if (pt_cmpR op_eq (pv 2) pe_str (nomark _))
      (pss_cons (ps_asg (pe_ix ix_list (pe_op op_cat (pe_dget hu (pv 0) pe_str (fun _ _ => rfl)) (pe_lst (pa_cons pe_int pa_nil))) pe_int (fun _ _ => rfl)) (pg_sub (pv 3) (pe_ix ix_tup (pv 1) pe_int (fun _ _ => rfl)) set_list))
      (pss_one (ps_dput hu (pv 0) pe_str (pe_slice sl_list (pe_dget hu (pv 0) pe_str (fun _ _ => rfl)) (po_some pe_int) po_none) rfl)))
      pss_nil)
      (pss_cons (ps_if (pt_cmpR op_in_seq (pv 2) (pe_tup (pa_cons pe_str (pa_cons pe_str pa_nil))) (by rfl))
      (pss_one (ps_asg (pe_ix ix_list (pe_lst (pa_cons pe_int (pa_cons (pe_callB Y.cl_len (by rfl) T.n_len PySem.boot_len (pa_cons (pe_dget hu (pv 0) pe_str (fun _ _ => rfl)) pa_nil)) pa_nil))) (pe_callTy Y.cl_int (by rfl) T.n_int (by decide +kernel) (pa_cons (pe_cmpR op_eq (pv 2) pe_str (nomark _)) pa_nil)) (fun _ _ => rfl)) (pg_sub (pv 3) (pe_ix ix_tup (pv 1) pe_int (fun _ _ => rfl)) set_list)))
      pss_nil)
      (pss_cons (ps_if (pt_cmpR op_eq (pv 2) pe_str (nomark _))
      (pss_one (ps_dput hu (pv 0) pe_str (pe_c c__law_worth hr (by first | decide | omega) (by rfl) (pa_cons (pe_ix ix_list (pv 3) (pe_ix ix_tup (pv 1) pe_int (fun _ _ => rfl)) (fun _ _ => rfl)) pa_nil)) rfl))
      pss_nil)
      (pss_cons (ps_if (pt_cmpR op_eq (pv 2) pe_str (nomark _))
      (pss_one (ps_dput hu (pv 0) pe_str pe_str rfl))
      pss_nil)
      (pss_cons (ps_if (pt_cmpR op_eq (pv 2) pe_str (nomark _))
      (pss_cons (ps_asg (pe_lc (own := [("_law_thing", 8)]) (g := gName 8) (by rfl) nd (pi_list (pe_slice sl_list (pv 3) (po_some (pe_ix ix_tup (pv 1) pe_int (fun _ _ => rfl))) (po_some (pe_op op_add (pe_ix ix_tup (pv 1) pe_int (fun _ _ => rfl)) pe_int)))) (blkOk_by (N := ["_law_m", "_law_row_here", "_law_word", "_law_boxes", "_law_after", "_law_first", "_law_size", "_law_start_here", "_law_thing"]) (sc := fnScope s__law_high) (by decide +kernel)) (fun _ _ _ _ _ => (pg_name (i := 8) nd rfl (by first | exact Or.inl rfl | exact Or.inr rfl))) (fun _ _ _ _ _ => pts_nil) (fun _ _ _ _ _ => (pe_c c__law_worth hr (by first | decide | omega) (by rfl) (pa_cons (pv 8) pa_nil)))) (pg_unl (by rfl) (pgs_cons (pg_name (i := 5) nd rfl (by first | exact Or.inl rfl | exact Or.inr rfl)) (pgs_cons (pg_name (i := 6) nd rfl (by first | exact Or.inl rfl | exact Or.inr rfl)) (pgs_cons (pg_name (i := 7) nd rfl (by first | exact Or.inl rfl | exact Or.inr rfl)) pgs_nil)))))
      (pss_one (ps_if (pt_cmpR op_gt (pe_op op_add (pv 5) (pv 6)) (pe_callB Y.cl_len (by rfl) T.n_len PySem.boot_len (pa_cons (pe_dget hu (pv 0) pe_str (fun _ _ => rfl)) pa_nil)) (nomark _))
      (pss_one (ps_dput hu (pv 0) pe_str pe_str rfl))
      (pss_cons (ps_expr (pe_bm PySem.F.plainAttrs_dict PySem.F.slot_dict_update PySem.F.type_dict_update Y.mt_update (pv 0) (pa_cons (pe_disp (pps_cons pe_str (pe_tup (pa_cons (pv 5) (pa_cons (pv 6) pa_nil))) (pps_cons pe_str pe_bl pps_nil)) (by rfl) (by rfl) (fun z => by cases z) (by decide)) pa_nil)))
      (pss_one (ps_set (i := 4) nd rfl (by first | exact Or.inl rfl | exact Or.inr rfl) (pv 7)))))))
      pss_nil)
      (pss_one (ps_if (pt_cmpR op_ne (pe_dget hu (pv 0) pe_str (fun _ _ => rfl)) pe_str (nomark _))
      (pss_one (ps_dput hu (pv 0) pe_str (pv 4) rfl))
      pss_nil)))))))))), ?_⟩
    cases r with
    | say b =>
      have hp' : TpAt K H p [.str "say", .int b] := hp
      obtain ⟨t1, h1, a1, w1, x1⟩ := bx_lt k hok
      rw [show ({ m with place := m.place + 1 } : Mc).act A (.say b) = { m with said := m.said ++ [t1.worth], place := m.place + 1 } from by
        show (if ({ m with place := m.place + 1 } : Mc).byGround A "say" = true then _ else ({ m with said := m.said ++ [m.bw b], place := m.place + 1 } : Mc)) = _
        rw [show ({ m with place := m.place + 1 } : Mc).byGround A "say" = false from hg', w1]
        rfl] at q
      walk_at "b"
      walk_at "u"
      refine s_bm ?_
      walk_at "u"
      refine s_bmL (SqL.of ks) ?_
      walk_at "u"
      refine lm_say k (by walk_at "sm") hs fun H1 f1 k1 => ?_
      have kd1 := k1.d
      walk_at "u"
      refine Y.s_dNF nwin ?_
      walk_at "u"
      refine lm_place k1 (by walk_at "sm") np1 fun H2 f2 k2 => ?_
      walk_at "u"
      exact q _ L (f1.trans f2) rfl (fun a ha => .inl ha) k2
    | hear b =>
      have hp' : TpAt K H p [.str "hear", .int b] := hp
      have xh : atI (m.ear.map V.int ++ [V.int 0]) 0 = some (.int (m.ear.headD 0)) := at_of (j := 0) (by decide) (by cases m.ear <;> rfl)
      have xt : cutV (m.ear.map V.int) (some 1) none = (m.ear.drop 1).map V.int := by
        cases m.ear with
        | nil => rfl
        | cons e r => exact (Y.cut1 _ _).1
      have nh : Nm (m.ear.headD 0) := by
        have := k.ok.ear
        cases he : m.ear with
        | nil => exact ⟨by decide, by decide⟩
        | cons e r => exact this e (by rw [he]; exact .head _)
      have nr : ∀ n ∈ m.ear.drop 1, Nm n := fun n hn => k.ok.ear n (List.mem_of_mem_drop hn)
      rw [show ({ m with place := m.place + 1 } : Mc).act A (.hear b) = { m with boxes := m.boxes.set b.toNat (.num (m.ear.headD 0)), ear := m.ear.drop 1, place := m.place + 1 } from by
        show (if ({ m with place := m.place + 1 } : Mc).byGround A "hear" = true then _ else ({ m with place := m.place + 1 } : Mc).hears b) = _
        rw [show ({ m with place := m.place + 1 } : Mc).byGround A "hear" = false from hg', if_neg Bool.false_ne_true]
        unfold Mc.hears
        cases he : m.ear with
        | nil => unfold Mc.setBox; simp [he]
        | cons e r => unfold Mc.setBox; simp [he]] at q
      walk_at "b"
      walk_at "u"
      intro pz hpz
      walk_at "u"
      refine lm_box k (by walk_at "sm") hok (t := .num (m.ear.headD 0)) nh rfl fun H1 f1 k1 => ?_
      have kd1 := k1.d
      walk_at "u"
      refine Y.s_slL (ys := (m.ear.drop 1).map V.int) (SqL.of k1.e) xt fun pe hpe => ?_
      walk_at "u"
      refine lm_newear k1 (by walk_at "sm") hpe upd_same nr (by rw [List.length_drop]; omega) fun H2 f2 k2 => ?_
      have kd2 : H2 L.d = _ := k2.d
      walk_at "u"
      refine Y.s_dNF nwin ?_
      walk_at "u"
      refine lm_place (L := { L with pe := pe }) k2 (by walk_at "sm") np1 fun H3 f3 k3 => ?_
      walk_at "u"
      exact q.after (L1 := { L with pe := pe }) (f1.trans f2) rfl (grow_pe (fresh_after k1 f1 (none_of (by walk_at "sm") hpe))) H3 _ f3 rfl (fun a ha => .inl ha) k3
    | which b =>
      have hp' : TpAt K H p [.str "which", .int b] := hp
      rw [show ({ m with place := m.place + 1 } : Mc).act A (.which b) = { m.setBox b (.num 1) with place := m.place + 1 } from by
        show (if ({ m with place := m.place + 1 } : Mc).byGround A "which" = true then _ else if m.high = true then _ else _) = _
        rw [show ({ m with place := m.place + 1 } : Mc).byGround A "which" = false from hg', if_neg Bool.false_ne_true, if_pos hh]
        rfl] at q
      walk_at "b"
      walk_at "u"
      refine lm_box k (by walk_at "sm") hok (t := .num 1) ⟨by decide, by decide⟩ rfl fun H1 f1 k1 => ?_
      have kd1 := k1.d
      walk_at "u"
      refine Y.s_dNF nwin ?_
      walk_at "u"
      refine lm_place k1 (by walk_at "sm") np1 fun H2 f2 k2 => ?_
      walk_at "u"
      exact q _ L (f1.trans f2) rfl (fun a ha => .inl ha) k2
    | room b =>
      have hp' : TpAt K H p [.str "room", .int b] := hp
      walk_at "b"
      walk_at "u"
      refine lm_box k (by walk_at "sm") hok (t := .num m.w1) ⟨k.ok.w1, by omega⟩ (by rw [List.length_map, hw]; rfl) fun H1 f1 k1 => ?_
      have kd1 := k1.d
      walk_at "u"
      refine Y.s_dNF nwin ?_
      walk_at "u"
      refine lm_place k1 (by walk_at "sm") np1 fun H2 f2 k2 => ?_
      walk_at "u"
      exact q _ L (f1.trans f2) rfl (fun a ha => .inl ha) k2
    | enter b =>
      have hp' : TpAt K H p [.str "enter", .int b] := hp
      obtain ⟨u0, h0, a0, w0', x0⟩ := bx_lt k (b := b) ⟨hok.1, by have := hok.2; omega⟩
      obtain ⟨u1, h1, a1, w1', x1⟩ := bx_lt k (b := b + 1) ⟨by have := hok.1; omega, by have := hok.2; omega⟩
      obtain ⟨u2, h2, a2, w2', x2⟩ := bx_lt k (b := b + 2) ⟨by have := hok.1; omega, by have := hok.2; omega⟩
      have xc : cutV (m.boxes.map Thing.v) (some b) (some (b + 3)) = [u0, u1, u2].map Thing.v := by
        have hb := k.ok.box
        obtain ⟨c, hc⟩ : ∃ c : Nat, b = c := ⟨b.toNat, by have := hok.1; omega⟩
        subst hc
        rw [show ((c : Nat) : Int) + 3 = ((c + 3 : Nat) : Int) by omega, cut_some (by have := hok.2; omega) (by have := hok.2; omega)]
        congr 1
        have hc : c < 2 := by have := hok.2; omega
        match hm : m.boxes, hb with
        | [b0, b1, b2, b3], _ =>
          rw [hm] at h0 h1 h2
          match c, hc with
          | 0, _ => cases h0; cases h1; cases h2; rfl
          | 1, _ => cases h0; cases h1; cases h2; rfl
      have hn0 := u0.worth_nm a0
      have hn1 := u1.worth_nm a1
      have hn2 := u2.worth_nm a2
      rw [show ({ m with place := m.place + 1 } : Mc).act A (.enter b) = if m.cells.length < u0.worth + u1.worth then { m with why := "window" } else { m with w0 := u0.worth, w1 := u1.worth, place := u2.worth, high := false } from by
        show (if ({ m with place := m.place + 1 } : Mc).byGround A "enter" = true then _ else if m.high = true then ({ m with place := m.place + 1 } : Mc).enters b else _) = _
        rw [show ({ m with place := m.place + 1 } : Mc).byGround A "enter" = false from hg', if_neg Bool.false_ne_true, if_pos hh]
        show (if (m.cells.length : Int) < m.bw b + m.bw (b + 1) then ({ m with place := m.place + 1 - 1, why := "window" } : Mc) else { m with w0 := m.bw b, w1 := m.bw (b + 1), place := m.bw (b + 2), high := false }) = _
        rw [w0', w1', w2', show m.place + 1 - 1 = m.place by omega]] at q
      walk_at "b"
      walk_at "u"
      refine Y.s_slL (ys := [u0, u1, u2].map Thing.v) (SqL.of (by walk_at "hp")) xc fun pl hpl => ?_
      walk_at "u"
      refine Y.fgt (fun H' => Same H H' ∧ H' pl = some (.lst ([u0, u1, u2].map Thing.v))) ⟨by walk_at "sm", upd_same⟩ fun HA ⟨sA, eA⟩ => ?_
      have au : ∀ u ∈ [u0, u1, u2], u.At K HA := fun u hu => by
        have tA : Tu H HA := fun p xs h => sA p _ h
        simp only [List.mem_cons, List.not_mem_nil, or_false] at hu
        rcases hu with rfl | rfl | rfl
        · exact a0.tu tA
        · exact a1.tu tA
        · exact a2.tu tA
      refine Y.s_lcL (SqL.of eA) fun D hD => ⟨fun i acc Hx => Same HA Hx ∧ acc = ([u0, u1, u2].take i).map fun t => V.int t.worth, ⟨by walk_at "sm", rfl⟩, fun i acc Hx h1 h2 => SqL.of (h2.1 _ _ eA), ?_, ?_⟩
      · rintro i x acc Hx hx hl hD2 ⟨sx, rfl⟩
        obtain ⟨u, hui, rfl⟩ := map_at hx
        have hi3 : i < 3 := (List.getElem?_eq_some_iff.mp hui).1
        have aux : u.At K Hx := (au u (List.mem_of_getElem? hui)).tu fun p xs h => sx p _ h
        walk_at "u"
        exact Y.s_lcE hD2 hl (by omega) ⟨Y.same_own hD sx, by rw [take_snoc hui, List.map_append]; rfl⟩
      · rintro acc Hx hD2 hl ⟨sx, rfl⟩
        refine ⟨D, _, rfl, SqL.of hD2, rfl, _, _, rfl, _, _, rfl, _, _, rfl, rfl, ?_⟩
        have sH := sA.trans sx
        have kdx := sH _ _ kd
        have kcx := sH _ _ kc
        have kX := k.same sH
        walk_at "u"
        refine Y.s_d2 (fun hc => ?_) (fun hc => ?_)
        · rw [List.length_map] at hc
          rw [if_pos hc] at q
          walk_at "u"
          refine lm_why k (by walk_at "sm") fun H1 f1 k1 => ?_
          have kd1 := k1.d
          walk_at "u"
          exact q _ L f1 rfl (fun a ha => .inl ha) k1
        · rw [List.length_map] at hc
          rw [if_neg hc] at q
          walk_at "u"
          refine s_bm ?_
          walk_at "u"
          refine Y.s_bmD kdx ?_
          walk_at "u"
          intro pd hpd
          walk_at "s"
          refine Y.s_new rfl fun pw hpw => ?_
          walk_at "u"
          refine Y.s_dend ["window", "high"] [.ref pw, .bl false] (by walk_at "hp") rfl (by decide +kernel) rfl ?_
          walk_at "u"
          have npd : pw ≠ pd := fun z => by rw [z, upd_same] at hpw; cases hpw
          refine lm_win (pw := pw) (m' := { m with w0 := u0.worth, w1 := u1.worth, high := false }) kX (by walk_at "sm") (ne_of_none kdx hpd) upd_same rfl (by rfl) ((upd_ne npd).trans upd_same) rfl rfl rfl rfl ⟨k.ok.box, k.ok.n16, k.ok.n40, k.ok.pl, hn0.1, hn1.1, by show u0.worth + u1.worth ≤ (m.cells.length : Nat); omega, k.ok.al, k.ok.ear, k.ok.el⟩ fun H1 f1 k1 => ?_
          have kd1 : H1 L.d = _ := k1.d
          walk_at "u"
          refine Y.s_dNF nwin ?_
          walk_at "u"
          refine lm_place (L := { L with pw := pw }) k1 (by walk_at "sm") hn2 fun H2 f2 k2 => ?_
          walk_at "u"
          exact q _ { L with pw := pw } (((FrS.refl.same sH).trans f1).trans f2) rfl (fun a ha => .inl ha) k2
    | alarm b =>
      have hp' : TpAt K H p [.str "alarm", .int b] := hp
      obtain ⟨t1, h1, a1, w1, x1⟩ := bx_lt k hok
      rw [show ({ m with place := m.place + 1 } : Mc).act A (.alarm b) = { m with alarm := t1.worth, place := m.place + 1 } from by
        show (if ({ m with place := m.place + 1 } : Mc).byGround A "alarm" = true then _ else if m.high = true then ({ m with alarm := m.bw b, place := m.place + 1 } : Mc) else _) = _
        rw [show ({ m with place := m.place + 1 } : Mc).byGround A "alarm" = false from hg', if_neg Bool.false_ne_true, if_pos hh, w1]] at q
      walk_at "b"
      walk_at "u"
      refine lm_alarm k (by walk_at "sm") (t1.worth_nm a1) fun H1 f1 k1 => ?_
      have kd1 := k1.d
      walk_at "u"
      refine Y.s_dNF nwin ?_
      walk_at "u"
      refine lm_place k1 (by walk_at "sm") np1 fun H2 f2 k2 => ?_
      walk_at "u"
      exact q _ L (f1.trans f2) rfl (fun a ha => .inl ha) k2
    | stop =>
      have hp' : TpAt K H p [.str "stop"] := hp
      rw [show ({ m with place := m.place + 1 } : Mc).act A .stop = { m with why := "stop", place := m.place + 1 } from by
        show (if ({ m with place := m.place + 1 } : Mc).byGround A "stop" = true then _ else if m.high = true then _ else _) = _
        rw [show ({ m with place := m.place + 1 } : Mc).byGround A "stop" = false from hg', if_neg Bool.false_ne_true, if_pos hh]] at q
      walk_at "b"
      walk_at "u"
      refine lm_why k (by walk_at "sm") fun H1 f1 k1 => ?_
      have kd1 := k1.d
      walk_at "u"
      refine Y.s_dNF (show ¬ (("stop" : Str) = "window") by decide +kernel) ?_
      walk_at "u"
      refine lm_place k1 (by walk_at "sm") np1 fun H2 f2 k2 => ?_
      walk_at "u"
      exact q _ L (f1.trans f2) rfl (fun a ha => .inl ha) k2
    | put b n => cases hpl
    | add b c d => cases hpl
    | less b c d => cases hpl
    | load b c => cases hpl
    | store b c => cases hpl
    | zero b n => cases hpl
    | go n => cases hpl
    | call n => cases hpl
end
end G
end
section
/-! ### lists of ints as data -/
namespace G
open PySem L2 C8
theorem dp_ints {K : PySem.W.Frag} {H : Hp} : ∀ ns : List Int, DpAll K H (ns.map V.int) (ns.map PyData.int)
  | [] => .nil
  | n :: r => .cons (.int n) (dp_ints r)
theorem lay_is : ∀ ns : List Int, PyData.canLayAll0 (ns.map PyData.int) = true ∧ PyData.depthAll (ns.map PyData.int) = 0
  | [] => ⟨rfl, rfl⟩
  | n :: r => by
    obtain ⟨a1, a2⟩ := lay_is r
    refine ⟨?_, ?_⟩
    · show (true && PyData.canLayAll0 (r.map PyData.int)) = true
      rw [a1]; rfl
    · show max 0 (PyData.depthAll (r.map PyData.int)) = 0
      rw [a2]; rfl
theorem shaped_is (ns : List Int) : SeqAt.shaped (.list (ns.map PyData.int)) = true := by
  obtain ⟨a1, a2⟩ := lay_is ns
  unfold SeqAt.shaped
  rw [Bool.and_eq_true, decide_eq_true_eq]
  refine ⟨a1, ?_⟩
  show PyData.depthAll (ns.map PyData.int) + 1 ≤ _
  rw [a2]
  decide
theorem s_neInts {K : PySem.W.Frag} {H : Hp} {Q : VK} {p1 p2 : Addr} {ns : List Int} (h1 : H p1 = some (.lst (ns.map V.int))) (h2 : H p2 = some (.lst (ns.map V.int))) (q : Q (.bl false) H) : rNeD K (.ref p1) (.ref p2) H Q := by
  refine ⟨_, _, .lst (SqL.of h1) (dp_ints ns), .lst (SqL.of h2) (dp_ints ns), shaped_is ns, shaped_is ns, ?_⟩
  rw [SeqAt.eqv_refl _ (SeqAt.canLay_of_shaped (shaped_is ns))]
  exact q
end G
end
section
/-! ### machines beside one another -/
namespace G
open PySem L2 C8
variable {K : PySem.W.Frag}
def Ap (x : Addr) (A : Adr) (y : Addr) (B : Adr) : Prop := ∀ a ∈ x :: A.adrs, a ∉ y :: B.adrs
theorem Ap.sym {x y : Addr} {A B : Adr} (h : Ap x A y B) : Ap y B x A := fun a ha hb => h a hb ha
section
variable {K : PySem.W.Frag} {Z : Zs K} {CM : Addr} {H H' : Hp} {A B : Adr} {m : Mc} {x y st : Addr} {bs : List Bool}
theorem mach_some (k : MachAt Z CM H x A m) : ∀ a ∈ x :: A.adrs, ∃ o, H a = some o := fun a ha => by
  rcases List.mem_cons.mp ha with rfl | ha
  · obtain ⟨⟨dx, e⟩, _⟩ := k
    exact ⟨_, e⟩
  · exact adr_some k.b a ha
theorem ap_new (k : MachAt Z CM H x A m) (h : H y = none) (f : ∀ a ∈ B.adrs, H a = none) : Ap x A y B := fun a ha hb => by
  obtain ⟨o, e⟩ := mach_some k a ha
  rcases List.mem_cons.mp hb with rfl | hb
  · rw [h] at e; cases e
  · rw [f a hb] at e; cases e
/-- a machine of the kind, apart from where drawing stands -/
structure Mon (Z : Zs K) (CM : Addr) (H : Hp) (st : Addr) (bs : List Bool) (x : Addr) (A : Adr) (m : Mc) : Prop where
  k : MachAt Z CM H x A m
  b : A.bs = bs
  n : st ∉ x :: A.adrs
theorem Mon.same (h : Mon Z CM H st bs x A m) (s : Same H H') : Mon Z CM H' st bs x A m := ⟨h.k.same s, h.b, h.n⟩
theorem Mon.drawn (h : Mon Z CM H st bs x A m) (S : StAt K H st) (f : Fr st H H') : Mon Z CM H' st bs x A m := ⟨h.k.draw S f h.n, h.b, h.n⟩
theorem Mon.own (h : Mon Z CM H st bs x A m) : ∀ a ∈ A.own, a ∈ x :: A.adrs := fun a ha => .tail _ (own_sub h.k.al a ha)
theorem Mon.beside {m2 : Mc} (h : Mon Z CM H st bs x A m) (g : Mon Z CM H st bs y B m2) (d : Ap x A y B) (f : FrS B.own H H') : Mon Z CM H' st bs x A m :=
  ⟨h.k.fr f (fun a ha hb => d a ha (g.own a hb)) (tu_own g.k.b f), h.b, h.n⟩
theorem Mon.state (h : Mon Z CM H st bs x A m) (S : StAt K H st) (f : FrS A.own H H') : StAt K H' st := st_own S h.k.b (fun z => h.n (h.own _ z)) f
theorem Mon.new {H0 : Hp} (k : MachAt Z CM H x A m) (S : StAt K H0 st) (hx : H0 x = none) (f : ∀ a ∈ A.adrs, H0 a = none) (b : A.bs = bs) : Mon Z CM H st bs x A m := ⟨k, b, fun ha => by
  obtain ⟨zs, e⟩ := S.lst
  rcases List.mem_cons.mp ha with rfl | ha
  · rw [hx] at e; cases e
  · rw [f _ ha] at e; cases e⟩
theorem u_make {Q : Addr → Hp → Prop} {E : XK} {pk pc pe : Addr} {b1 b2 : Bool} {ts : List Thing} {ns : List Int} (hk : KindAt H pk bs) (hc : H pc = some (LT b1 (ts.map Thing.v))) (ht : (Things K) H ts) (h1 : 16 ≤ ts.length) (h2 : ts.length ≤ 40) (he : H pe = some (LT b2 (ns.map V.int))) (hn : ∀ n ∈ ns, Nm n) (hl : ns.length ≤ 20) (q : ∀ x A H', Same H H' → H x = none → (∀ a ∈ A.adrs, H a = none) → A.bs = bs → MachAt Z CM H' x A (Mc.start ts ns) → Q x H') :
    ∀ x dx, H x = none → H dx = none → dx ≠ x → spMachInit Z CM (.ref x :: ([.ref pk, .ref pc, .ref pe] ++ [])) (upd (upd H dx (.own x)) x (.ins CM dx [])) (fun v H2 => v = .non ∧ Q x H2) E := by
  intro x dx hx hdx hne
  have s1 : Same H (upd (upd H dx (.own x)) x (.ins CM dx [])) := fun c u hc => by rw [upd_ne (ne_of_none hc hx), upd_ne (ne_of_none hc hdx)]; exact hc
  refine ⟨x, dx, pk, pc, pe, bs, b1, b2, ts, ns, rfl, upd_same, hk.mono s1, s1 _ _ hc, ht.same s1, h1, h2, s1 _ _ he, hn, hl, fun A H1 f1 fr ek eb al e1 k1 => ⟨rfl, ?_⟩⟩
  refine q x A H1 (fun c u hc => f1 c u (fun m => ne_of_none hc hx (List.mem_singleton.mp m)) (s1 c u hc)) hx (fun a ha => ?_) eb ⟨⟨dx, e1⟩, k1, al⟩
  cases e : H a with
  | none => rfl
  | some o => have := s1 a o e; rw [fr a ha] at this; cases this
theorem u_mgo {Q : VK} {E : XK} {n : Int} (k : MachAt Z CM H x A m) (h0 : 0 ≤ n) (h4 : n ≤ 400) (h1 : m.said.length + n.toNat ≤ 90000) (g : m.gsaid = []) (q : ∀ H', FrS A.own H H' → MachAt Z CM H' x A (m.goes A n.toNat).1 → Q (.int ((m.goes A n.toNat).2 : Nat)) H') : spMachGo Z CM (.ref x :: ([.int n] ++ [])) H Q E :=
  ⟨x, A, m, n, rfl, k, h0, h4, h1, by rw [g]; show 0 + n.toNat ≤ 90000; omega, q⟩
theorem u_mgo2 {Q : VK} {E : XK} {n : Int} {m' : Mc} {c : Nat} (k : MachAt Z CM H x A m) (h0 : 0 ≤ n) (h4 : n ≤ 400) (h1 : m.said.length + n.toNat ≤ 90000) (g : m.gsaid = []) (e : m.goes A n.toNat = (m', c)) (q : ∀ H', FrS A.own H H' → MachAt Z CM H' x A m' → Q (.int (c : Nat)) H') : spMachGo Z CM (.ref x :: ([.int n] ++ [])) H Q E :=
  u_mgo k h0 h4 h1 g fun H' f k' => by rw [e] at k' ⊢; exact q H' f k'
theorem Mon.kind {pk : Addr} (h : Mon Z CM H st bs x A m) (k : KindAt H pk bs) (f : FrS A.own H H') : KindAt H' pk bs := ⟨tu_own h.k.b f _ _ k.1, k.2⟩
theorem Mon.goes (h : Mon Z CM H st bs x A m) (g : Mon Z CM H st bs y B m) (n : Nat) : m.goes A n = m.goes B n := goes_congr h.k.al.1 g.k.al.1 (h.b.trans g.b.symm) n m
theorem u_msaid {Q : VK} {E : XK} (k : MachAt Z CM H x A m) (q : ∀ t, H t = none → Q (.ref t) (upd H t (.lst (m.said.map V.int)))) : spMachSaid Z CM (.ref x :: ([] ++ [])) H Q E := ⟨x, A, m, rfl, k, q⟩
theorem u_mcarried {Q : VK} {E : XK} (k : MachAt Z CM H x A m) (q : ∀ t H', Same H H' → H t = none → (BundleAt K) H' t m → Q (.ref t) H') : spMachCarried Z CM (.ref x :: ([] ++ [])) H Q E := ⟨x, A, m, rfl, k, q⟩
theorem u_same {n : Nat} {Q : VK} {E : XK} {x y : V} (h : Sm K H n x y) (q : ∀ H', Same H H' → Q (.bl true) H') : spSame K n ([x, y] ++ []) H Q E := ⟨x, y, rfl, h, q⟩
end
end G
end
section
namespace G
open PySem L2 C8
variable {K : PySem.W.Frag}
/-- .. and the ground's mouth -/
def LmToG (K : PySem.W.Frag) (H : Hp) (pm : Addr) (L : Lm) (m' : Mc) (R : Hp → Prop) : Prop := ∀ H' L', FrS (pm :: L.own) H H' → L'.d = L.d → (∀ a ∈ L'.own, a ∈ L.own ∨ H a = none) → (LmAt K) H' L' m' → H' pm = some (.lst (m'.gsaid.map V.int)) → R H'
def spLLow (K : PySem.W.Frag) : Sp := fun vs H Q _ => ∃ (L : Lm) (m : Mc) (A : Adr) (p : Addr) (r : Row), (LmAt K) H L m ∧ (Thing.row p r).At K H ∧ r.owns = true ∧ m.place < m.w1 ∧
  ((vs = [.ref L.d, .ref p, .ref L.ps, .ref L.pe] ∧ m.high = false ∧ m.byGround A r.word = false ∧ m.said.length < 90000 ∧ (LmTo K) H L (({ m with place := m.place + 1 } : Mc).act A r) (Q .non)) ∨
   ∃ pm pz, vs = [.ref L.d, .ref p, .ref pm, .ref pz] ∧ m.byGround A r.word = true ∧ pm ∉ L.own ∧ H pm = some (.lst (m.gsaid.map V.int)) ∧ H pz = some (.lst []) ∧ m.gsaid.length < 90000 ∧ (LmToG K) H pm L (({ m with place := m.place + 1 } : Mc).act A r) (Q .non))
def spLCounts (K : PySem.W.Frag) : Sp := fun vs H Q _ => ∃ (L : Lm) (m : Mc), vs = [.ref L.d] ∧ (LmAt K) H L m ∧ (LmTo K) H L (if m.high then m else m.lessens) (Q .non)
/-- whether a row is caught in low -/
def ownV (bs : List Bool) (z : Str) : V := match ownW.findIdx? fun y => decide (y = z) with
  | some j => .bl (bs.getD j false)
  | none => .non
def spLOwn : Sp := fun vs H Q _ => ∃ (pk : Addr) (bs : List Bool) (z : Str), vs = [.ref pk, .str z] ∧ KindAt H pk bs ∧ ∀ H', Same H H' → Q (ownV bs z) H'
section
variable {K : PySem.W.Frag} {H0 H H' : Hp} {L : Lm} {m : Mc} {q : Hp → Prop} {Q : VK}
theorem LmAt.gs (k : (LmAt K) H L m) (g : List Int) : (LmAt K) H L { m with gsaid := g } := ⟨k.d, k.c, k.x, k.w, k.s, k.e, k.tc, k.tb, k.cx, k.cs, k.ce, k.xs, k.xe, k.se, ⟨k.ok.box, k.ok.n16, k.ok.n40, k.ok.pl, k.ok.w0, k.ok.w1, k.ok.win, k.ok.al, k.ok.ear, k.ok.el⟩⟩
theorem LmAt.fr {S : List Addr} (k : (LmAt K) H L m) (f : FrS S H H') (n : ∀ a ∈ L.own, a ∉ S) (t : Tu H H') : (LmAt K) H' L m :=
  ⟨f _ _ (n _ Lm.i0) k.d, f _ _ (n _ Lm.i1) k.c, f _ _ (n _ Lm.i2) k.x, t _ _ k.w, f _ _ (n _ Lm.i3) k.s, f _ _ (n _ Lm.i4) k.e, k.tc.tu t, k.tb.tu t, k.cx, k.cs, k.ce, k.xs, k.xe, k.se, k.ok⟩
theorem LmTo.g {pm : Addr} {R : Hp → Prop} {m' : Mc} (q : (LmToG K) H pm L m' R) (hp : H pm = some (.lst (m'.gsaid.map V.int))) (n : pm ∉ L.own) : (LmTo K) H L m' R := fun H' L' f d g k =>
  q H' L' (f.sub fun a ha => .tail _ ha) d g k (f pm _ n hp)
theorem eqvNil (d : PyData) (ds : List PyData) : PyData.eqv (.list (d :: ds)) (.list []) = false := by rfl
theorem s_neNil0 {p1 p2 : Addr} (h1 : H p1 = some (.lst [])) (h2 : H p2 = some (.lst [])) (q : Q (.bl false) H) : rNeD K (.ref p1) (.ref p2) H Q :=
  ⟨_, _, .lst (SqL.of (xs := ([] : List Int).map V.int) h1) (dp_ints []), .lst (SqL.of (xs := ([] : List Int).map V.int) h2) (dp_ints []), shaped_is [], shaped_is [], q⟩
theorem s_neNilC {p1 p2 : Addr} {n : Int} {r : List Int} (h1 : H p1 = some (.lst ((n :: r).map V.int))) (h2 : H p2 = some (.lst [])) (q : Q (.bl true) H) : rNeD K (.ref p1) (.ref p2) H Q :=
  ⟨_, _, .lst (SqL.of h1) (dp_ints (n :: r)), .lst (SqL.of (xs := ([] : List Int).map V.int) h2) (dp_ints []), shaped_is (n :: r), shaped_is [], q⟩
theorem lm_pop {n : Int} {r : List Int} (k : (LmAt K) H0 L m) (s : Same H0 H) (he : m.ear = n :: r) (h : ∀ H', FrS L.own H0 H' → (LmAt K) H' L { m with ear := r } → Q (.int n) H') : rPopAt (.ref L.pe) [.int 0] H Q := by
  have e := s _ _ k.e
  have hw := k.ok.ear
  have hl := k.ok.el
  rw [he] at e hw hl
  rw [List.length_cons] at hl
  refine ⟨L.pe, (n :: r).map V.int, 0, 0, .int n, rfl, rfl, e, by decide, by decide, (ixN_seq (ixN_nat (k := 0) (by rw [List.length_map, List.length_cons]; omega))).1, rfl, ?_⟩
  exact h _ ((FrS.refl.same s).upd Lm.i4) ((k.same s).ears (fun x mx => hw x (.tail _ mx)) (by omega))
end
end G
local macro_rules
  | `(tactic| walk_at "fs") => `(tactic| first
    | walk_at "as"
    | with_reducible apply G.FrS.refl
    | ((with_reducible apply G.fs_own); (focus walk_at "as"); (focus walk_at "fs"))
    | ((with_reducible apply G.fs_new); (focus walk_at "as"); (focus walk_at "fs"))
    | ((with_reducible apply G.fs_upd); (focus first | exact G.Lm.i0 | exact G.Lm.i1 | exact G.Lm.i2 | exact G.Lm.i3 | exact G.Lm.i4 | walk_at "as"); (focus walk_at "fs"))
    | ((with_reducible apply G.fs_tr); (focus walk_at "as"); (focus walk_at "fs")))
local macro_rules
  | `(tactic| walk_at "u1") => `(tactic| first
    | walk_at "s1"
    | with_reducible refine Y.s_dput ?_
    | with_reducible refine G.s_par2 ?_
    | with_reducible refine G.s_two ?_
    | with_reducible refine Y.s_sl ?_
    | with_reducible refine Y.s_part ?_
    | with_reducible refine Y.s_partI ?_
    | with_reducible refine Y.s_noPart ?_
    | with_reducible refine Y.s_new rfl fun _ _ => ?_
    | ((with_reducible refine' Y.s_ixL (xs := ?xs) (w := ?w) ?h ?e ?q); (case' h => walk_at "sq"); (case' e => walk_at "as"))
    | ((with_reducible refine' Y.s_ixL' (xs := ?xs) (w := ?w) ?h ?e ?q); (case' h => walk_at "sq"); (case' e => walk_at "as"))
    | ((with_reducible refine' G.u_lworth (t := ?t) rfl ?a ?q); (case' a => first | walk_at "as" | ((with_reducible apply G.at_tu); (focus walk_at "as"); (focus walk_at "tu")))))
local macro_rules
  | `(tactic| walk_at "u") => `(tactic| repeat walk_at "u1")

namespace G
open PySem L2 C8
variable {K : PySem.W.Frag}
section
variable {P : Program} {w : World} {K : PySem.W.Frag} {mg : Str → Option Value} {base : Heap}
abbrev s__law_counts : Stmt := top 131
theorem sc__law_counts : FnScope ["_law_m"] ["_law_m"] (fnScope s__law_counts) := fnScope_by (by decide +kernel)
theorem ok__law_counts {f : Addr} {fd : FuncData} (F : Def K mg "_law_counts" s__law_counts f fd) (b : Binds K fd ["_law_m"] []) (T : Txt K mg) (c__law_caught : Cal P w K mg base 2 "_law_caught" (spLCaught K) []) : Cal P w K mg base 3 "_law_counts" (spLCounts K) [] := by
  refine cal0 F b .nil sc__law_counts (fun vs H Q E h => ?_) (fun cdv A outer s H vs Q E hr h => ?_)
  · obtain ⟨L, m, rfl, _⟩ := h
    rfl
  · obtain ⟨L, m, rfl, k, q⟩ := h
    have nd := sc__law_counts.nd
    have hu := hu_of hr
    have kd := k.d
    have al := k.ok.al
    refine ⟨_, (pss_one (ps_if (PW.pt (pw_and (pt_not (pt_val (pe_dget hu (pv 0) pe_str (fun _ _ => rfl)))) (pw_and1 (pt_cmpR op_gt (pe_dget hu (pv 0) pe_str (fun _ _ => rfl)) pe_int (nomark _)))))
      (pss_cons (ps_dput hu (pv 0) pe_str (pe_op op_sub (pe_dget hu (pv 0) pe_str (fun _ _ => rfl)) pe_int) rfl)
      (pss_one (ps_if (pt_cmpR op_eq (pe_dget hu (pv 0) pe_str (fun _ _ => rfl)) pe_int (nomark _))
      (pss_one (ps_expr (pe_c c__law_caught hr (by first | decide | omega) (by rfl) (pa_cons (pv 0) (pa_cons pe_int (pa_cons pe_int pa_nil))))))
      pss_nil)))
      pss_nil)), ?_⟩
    walk_at "b"
    walk_at "u"
    cases hh : m.high with
    | true =>
      rw [if_pos hh] at q
      walk_at "u"
      exact q _ L FrS.refl rfl (fun a ha => .inl ha) k
    | false =>
      rw [if_neg (by rw [hh]; exact Bool.false_ne_true)] at q
      unfold Mc.lessens at q
      walk_at "u"
      refine Y.s_d2 (fun hp => ?_) (fun hp => ?_)
      · rw [if_pos hp] at q
        walk_at "u"
        refine lm_alarm k (by walk_at "sm") (a := m.alarm - 1) ⟨by omega, by have := al.2; omega⟩ fun H1 f1 k1 => ?_
        have kd1 := k1.d
        walk_at "u"
        refine Y.s_d2 (fun hz => ?_) (fun hz => ?_)
        · have h1 : m.alarm = 1 := by have : m.alarm - 1 = 0 := hz; omega
          rw [if_pos h1] at q
          walk_at "u"
          refine u_lcaught k1 ⟨by decide, by decide⟩ ⟨by decide, by decide⟩ (fun z => by have : m.high = true := z; rw [hh] at this; cases this) ?_
          refine LmTo.after (H0 := H) (L := L) ?_ f1 rfl (fun a ha => .inl ha)
          have e : ({ m with alarm := m.alarm - 1 } : Mc).caughtL 4 0 = ({ m with alarm := 0 } : Mc).catch_ 4 := by
            unfold Mc.caughtL Mc.catch_
            rw [h1, if_neg (by show ¬ m.high = true; rw [hh]; exact Bool.false_ne_true), if_neg (by show ¬ m.high = true; rw [hh]; exact Bool.false_ne_true), if_neg (by decide)]
            rfl
          rw [e]
          exact q
        · rw [if_neg (fun z => hz (by show m.alarm - 1 = 0; omega))] at q
          walk_at "u"
          exact q _ L f1 rfl (fun a ha => .inl ha) k1
      · rw [if_neg hp] at q
        walk_at "u"
        exact q _ L FrS.refl rfl (fun a ha => .inl ha) k
abbrev s__law_own : Stmt := top 132
theorem sc__law_own : FnScope ["_law_kind_here", "_law_word", "_law_words"] ["_law_kind_here", "_law_word"] (fnScope s__law_own) := fnScope_by (by decide +kernel)
theorem ok__law_own {f : Addr} {fd : FuncData} (F : Def K mg "_law_own" s__law_own f fd) (b : Binds K fd ["_law_kind_here", "_law_word"] []) (T : Txt K mg) : Cal P w K mg base 1 "_law_own" spLOwn [] := by
  refine cal0 F b .nil sc__law_own (fun vs H Q E h => ?_) (fun cdv A outer s H vs Q E hr h => ?_)
  · obtain ⟨pk, bs, z, rfl, _⟩ := h
    rfl
  · obtain ⟨pk, bs, z, rfl, ⟨hk, hl⟩, q⟩ := h
    have nd := sc__law_own.nd
    refine ⟨_, (pss_cons (ps_set (i := 2) nd rfl (by first | exact Or.inl rfl | exact Or.inr rfl) (pe_lst (pa_cons pe_str (pa_cons pe_str (pa_cons pe_str (pa_cons pe_str (pa_cons pe_str (pa_cons pe_str (pa_cons pe_str pa_nil)))))))))
      (pss_one (ps_ret (pe_ifExp (pt_cmpR op_in_seq (pv 1) (pv 2) (by rfl)) (pe_ix ix_tup (pv 0) (pe_bm PySem.F.plainAttrs_list PySem.F.slot_list_index PySem.F.type_list_index mt_index (pv 2) (pa_cons (pv 1) pa_nil)) (fun _ _ => rfl)) pe_non)))), ?_⟩
    walk_at "b"
    refine Y.s_new rfl fun pl hpl => ?_
    have el : upd H pl (.lst (ownW.map V.str)) pl = some (.lst (ownW.map V.str)) := upd_same
    have hk1 : upd H pl (.lst (ownW.map V.str)) pk = some (.tup (bs.map V.bl)) := by walk_at "hp"
    have hs : Same H (upd H pl (.lst (ownW.map V.str))) := by walk_at "sm"
    walk_at "s"
    refine Y.s_inL (xs := ownW.map V.str) (b := ownW.contains z) (SqL.of el) rfl (Y.flat_strs _) (Y.inV_strs _ _) ?_
    walk_at "s"
    have q0 := q _ hs
    rcases find_own z with ⟨j, e1, e2, e3, e4, e5⟩ | ⟨e1, e4⟩
    · rw [e4]
      walk_at "s"
      refine s_bm ?_
      walk_at "s"
      refine s_bmL (SqL.of el) ?_
      walk_at "s"
      refine ⟨pl, ownW.map V.str, .str z, j, .str z, rfl, rfl, SqL.of el, rfl, Y.flat_strs _, by rw [List.getElem?_map, e2]; rfl, by show (z == z) = true; exact beq_self_eq_true z, fun i z' hi hz => ?_, ?_⟩
      · obtain ⟨y, hy, rfl⟩ := map_at hz
        have h3 := e3 i hi
        show (y == z) = false
        rw [beq_eq_false_iff_ne]
        intro hyz
        exact h3 (by rw [hy, hyz])
      · walk_at "s"
        refine Y.s_ixT' (w := .bl (bs.getD j false)) (SqT.of hk1) (at_of (j := j) rfl (by rw [List.getElem?_map, List.getElem?_eq_getElem (by omega), List.getD_eq_getElem?_getD, List.getElem?_eq_getElem (by omega)]; rfl)) ?_
        walk_at "s"
        unfold ownV at q0
        rw [e1] at q0
        exact q0
    · rw [e4]
      walk_at "s"
      unfold ownV at q0
      rw [e1] at q0
      exact q0
abbrev s__law_low : Stmt := top 130
theorem sc__law_low : FnScope ["_law_m", "_law_row_here", "_law_mouth", "_law_ear_here", "_law_word", "_law_boxes"] ["_law_m", "_law_row_here", "_law_mouth", "_law_ear_here"] (fnScope s__law_low) := fnScope_by (by decide +kernel)
theorem ok__law_low {f : Addr} {fd : FuncData} (F : Def K mg "_law_low" s__law_low f fd) (b : Binds K fd ["_law_m", "_law_row_here", "_law_mouth", "_law_ear_here"] []) (T : Txt K mg) (c__law_worth : Cal P w K mg base 1 "_law_worth" (spLWorth K) []) : Cal P w K mg base 2 "_law_low" (spLLow K) [] := by
  refine cal0 F b .nil sc__law_low (fun vs H Q E h => ?_) (fun cdv A outer s H vs Q E hr h => ?_)
  · obtain ⟨L, m, A, p, r, _, _, _, _, ⟨rfl, _⟩ | ⟨pm, pz, rfl, _⟩⟩ := h <;> rfl
  · obtain ⟨L, m, A, p, r, k, ⟨hp, hok⟩, hpl, hlt, hmode⟩ := h
    have nd := sc__law_low.nd
    have hu := hu_of hr
    have kd := k.d
    have kc := k.c
    have kx := k.x
    have kw := k.w
    have n40 := k.ok.n40
    have win := k.ok.win
    have w0 := k.ok.w0
    have pl := k.ok.pl
    have np1 : Nm (m.place + 1) := ⟨by have := pl.1; omega, by omega⟩
    obtain ⟨pmo, peo, rfl, hmd⟩ : ∃ pmo peo, vs = [.ref L.d, .ref p, .ref pmo, .ref peo] ∧ ((pmo = L.ps ∧ peo = L.pe ∧ m.high = false ∧ ({ m with place := m.place + 1 } : Mc).byGround A r.word = false ∧ m.said.length < 90000 ∧ (LmTo K) H L (({ m with place := m.place + 1 } : Mc).act A r) (Q .non)) ∨
        (({ m with place := m.place + 1 } : Mc).byGround A r.word = true ∧ pmo ∉ L.own ∧ H pmo = some (.lst (m.gsaid.map V.int)) ∧ H peo = some (.lst []) ∧ m.gsaid.length < 90000 ∧ (LmToG K) H pmo L (({ m with place := m.place + 1 } : Mc).act A r) (Q .non))) := by
      rcases hmode with ⟨rfl, h⟩ | ⟨pm, pz, rfl, h⟩
      · exact ⟨_, _, rfl, .inl ⟨rfl, rfl, h⟩⟩
      · exact ⟨_, _, rfl, .inr h⟩
    refine ⟨_, (pss_cons (ps_par (i := 4) (j := 5) (by rfl) nd rfl rfl (by decide) rfl rfl (pa_cons (pe_ix ix_tup (pv 1) pe_int (fun _ _ => rfl)) (pa_cons (pe_dget hu (pv 0) pe_str (fun _ _ => rfl)) pa_nil)) (by rfl))
      (pss_cons (ps_if (pt_cmpR op_eq (pv 4) pe_str (nomark _))
      (pss_one (ps_expr (pe_bm PySem.F.plainAttrs_list PySem.F.slot_list_append PySem.F.type_list_append mt_append (pv 2) (pa_cons (pe_c c__law_worth hr (by first | decide | omega) (by rfl) (pa_cons (pe_ix ix_list (pv 5) (pe_ix ix_tup (pv 1) pe_int (fun _ _ => rfl)) (fun _ _ => rfl)) pa_nil)) pa_nil))))
      pss_nil)
      (pss_cons (ps_if (pt_cmpR op_eq (pv 4) pe_str (nomark _))
      (pss_one (ps_asg (pe_ifExp (pt_cmpR (op_neD hr.units) (pv 3) (pe_lst pa_nil) (nomark _)) (pe_bm PySem.F.plainAttrs_list PySem.F.slot_list_pop PySem.F.type_list_pop mt_popAt (pv 3) (pa_cons pe_int pa_nil)) pe_int) (pg_sub (pv 5) (pe_ix ix_tup (pv 1) pe_int (fun _ _ => rfl)) set_list)))
      pss_nil)
      (pss_cons (ps_if (pt_cmpR op_in_seq (pv 4) (pe_tup (pa_cons pe_str (pa_cons pe_str pa_nil))) (by rfl))
      (pss_one (ps_asg (pe_ix ix_list (pe_lst (pa_cons pe_int (pa_cons (pe_ix ix_tup (pe_dget hu (pv 0) pe_str (fun _ _ => rfl)) pe_int (fun _ _ => rfl)) pa_nil))) (pe_callTy Y.cl_int (by rfl) T.n_int (by decide +kernel) (pa_cons (pe_cmpR op_eq (pv 4) pe_str (nomark _)) pa_nil)) (fun _ _ => rfl)) (pg_sub (pv 5) (pe_ix ix_tup (pv 1) pe_int (fun _ _ => rfl)) set_list)))
      pss_nil)
      (pss_one (ps_dput hu (pv 0) pe_str (pe_op op_add (pe_dget hu (pv 0) pe_str (fun _ _ => rfl)) pe_int) rfl)))))), ?_⟩
    cases r with
    | say b =>
      have hp' : TpAt K H p [.str "say", .int b] := hp
      obtain ⟨t1, h1, a1, w1, x1⟩ := bx_lt k hok
      rcases hmd with ⟨rfl, rfl, hh, hg, hs, q⟩ | ⟨hg, hpm, em, ez, hs, q⟩
      · rw [show ({ m with place := m.place + 1 } : Mc).act A (.say b) = { m with said := m.said ++ [t1.worth], place := m.place + 1 } from by
          show (if ({ m with place := m.place + 1 } : Mc).byGround A "say" = true then _ else ({ m with said := m.said ++ [m.bw b], place := m.place + 1 } : Mc)) = _
          rw [show ({ m with place := m.place + 1 } : Mc).byGround A "say" = false from hg, w1]
          rfl] at q
        have ks := k.s
        walk_at "b"
        walk_at "u"
        refine s_bm ?_
        walk_at "u"
        refine s_bmL (SqL.of ks) ?_
        walk_at "u"
        refine lm_say k (by walk_at "sm") hs fun H1 f1 k1 => ?_
        have kd1 := k1.d
        walk_at "u"
        refine lm_place k1 (by walk_at "sm") np1 fun H2 f2 k2 => ?_
        walk_at "u"
        exact q _ L (f1.trans f2) rfl (fun a ha => .inl ha) k2
      · rw [show ({ m with place := m.place + 1 } : Mc).act A (.say b) = { m with gsaid := m.gsaid ++ [t1.worth], place := m.place + 1 } from by
          show (if ({ m with place := m.place + 1 } : Mc).byGround A "say" = true then ({ m with gsaid := m.gsaid ++ [m.bw b], place := m.place + 1 } : Mc) else _) = _
          rw [show ({ m with place := m.place + 1 } : Mc).byGround A "say" = true from hg, w1]
          rfl] at q
        walk_at "b"
        walk_at "u"
        refine s_bm ?_
        walk_at "u"
        refine s_bmL (SqL.of em) ?_
        walk_at "u"
        refine s_append em (by rw [List.length_map]; omega) ?_
        rw [show m.gsaid.map V.int ++ [V.int t1.worth] = (m.gsaid ++ [t1.worth]).map V.int from by rw [List.map_append]; rfl]
        have f1 : FrS (pmo :: L.own) H (upd H pmo (.lst ((m.gsaid ++ [t1.worth]).map V.int))) := FrS.refl.upd (.head _)
        have k1 : (LmAt K) (upd H pmo (.lst ((m.gsaid ++ [t1.worth]).map V.int))) L m := k.fr (S := [pmo]) (FrS.refl.upd (.head _)) (fun a ha z => hpm (by rw [← List.mem_singleton.mp z]; exact ha)) ((Tu.refl H).lst em)
        have e1 : upd H pmo (.lst ((m.gsaid ++ [t1.worth]).map V.int)) pmo = some (.lst ((m.gsaid ++ [t1.worth]).map V.int)) := upd_same
        generalize upd H pmo (.lst ((m.gsaid ++ [t1.worth]).map V.int)) = H1 at f1 k1 e1 ⊢
        have kd1 := k1.d
        walk_at "u"
        refine lm_place k1 (by walk_at "sm") np1 fun H2 f2 k2 => ?_
        walk_at "u"
        exact q _ L (f1.trans (f2.sub fun a ha => .tail _ ha)) rfl (fun a ha => .inl ha) (k2.gs _) (f2 _ _ hpm e1)
    | hear b =>
      have hp' : TpAt K H p [.str "hear", .int b] := hp
      rcases hmd with ⟨rfl, rfl, hh, hg, hs, q⟩ | ⟨hg, hpm, em, ez, hs, q⟩
      · rw [show ({ m with place := m.place + 1 } : Mc).act A (.hear b) = ({ m with place := m.place + 1 } : Mc).hears b from by
          show (if ({ m with place := m.place + 1 } : Mc).byGround A "hear" = true then _ else _) = _
          rw [show ({ m with place := m.place + 1 } : Mc).byGround A "hear" = false from hg, if_neg Bool.false_ne_true]] at q
        have ke := k.e
        walk_at "b"
        walk_at "u"
        cases he : m.ear with
        | nil =>
          rw [show ({ m with place := m.place + 1 } : Mc).hears b = { m.setBox b (.num 0) with place := m.place + 1 } from by
            unfold Mc.hears
            split
            · rfl
            · rename_i h
              rw [show m.ear = _ from h] at he
              cases he] at q
          rw [he, List.map_nil] at ke
          refine s_neNil0 (by walk_at "hp") upd_same ?_
          walk_at "u"
          refine lm_box k (by walk_at "sm") hok (t := .num 0) ⟨by decide, by decide⟩ rfl fun H1 f1 k1 => ?_
          have kd1 := k1.d
          walk_at "u"
          refine lm_place k1 (by walk_at "sm") np1 fun H2 f2 k2 => ?_
          walk_at "u"
          exact q _ L (f1.trans f2) rfl (fun a ha => .inl ha) k2
        | cons n r =>
          rw [show ({ m with place := m.place + 1 } : Mc).hears b = { ({ m with ear := r } : Mc).setBox b (.num n) with place := m.place + 1 } from by
            unfold Mc.hears
            split
            · rename_i h
              rw [show m.ear = _ from h] at he
              cases he
            · rename_i h
              rw [show m.ear = _ from h] at he
              cases he
              rfl] at q
          rw [he] at ke
          refine s_neNilC (by walk_at "hp") upd_same ?_
          walk_at "u"
          refine s_bm ?_
          walk_at "u"
          refine s_bmL (SqL.of (by walk_at "hp")) ?_
          walk_at "u"
          refine lm_pop k (by walk_at "sm") he fun H0 f0 k0 => ?_
          have kd0 := k0.d
          have hp0 := hp'.tu (tu_lm k f0)
          walk_at "u"
          refine lm_box k0 (by walk_at "sm") hok (t := .num n) (k.ok.ear n (by rw [he]; exact .head _)) rfl fun H1 f1 k1 => ?_
          have kd1 := k1.d
          walk_at "u"
          refine lm_place k1 (by walk_at "sm") np1 fun H2 f2 k2 => ?_
          walk_at "u"
          exact q _ L ((f0.trans f1).trans f2) rfl (fun a ha => .inl ha) k2
      · have q : (LmTo K) H L { m.setBox b (.num 0) with place := m.place + 1 } (Q .non) := by
          rw [show ({ m with place := m.place + 1 } : Mc).act A (.hear b) = { m.setBox b (.num 0) with place := m.place + 1 } from by
            show (if ({ m with place := m.place + 1 } : Mc).byGround A "hear" = true then _ else _) = _
            rw [show ({ m with place := m.place + 1 } : Mc).byGround A "hear" = true from hg, if_pos rfl]
            rfl] at q
          exact LmTo.g q em hpm
        walk_at "b"
        walk_at "u"
        refine s_neNil0 (by walk_at "hp") upd_same ?_
        walk_at "u"
        refine lm_box k (by walk_at "sm") hok (t := .num 0) ⟨by decide, by decide⟩ rfl fun H1 f1 k1 => ?_
        have kd1 := k1.d
        walk_at "u"
        refine lm_place k1 (by walk_at "sm") np1 fun H2 f2 k2 => ?_
        walk_at "u"
        exact q _ L (f1.trans f2) rfl (fun a ha => .inl ha) k2
    | which b =>
      have hp' : TpAt K H p [.str "which", .int b] := hp
      have q : (LmTo K) H L { m.setBox b (.num 0) with place := m.place + 1 } (Q .non) := by
        rcases hmd with ⟨_, _, hh, hg, _, q⟩ | ⟨hg, hpm, em, ez, hs, q⟩
        · rw [show ({ m with place := m.place + 1 } : Mc).act A (.which b) = { m.setBox b (.num 0) with place := m.place + 1 } from by
            show (if ({ m with place := m.place + 1 } : Mc).byGround A "which" = true then _ else if m.high = true then _ else _) = _
            rw [show ({ m with place := m.place + 1 } : Mc).byGround A "which" = false from hg, if_neg Bool.false_ne_true, if_neg (by rw [hh]; exact Bool.false_ne_true)]
            rfl] at q
          exact q
        · rw [show ({ m with place := m.place + 1 } : Mc).act A (.which b) = { m.setBox b (.num 0) with place := m.place + 1 } from by
            show (if ({ m with place := m.place + 1 } : Mc).byGround A "which" = true then _ else _) = _
            rw [show ({ m with place := m.place + 1 } : Mc).byGround A "which" = true from hg, if_pos rfl]
            rfl] at q
          exact LmTo.g q em hpm
      walk_at "b"
      walk_at "u"
      refine lm_box k (by walk_at "sm") hok (t := .num 0) ⟨by decide, by decide⟩ rfl fun H1 f1 k1 => ?_
      have kd1 := k1.d
      walk_at "u"
      refine lm_place k1 (by walk_at "sm") np1 fun H2 f2 k2 => ?_
      walk_at "u"
      exact q _ L (f1.trans f2) rfl (fun a ha => .inl ha) k2
    | room b =>
      have hp' : TpAt K H p [.str "room", .int b] := hp
      have q : (LmTo K) H L { m.setBox b (.num m.w1) with place := m.place + 1 } (Q .non) := by
        rcases hmd with ⟨_, _, hh, hg, _, q⟩ | ⟨hg, hpm, em, ez, hs, q⟩
        · exact q
        · exact LmTo.g q em hpm
      walk_at "b"
      walk_at "u"
      refine lm_box k (by walk_at "sm") hok (t := .num m.w1) ⟨k.ok.w1, by omega⟩ rfl fun H1 f1 k1 => ?_
      have kd1 := k1.d
      walk_at "u"
      refine lm_place k1 (by walk_at "sm") np1 fun H2 f2 k2 => ?_
      walk_at "u"
      exact q _ L (f1.trans f2) rfl (fun a ha => .inl ha) k2
    | enter b =>
      have hp' : TpAt K H p [.str "enter", .int b] := hp
      have q : (LmTo K) H L { m with place := m.place + 1 } (Q .non) := by
        rcases hmd with ⟨_, _, hh, hg, _, q⟩ | ⟨hg, hpm, em, ez, hs, q⟩
        · rw [show ({ m with place := m.place + 1 } : Mc).act A (.enter b) = { m with place := m.place + 1 } from by
            show (if ({ m with place := m.place + 1 } : Mc).byGround A "enter" = true then _ else if m.high = true then _ else _) = _
            rw [show ({ m with place := m.place + 1 } : Mc).byGround A "enter" = false from hg, if_neg Bool.false_ne_true, if_neg (by rw [hh]; exact Bool.false_ne_true)]] at q
          exact q
        · rw [show ({ m with place := m.place + 1 } : Mc).act A (.enter b) = { m with place := m.place + 1 } from by
            show (if ({ m with place := m.place + 1 } : Mc).byGround A "enter" = true then _ else _) = _
            rw [show ({ m with place := m.place + 1 } : Mc).byGround A "enter" = true from hg, if_pos rfl]] at q
          exact LmTo.g q em hpm
      walk_at "b"
      walk_at "u"
      refine lm_place k (by walk_at "sm") np1 fun H2 f2 k2 => ?_
      walk_at "u"
      exact q _ L f2 rfl (fun a ha => .inl ha) k2
    | alarm b =>
      have hp' : TpAt K H p [.str "alarm", .int b] := hp
      have q : (LmTo K) H L { m with place := m.place + 1 } (Q .non) := by
        rcases hmd with ⟨_, _, hh, hg, _, q⟩ | ⟨hg, hpm, em, ez, hs, q⟩
        · rw [show ({ m with place := m.place + 1 } : Mc).act A (.alarm b) = { m with place := m.place + 1 } from by
            show (if ({ m with place := m.place + 1 } : Mc).byGround A "alarm" = true then _ else if m.high = true then _ else _) = _
            rw [show ({ m with place := m.place + 1 } : Mc).byGround A "alarm" = false from hg, if_neg Bool.false_ne_true, if_neg (by rw [hh]; exact Bool.false_ne_true)]] at q
          exact q
        · rw [show ({ m with place := m.place + 1 } : Mc).act A (.alarm b) = { m with place := m.place + 1 } from by
            show (if ({ m with place := m.place + 1 } : Mc).byGround A "alarm" = true then _ else _) = _
            rw [show ({ m with place := m.place + 1 } : Mc).byGround A "alarm" = true from hg, if_pos rfl]] at q
          exact LmTo.g q em hpm
      walk_at "b"
      walk_at "u"
      refine lm_place k (by walk_at "sm") np1 fun H2 f2 k2 => ?_
      walk_at "u"
      exact q _ L f2 rfl (fun a ha => .inl ha) k2
    | stop =>
      have hp' : TpAt K H p [.str "stop"] := hp
      have q : (LmTo K) H L { m with place := m.place + 1 } (Q .non) := by
        rcases hmd with ⟨_, _, hh, hg, _, q⟩ | ⟨hg, hpm, em, ez, hs, q⟩
        · rw [show ({ m with place := m.place + 1 } : Mc).act A .stop = { m with place := m.place + 1 } from by
            show (if ({ m with place := m.place + 1 } : Mc).byGround A "stop" = true then _ else if m.high = true then _ else _) = _
            rw [show ({ m with place := m.place + 1 } : Mc).byGround A "stop" = false from hg, if_neg Bool.false_ne_true, if_neg (by rw [hh]; exact Bool.false_ne_true)]] at q
          exact q
        · rw [show ({ m with place := m.place + 1 } : Mc).act A .stop = { m with place := m.place + 1 } from by
            show (if ({ m with place := m.place + 1 } : Mc).byGround A "stop" = true then _ else _) = _
            rw [show ({ m with place := m.place + 1 } : Mc).byGround A "stop" = true from hg, if_pos rfl]] at q
          exact LmTo.g q em hpm
      walk_at "b"
      walk_at "u"
      refine lm_place k (by walk_at "sm") np1 fun H2 f2 k2 => ?_
      walk_at "u"
      exact q _ L f2 rfl (fun a ha => .inl ha) k2
    | put b n => cases hpl
    | add b c d => cases hpl
    | less b c d => cases hpl
    | load b c => cases hpl
    | store b c => cases hpl
    | zero b n => cases hpl
    | go n => cases hpl
    | call n => cases hpl
end
end G
end
section
namespace G
open PySem L2 C8
variable {K : PySem.W.Frag}
def WayIs (A : Adr) (v : V) : Prop := (v = .non ∧ A.grd = none) ∨ (v = .str "plain" ∧ A.grd.isSome = true ∧ A.thr = false) ∨ (v = .str "through" ∧ A.grd.isSome = true ∧ A.thr = true)
/-- in high the window is all -/
def Mc.Hi (m : Mc) : Prop := m.high = true → m.w1 = m.cells.length
def spLStep (K : PySem.W.Frag) : Sp := fun vs H Q _ => ∃ (L : Lm) (m : Mc) (A : Adr) (pk pm : Addr) (wv : V), vs = [.ref L.d, .ref pk, wv, .ref pm] ∧ (LmAt K) H L m ∧ KindAt H pk A.bs ∧ WayIs A wv ∧ m.Hi ∧ m.why = "" ∧ pm ∉ L.own ∧ H pm = some (.lst (m.gsaid.map V.int)) ∧ m.said.length < 90000 ∧ m.gsaid.length < 90000 ∧ (LmToG K) H pm L (m.step A) (Q .non)
def spLGoes (K : PySem.W.Frag) : Sp := fun vs H Q _ => ∃ (L : Lm) (m : Mc) (A : Adr) (pk pm : Addr) (wv : V) (n : Int), vs = [.ref L.d, .ref pk, wv, .ref pm, .int n] ∧ (LmAt K) H L m ∧ KindAt H pk A.bs ∧ WayIs A wv ∧ m.Hi ∧ pm ∉ L.own ∧ H pm = some (.lst (m.gsaid.map V.int)) ∧ 0 ≤ n ∧ n ≤ 1000 ∧ m.said.length + n.toNat ≤ 90000 ∧ m.gsaid.length + n.toNat ≤ 90000 ∧ (LmToG K) H pm L (m.goes A n.toNat).1 (fun H' => (m.goes A n.toNat).1.Hi → Q (.int ((m.goes A n.toNat).2 : Nat)) H')
theorem LmToG.after {H0 H : Hp} {pm : Addr} {L L1 : Lm} {m : Mc} {R : Hp → Prop} (q : (LmToG K) H0 pm L m R) (f : FrS (pm :: L.own) H0 H) (d : L1.d = L.d) (g : ∀ a ∈ L1.own, a ∈ L.own ∨ H0 a = none) {o : HO} (hp : H pm = some o) : (LmToG K) H pm L1 m R := fun H' L' f' d' g' k e => by
  refine q H' L' (fun b u n h => ?_) (d'.trans d) (fun a ha => ?_) k e
  · refine f' b u (fun m => ?_) (f b u n h)
    rcases List.mem_cons.mp m with rfl | m
    · exact n (.head _)
    · rcases g b m with z | z
      · exact n (.tail _ z)
      · rw [h] at z; cases z
  · rcases g' a ha with z | z
    · exact g a z
    · by_cases ho : a ∈ L.own
      · exact .inl ho
      · refine .inr (none_fr f (fun m => ?_) z)
        rcases List.mem_cons.mp m with rfl | m
        · rw [hp] at z; cases z
        · exact ho m
theorem FrS.mid {S S' : List Addr} {H0 H H' : Hp} (x : FrS S H0 H) (f : FrS S' H H') (h : ∀ b ∈ S', b ∈ S ∨ H0 b = none) : FrS S H0 H' := fun b u n e => f b u (fun m => by
  rcases h b m with z | z
  · exact n z
  · rw [e] at z; cases z) (x b u n e)
theorem not_own {H0 : Hp} {pm : Addr} {L L1 : Lm} {o : HO} (g : ∀ a ∈ L1.own, a ∈ L.own ∨ H0 a = none) (n : pm ∉ L.own) (e : H0 pm = some o) : pm ∉ L1.own := fun m => by
  rcases g pm m with z | z
  · exact n z
  · rw [e] at z; cases z
section
variable {A : Adr} {m : Mc}
theorem step_beyond (h : m.w1 ≤ m.place) : m.step1 A = m.caughtL 2 0 := by
  unfold Mc.step1
  rw [show m.caught A.bs = 2 from by unfold Mc.caught; rw [if_pos h], if_neg (by decide)]
  unfold Mc.catch_ Mc.caughtL
  rw [if_neg (show ¬ ((2 : Int) = 5) by decide)]
theorem step_num {n : Int} (h : m.place < m.w1) (e : m.at_ m.place = some (.num n)) : m.step1 A = m.caughtL 3 0 := by
  unfold Mc.step1
  rw [show m.caught A.bs = 3 from by unfold Mc.caught; rw [if_neg (by omega), e], if_neg (by decide)]
  unfold Mc.catch_ Mc.caughtL
  rw [if_neg (show ¬ ((3 : Int) = 5) by decide)]
theorem step_row {p : Addr} {r : Row} (h : m.place < m.w1) (e : m.at_ m.place = some (.row p r)) : m.step1 A = if m.reaches r then m.caughtL 2 0 else if m.high = true ∨ lowN A.bs r.word = 0 then m.doRow A r else m.catch_ (lowN A.bs r.word) := by
  unfold Mc.step1
  rw [show m.caught A.bs = if m.reaches r then 2 else if m.high then 0 else lowN A.bs r.word from by unfold Mc.caught; rw [if_neg (by omega), e]]
  rw [e]
  cases hr : m.reaches r with
  | true =>
    rw [if_pos rfl, if_neg (by decide), if_pos rfl]
    unfold Mc.catch_ Mc.caughtL
    rw [if_neg (show ¬ ((2 : Int) = 5) by decide)]
  | false =>
    rw [if_neg Bool.false_ne_true, if_neg Bool.false_ne_true]
    cases hh : m.high with
    | true => rw [if_pos rfl, if_pos rfl, if_pos (.inl rfl)]
    | false =>
      rw [if_neg Bool.false_ne_true]
      by_cases hl : lowN A.bs r.word = 0
      · rw [if_pos hl, if_pos (.inr hl)]
      · rw [if_neg hl, if_neg (fun z => z.elim (fun z => nomatch z) hl)]
/-- what a row of its own is in low -/
theorem ownV_owns {bs : List Bool} {r : Row} (h : r.owns = true) (hl : bs.length = 7) : ∃ c, ownV bs r.word = .bl c ∧ lowN bs r.word = if c then 1 else 0 := by
  have e5 : ¬ r.word = "call" := by cases r <;> first | (cases h; done) | (dsimp only [Row.word]; decide +kernel)
  obtain ⟨j, e1, _⟩ | ⟨e1, e4⟩ := find_own r.word
  · refine ⟨bs.getD j false, ?_, ?_⟩
    · unfold ownV; rw [e1]
    · unfold lowN; rw [if_neg e5, e1]
  · exfalso
    have : ownW.contains r.word = true := by cases r <;> first | (cases h; done) | (dsimp only [Row.word]; decide +kernel)
    rw [e4] at this
    cases this
theorem ownV_plain {bs : List Bool} {r : Row} (h : r.plain = true) : ownV bs r.word = .non ∧ lowN bs r.word = 0 := by
  have e5 : ¬ r.word = "call" := by cases r <;> first | (cases h; done) | (dsimp only [Row.word]; decide +kernel)
  have hc : ownW.contains r.word = false := by cases r <;> first | (cases h; done) | (dsimp only [Row.word]; decide +kernel)
  obtain ⟨j, e1, _, _, e4, _⟩ | ⟨e1, e4⟩ := find_own r.word
  · rw [e4] at hc; cases hc
  · refine ⟨?_, ?_⟩
    · unfold ownV; rw [e1]
    · unfold lowN; rw [if_neg e5, e1]
theorem row_kind (r : Row) : r.plain = true ∨ r.owns = true ∨ ∃ c, r = .call c := by cases r <;> first | exact .inl rfl | exact .inr (.inl rfl) | exact .inr (.inr ⟨_, rfl⟩)
theorem reach_own {r : Row} (h : r.owns = true) : m.reaches r = false := by cases r <;> first | rfl | cases h
theorem plain_high {r : Row} (h : r.plain = true) : (m.act A r).high = m.high ∧ (m.act A r).gsaid = m.gsaid := by
  cases r <;> first
    | (cases h; done)
    | exact ⟨rfl, rfl⟩
    | (dsimp only [Mc.act]; split <;> exact ⟨rfl, rfl⟩)
theorem caughtL_gs {n c : Int} : (m.caughtL n c).gsaid = m.gsaid := by
  unfold Mc.caughtL
  split
  · rfl
  · rfl
end
end G
end
section
namespace G
open PySem L2 C8
variable {K : PySem.W.Frag}
section
variable {H : Hp} {Q : VK} {E : XK} {L : Lm} {m : Mc} {A : Adr} {p pk pm pz : Addr} {r : Row} {bs : List Bool} {z : Str} {n : Int} {wv : V}
theorem u_lplain (k : (LmAt K) H L m) (h : (Thing.row p r).At K H) (hp : r.plain = true) (hl : m.place < m.w1) (q1 : m.reaches r = true → (LmTo K) H L (m.caughtL 2 0) (Q (.bl false))) (q2 : m.reaches r = false → (LmTo K) H L (({ m with place := m.place + 1 } : Mc).act A r) (Q (.bl true))) : (spLPlain K) ([.ref L.d, .ref p] ++ []) H Q E := ⟨L, m, A, p, r, rfl, k, h, hp, hl, q1, q2⟩
theorem u_lhigh (k : (LmAt K) H L m) (h : (Thing.row p r).At K H) (hp : r.owns = true) (hl : m.place < m.w1) (hh : m.high = true) (hy : m.why = "") (hw : m.w1 = m.cells.length) (hg : m.byGround A r.word = false) (hs : m.said.length < 90000) (q : (LmTo K) H L (({ m with place := m.place + 1 } : Mc).act A r) (Q .non)) : (spLHigh K) ([.ref L.d, .ref p] ++ []) H Q E := ⟨L, m, A, p, r, rfl, k, h, hp, hl, hh, hy, hw, hg, hs, q⟩
theorem u_lowA (k : (LmAt K) H L m) (h : (Thing.row p r).At K H) (hp : r.owns = true) (hl : m.place < m.w1) (hh : m.high = false) (hg : m.byGround A r.word = false) (hs : m.said.length < 90000) (q : (LmTo K) H L (({ m with place := m.place + 1 } : Mc).act A r) (Q .non)) : (spLLow K) ([.ref L.d, .ref p, .ref L.ps, .ref L.pe] ++ []) H Q E := ⟨L, m, A, p, r, k, h, hp, hl, .inl ⟨rfl, hh, hg, hs, q⟩⟩
theorem u_lowG (k : (LmAt K) H L m) (h : (Thing.row p r).At K H) (hp : r.owns = true) (hl : m.place < m.w1) (hg : m.byGround A r.word = true) (hm : pm ∉ L.own) (em : H pm = some (.lst (m.gsaid.map V.int))) (ez : H pz = some (.lst [])) (hs : m.gsaid.length < 90000) (q : (LmToG K) H pm L (({ m with place := m.place + 1 } : Mc).act A r) (Q .non)) : (spLLow K) ([.ref L.d, .ref p, .ref pm, .ref pz] ++ []) H Q E := ⟨L, m, A, p, r, k, h, hp, hl, .inr ⟨pm, pz, rfl, hg, hm, em, ez, hs, q⟩⟩
theorem u_lcounts (k : (LmAt K) H L m) (q : (LmTo K) H L (if m.high then m else m.lessens) (Q .non)) : (spLCounts K) ([.ref L.d] ++ []) H Q E := ⟨L, m, rfl, k, q⟩
theorem u_lown (h : KindAt H pk bs) (q : ∀ H', Same H H' → Q (ownV bs z) H') : spLOwn ([.ref pk, .str z] ++ []) H Q E := ⟨pk, bs, z, rfl, h, q⟩
theorem doRow_gs : (m.doRow A r).gsaid = (({ m with place := m.place + 1 } : Mc).act A r).gsaid := by
  unfold Mc.doRow
  split
  · rfl
  · exact lessens_said.2
theorem at_sm {H' : Hp} {t : Thing} (h : t.At K H) (s : Same H H') : t.At K H' := h.tu fun p xs e => s p _ e
theorem act_gsF (h : m.byGround A r.word = false) : (m.act A r).gsaid = m.gsaid := by
  cases r <;> dsimp only [Row.word] at h <;> simp only [Mc.act, h, Bool.false_eq_true, if_false] <;> (try split) <;> first
    | rfl
    | (unfold Mc.hears; split <;> rfl)
    | (unfold Mc.enters; split <;> rfl)
theorem act_highG (h : m.byGround A r.word = true) (ho : r.owns = true) : (m.act A r).high = m.high := by
  cases r <;> first
    | (cases ho; done)
    | rfl
    | (dsimp only [Row.word] at h; simp only [Mc.act, h, if_true]; done)
    | (dsimp only [Row.word] at h; simp only [Mc.act, h, if_true]; rfl)
end
end G
local macro_rules
  | `(tactic| walk_at "fs") => `(tactic| first
    | walk_at "as"
    | with_reducible apply G.FrS.refl
    | ((with_reducible apply G.fs_own); (focus walk_at "as"); (focus walk_at "fs"))
    | ((with_reducible apply G.fs_new); (focus walk_at "as"); (focus walk_at "fs"))
    | ((with_reducible apply G.fs_upd); (focus first | exact G.Lm.i0 | exact G.Lm.i1 | exact G.Lm.i2 | exact G.Lm.i3 | exact G.Lm.i4 | walk_at "as"); (focus walk_at "fs"))
    | ((with_reducible apply G.fs_tr); (focus walk_at "as"); (focus walk_at "fs")))
local macro_rules
  | `(tactic| walk_at "u1") => `(tactic| first
    | walk_at "s1"
    | with_reducible refine Y.s_dput ?_
    | with_reducible refine G.s_par2 ?_
    | with_reducible refine G.s_two ?_
    | with_reducible refine Y.s_sl ?_
    | with_reducible refine Y.s_part ?_
    | with_reducible refine Y.s_partI ?_
    | with_reducible refine Y.s_noPart ?_
    | with_reducible refine Y.s_new rfl fun _ _ => ?_
    | ((with_reducible refine' Y.s_ixL (xs := ?xs) (w := ?w) ?h ?e ?q); (case' h => walk_at "sq"); (case' e => walk_at "as"))
    | ((with_reducible refine' Y.s_ixL' (xs := ?xs) (w := ?w) ?h ?e ?q); (case' h => walk_at "sq"); (case' e => walk_at "as"))
    | ((with_reducible refine' Y.s_ixT (xs := ?xs) (w := ?w) ?h ?e ?q); (case' h => walk_at "sq"); (case' e => walk_at "as"))
    | ((with_reducible refine' Y.s_ixT' (xs := ?xs) (w := ?w) ?h ?e ?q); (case' h => walk_at "sq"); (case' e => walk_at "as"))
    | ((with_reducible refine' G.u_lworth (t := ?t) rfl ?a ?q); (case' a => first | walk_at "as" | ((with_reducible apply G.at_tu); (focus walk_at "as"); (focus walk_at "tu")))))
local macro_rules
  | `(tactic| walk_at "u") => `(tactic| repeat walk_at "u1")

namespace G
open PySem L2 C8
variable {K : PySem.W.Frag}
section
variable {P : Program} {w : World} {K : PySem.W.Frag} {mg : Str → Option Value} {base : Heap}
abbrev s__law_step : Stmt := top 133
theorem sc__law_step : FnScope ["_law_m", "_law_kind_here", "_law_way", "_law_mouth", "_law_thing"] ["_law_m", "_law_kind_here", "_law_way", "_law_mouth"] (fnScope s__law_step) := fnScope_by (by decide +kernel)
theorem ok__law_step {f : Addr} {fd : FuncData} (F : Def K mg "_law_step" s__law_step f fd) (b : Binds K fd ["_law_m", "_law_kind_here", "_law_way", "_law_mouth"] []) (T : Txt K mg) (c__law_caught : Cal P w K mg base 2 "_law_caught" (spLCaught K) []) (c__law_plain : Cal P w K mg base 3 "_law_plain" (spLPlain K) []) (c__law_high : Cal P w K mg base 2 "_law_high" (spLHigh K) []) (c__law_low : Cal P w K mg base 2 "_law_low" (spLLow K) []) (c__law_counts : Cal P w K mg base 3 "_law_counts" (spLCounts K) []) (c__law_own : Cal P w K mg base 1 "_law_own" spLOwn []) : Cal P w K mg base 4 "_law_step" (spLStep K) [] := by
  refine cal0 F b .nil sc__law_step (fun vs H Q E h => ?_) (fun cdv A outer s H vs Q E hr h => ?_)
  · obtain ⟨L, m, A, pk, pm, wv, rfl, _⟩ := h
    rfl
  · obtain ⟨L, m0, A, pk, pm, wv, rfl, k0, kk0, way, hi, hy, npm, em0, hs, hgs, q⟩ := h
    have nd := sc__law_step.nd
    have hu := hu_of hr
    have kd := k0.d
    refine ⟨_, (pss_cons (ps_dput hu (pv 0) pe_str (pe_op op_add (pe_dget hu (pv 0) pe_str (fun _ _ => rfl)) pe_int) rfl)
      (pss_cons (ps_set (i := 4) nd rfl (by first | exact Or.inl rfl | exact Or.inr rfl) (pe_ifExp (pt_cmpR op_lt (pe_dget hu (pv 0) pe_str (fun _ _ => rfl)) (pe_ix ix_tup (pe_dget hu (pv 0) pe_str (fun _ _ => rfl)) pe_int (fun _ _ => rfl)) (nomark _)) (pe_ix ix_list (pe_dget hu (pv 0) pe_str (fun _ _ => rfl)) (pe_op op_add (pe_ix ix_tup (pe_dget hu (pv 0) pe_str (fun _ _ => rfl)) pe_int (fun _ _ => rfl)) (pe_dget hu (pv 0) pe_str (fun _ _ => rfl))) (fun _ _ => rfl)) pe_non))
      (pss_one (ps_if (pt_not (pt_val (pe_callB call_isi (by rfl) T.n_isinstance (by decide +kernel) (pa_cons (pv 4) (pa_cons (Y.pe_bty (T := "tuple") (by rfl) T.n_tuple (by decide +kernel)) pa_nil)))))
      (pss_one (ps_expr (pe_c c__law_caught hr (by first | decide | omega) (by rfl) (pa_cons (pv 0) (pa_cons (pe_ifExp (pt_cmpR op_isN1 (pv 4) pe_non (nomark _)) pe_int pe_int) (pa_cons pe_int pa_nil))))))
      (pss_one (ps_if (pt_cmpR op_eq (pe_ix ix_tup (pv 4) pe_int (fun _ _ => rfl)) pe_str (nomark _))
      (pss_cons (ps_dput hu (pv 0) pe_str (pe_op op_add (pe_dget hu (pv 0) pe_str (fun _ _ => rfl)) pe_int) rfl)
      (pss_one (ps_if (pt_not (pt_val (pe_dget hu (pv 0) pe_str (fun _ _ => rfl))))
      (pss_one (ps_expr (pe_c c__law_caught hr (by first | decide | omega) (by rfl) (pa_cons (pv 0) (pa_cons pe_int (pa_cons (pe_ix ix_tup (pv 4) pe_int (fun _ _ => rfl)) pa_nil))))))
      pss_nil)))
      (pss_one (ps_if (pt_cmpR op_isN1 (pe_c c__law_own hr (by first | decide | omega) (by rfl) (pa_cons (pv 1) (pa_cons (pe_ix ix_tup (pv 4) pe_int (fun _ _ => rfl)) pa_nil))) pe_non (nomark _))
      (pss_one (ps_if (pt_val (pe_c c__law_plain hr (by first | decide | omega) (by rfl) (pa_cons (pv 0) (pa_cons (pv 4) pa_nil))))
      (pss_one (ps_expr (pe_c c__law_counts hr (by first | decide | omega) (by rfl) (pa_cons (pv 0) pa_nil))))
      pss_nil))
      (pss_one (ps_if (PW.pt (pw_and (pt_cmpR op_notN1 (pv 2) pe_non (nomark _)) (pw_and (pt_not (pt_val (pe_c c__law_own hr (by first | decide | omega) (by rfl) (pa_cons (pv 1) (pa_cons (pe_ix ix_tup (pv 4) pe_int (fun _ _ => rfl)) pa_nil))))) (pw_and1 (PW.pt (pw_or (pt_cmpR op_eq (pv 2) pe_str (nomark _)) (pw_or1 (pt_not (pt_val (pe_dget hu (pv 0) pe_str (fun _ _ => rfl)))))))))))
      (pss_cons (ps_expr (pe_c c__law_low hr (by first | decide | omega) (by rfl) (pa_cons (pv 0) (pa_cons (pv 4) (pa_cons (pv 3) (pa_cons (pe_lst pa_nil) pa_nil))))))
      (pss_one (ps_expr (pe_c c__law_counts hr (by first | decide | omega) (by rfl) (pa_cons (pv 0) pa_nil)))))
      (pss_one (ps_if (pt_val (pe_dget hu (pv 0) pe_str (fun _ _ => rfl)))
      (pss_one (ps_expr (pe_c c__law_high hr (by first | decide | omega) (by rfl) (pa_cons (pv 0) (pa_cons (pv 4) pa_nil)))))
      (pss_one (ps_if (pt_val (pe_c c__law_own hr (by first | decide | omega) (by rfl) (pa_cons (pv 1) (pa_cons (pe_ix ix_tup (pv 4) pe_int (fun _ _ => rfl)) pa_nil))))
      (pss_one (ps_expr (pe_c c__law_caught hr (by first | decide | omega) (by rfl) (pa_cons (pv 0) (pa_cons pe_int (pa_cons pe_int pa_nil))))))
      (pss_cons (ps_expr (pe_c c__law_low hr (by first | decide | omega) (by rfl) (pa_cons (pv 0) (pa_cons (pv 4) (pa_cons (pe_dget hu (pv 0) pe_str (fun _ _ => rfl)) (pa_cons (pe_dget hu (pv 0) pe_str (fun _ _ => rfl)) pa_nil))))))
      (pss_one (ps_expr (pe_c c__law_counts hr (by first | decide | omega) (by rfl) (pa_cons (pv 0) pa_nil))))))))))))))))))), ?_⟩
    walk_at "b"
    walk_at "u"
    refine lm_many k0 (by walk_at "sm") fun H1 f1 k1 => ?_
    have kk1 : KindAt H1 pk A.bs := ⟨tu_lm k0 f1 _ _ kk0.1, kk0.2⟩
    have em1 : H1 pm = some (.lst (m0.gsaid.map V.int)) := f1 _ _ npm em0
    obtain ⟨m, em⟩ : ∃ m : Mc, m = { m0 with steps := m0.steps + 1 } := ⟨_, rfl⟩
    have q1 : (LmToG K) H1 pm L (m.step1 A) (Q .non) := by
      rw [em]
      exact LmToG.after q (f1.sub fun a ha => .tail _ ha) rfl (fun a ha => .inl ha) em1
    rw [← em] at k1
    have hi1 : m.Hi := by rw [em]; exact hi
    have hy1 : m.why = "" := by rw [em]; exact hy
    have hs1 : m.said.length < 90000 := by rw [em]; exact hs
    have hg1 : m.gsaid.length < 90000 := by rw [em]; exact hgs
    have em2 : H1 pm = some (.lst (m.gsaid.map V.int)) := by rw [em]; exact em1
    clear q em hi hy hs hgs em0 em1 kk0 f1 k0 kd
    have kd := k1.d
    have kc := k1.c
    have kx := k1.x
    have kw := k1.w
    have ks := k1.s
    have ke := k1.e
    have pl := k1.ok.pl
    have w0 := k1.ok.w0
    have win := k1.ok.win
    have n40 := k1.ok.n40
    have np1 : m.place < m.w1 → Nm (m.place + 1) := fun h => ⟨by have := pl.1; omega, by omega⟩
    have toL : ∀ {m' : Mc}, m.step1 A = m' → m'.gsaid = m.gsaid → (LmTo K) H1 L m' (Q .non) := fun e eg => by
      rw [e] at q1
      exact LmTo.g q1 (by rw [eg]; exact em2) npm
    walk_at "u"
    refine Y.s_d2 (fun hlt => ?_) (fun hlt => ?_)
    · obtain ⟨t, et, ht, xt⟩ := cell_lt k1 pl.1 hlt
      walk_at "u"
      cases t with
      | num n =>
        have q2 := toL (step_num hlt et) caughtL_gs
        dsimp only [Thing.v]
        walk_at "u"
        refine u_lcaught k1 ⟨by decide, by decide⟩ ⟨by decide, by decide⟩ (fun _ => .inr rfl) fun H2 L2 f2 d2 g2 k2 => ?_
        walk_at "u"
        exact q2 H2 L2 f2 d2 g2 k2
      | row p r =>
        dsimp only [Thing.v]
        have hp := ht.1
        rw [r.vs_eq] at hp
        have x0 : atI (V.str r.word :: r.nums.map V.int) 0 = some (.str r.word) := at_of (j := 0) rfl rfl
        have er := step_row (A := A) hlt et
        rcases row_kind r with hpl | how | ⟨c, rfl⟩
        · have hne : ¬ r.word = "call" := by
            intro z
            cases r <;> first | (cases hpl; done) | exact absurd z (by dsimp only [Row.word]; decide +kernel)
          obtain ⟨eo, el⟩ := ownV_plain (bs := A.bs) hpl
          walk_at "u"
          refine Y.s_dF hne ?_
          walk_at "u"
          refine u_lown kk1 fun H2 s2 => ?_
          rw [eo]
          walk_at "u"
          refine u_lplain (A := A) (k1.same s2) (ht.tu fun p xs h => s2 p _ h) hpl hlt (fun hre => ?_) (fun hre => ?_)
          · intro H3 L3 f3 d3 g3 k3
            walk_at "u"
            exact ((toL (m' := m.caughtL 2 0) (by rw [er, if_pos hre]) caughtL_gs).same s2) H3 L3 f3 d3 g3 k3
          · intro H3 L3 f3 d3 g3 k3
            walk_at "u"
            rw [← d3]
            refine u_lcounts k3 fun H6 L6 f6 d6 g6 k6 => ?_
            walk_at "u"
            obtain ⟨ph, pg⟩ := plain_high (A := A) (m := { m with place := m.place + 1 }) hpl
            have q3 := toL (m' := m.doRow A r) (by rw [er, if_neg (by rw [hre]; exact Bool.false_ne_true), if_pos (.inr el)]) (by
              unfold Mc.doRow
              split
              · exact pg
              · exact lessens_said.2.trans pg)
            rw [show (if (({ m with place := m.place + 1 } : Mc).act A r).high then ({ m with place := m.place + 1 } : Mc).act A r else (({ m with place := m.place + 1 } : Mc).act A r).lessens) = m.doRow A r from by unfold Mc.doRow; rw [ph]] at k6
            exact (LmTo.after (q3.same s2) f3 d3 g3) H6 L6 f6 d6 g6 k6
        · have hne : ¬ r.word = "call" := by
            intro z
            cases r <;> first | (cases how; done) | exact absurd z (by dsimp only [Row.word]; decide +kernel)
          obtain ⟨cb, eo, el⟩ := ownV_owns (bs := A.bs) how kk1.2
          rw [reach_own how, if_neg Bool.false_ne_true] at er
          have hdo : (m.high = true ∨ cb = false) → m.step1 A = m.doRow A r := fun h => by
            rw [er, if_pos]
            rcases h with h | h
            · exact .inl h
            · rw [el, h]; exact .inr rfl
          have hca : m.high = false → cb = true → m.step1 A = m.caughtL 1 0 := fun h1 h2 => by
            rw [er, if_neg (by rw [h1, el, h2]; decide), el, h2]
            show m.catch_ 1 = _
            simp [Mc.catch_, Mc.caughtL, h1]
          have hb : m.byGround A r.word = (A.grd.isSome && (!cb && !(m.high && A.thr))) := by
            unfold Mc.byGround
            rw [el]
            cases cb <;> rfl
          walk_at "u"
          refine Y.s_dF hne ?_
          walk_at "u"
          refine u_lown kk1 fun H2 s2 => ?_
          have kk2 := kk1.mono s2
          have hp2 := hp.same s2
          have kd2 := s2 _ _ kd
          rw [eo]
          rcases way with ⟨rfl, hg0⟩ | ⟨rfl, hg0, ht0⟩ | ⟨rfl, hg0, ht0⟩ <;> cases cb <;> cases hh : m.high
          all_goals walk_at "u"
          all_goals try (refine u_lown kk2 fun H3 s3 => ?_; have kk3 := kk2.mono s3; have hp3 := hp2.same s3; have kd3 := s3 _ _ kd2; rw [eo]; walk_at "u")
          all_goals try (rw [hh]; walk_at "u")
          all_goals try (refine u_lown (by assumption) fun H4 s4 => ?_; have kk4 := kk2.mono (by walk_at "sm" : Same H2 H4); have hp4 : TpAt K H4 p _ := hp2.same (by walk_at "sm" : Same H2 H4); have kd4 : H4 L.d = _ := (by walk_at "sm" : Same H2 H4) _ _ kd2; rw [eo]; walk_at "u")
          all_goals try (rw [hh]; walk_at "u")
          all_goals try (refine u_lown (by assumption) fun H5 s5 => ?_; have kk5 := kk2.mono (by walk_at "sm" : Same H2 H5); have hp5 : TpAt K H5 p _ := hp2.same (by walk_at "sm" : Same H2 H5); have kd5 : H5 L.d = _ := (by walk_at "sm" : Same H2 H5) _ _ kd2; rw [eo]; walk_at "u")
          all_goals try rw [hg0] at hb
          all_goals rw [hh] at hb
          all_goals try rw [ht0] at hb
          all_goals first
            | (refine u_lcaught (k1.same (by walk_at "sm")) ⟨by decide, by decide⟩ ⟨by decide, by decide⟩ (fun z => by rw [hh] at z; cases z) fun H6 L6 f6 d6 g6 k6 => ?_
               walk_at "u"
               exact ((toL (hca hh rfl) caughtL_gs).same (by walk_at "sm")) H6 L6 f6 d6 g6 k6)
            | (refine u_lhigh (A := A) (k1.same (by walk_at "sm")) (at_sm ht (by walk_at "sm")) how hlt hh hy1 (hi1 hh) hb hs1 fun H6 L6 f6 d6 g6 k6 => ?_
               walk_at "u"
               exact ((toL (m' := ({ m with place := m.place + 1 } : Mc).act A r) (by rw [hdo (.inl hh)]; unfold Mc.doRow; rw [if_pos hh]) (act_gsF (m := { m with place := m.place + 1 }) hb)).same (by walk_at "sm")) H6 L6 f6 d6 g6 k6)
            | (refine u_lowA (A := A) (k1.same (by walk_at "sm")) (at_sm ht (by walk_at "sm")) how hlt hh hb hs1 fun H6 L6 f6 d6 g6 k6 => ?_
               walk_at "u"
               rw [← d6]
               refine u_lcounts k6 fun H7 L7 f7 d7 g7 k7 => ?_
               walk_at "u"
               have q3 := toL (m' := m.doRow A r) (hdo (.inr rfl)) (by
                 unfold Mc.doRow
                 rw [if_neg (by rw [hh]; exact Bool.false_ne_true)]
                 exact lessens_said.2.trans (act_gsF (m := { m with place := m.place + 1 }) hb))
               rw [show (if (({ m with place := m.place + 1 } : Mc).act A r).high then ({ m with place := m.place + 1 } : Mc).act A r else (({ m with place := m.place + 1 } : Mc).act A r).lessens) = m.doRow A r from by
                 unfold Mc.doRow
                 rw [act_high (m := { m with place := m.place + 1 }) hh, hh]] at k7
               exact (LmTo.after (q3.same (by walk_at "sm")) f6 d6 g6) H7 L7 f7 d7 g7 k7)
            | (refine u_lowG (A := A) (k1.same (by walk_at "sm")) (at_sm ht (by walk_at "sm")) how hlt hb npm (by walk_at "hp") (by walk_at "hp") hg1 fun H6 L6 f6 d6 g6 k6 e6 => ?_
               walk_at "u"
               rw [← d6]
               refine u_lcounts k6 fun H7 L7 f7 d7 g7 k7 => ?_
               walk_at "u"
               rw [show (if (({ m with place := m.place + 1 } : Mc).act A r).high then ({ m with place := m.place + 1 } : Mc).act A r else (({ m with place := m.place + 1 } : Mc).act A r).lessens) = m.doRow A r from by
                 unfold Mc.doRow
                 rw [act_highG (m := { m with place := m.place + 1 }) hb how]] at k7
               rw [hdo (.inr rfl)] at q1
               have f5 : FrS (pm :: L.own) H1 H6 := (FrS.refl.same (by walk_at "sm")).trans f6
               have g5 : ∀ a ∈ L6.own, a ∈ L.own ∨ H1 a = none := fun a ha => (g6 a ha).imp_right (none_of (by walk_at "sm"))
               exact (LmTo.g (LmToG.after q1 f5 d6 g5 e6) (by rw [doRow_gs]; exact e6) (not_own g5 npm em2)) H7 L7 f7 d7 g7 k7)
        · have hp' : TpAt K H1 p [.str "call", .int c] := ht.1
          have er := er
          rw [show m.reaches (.call c) = false from rfl, if_neg Bool.false_ne_true] at er
          walk_at "u"
          refine lm_place k1 (by walk_at "sm") (np1 hlt) fun H2 f2 k2 => ?_
          have kd2 := k2.d
          have hp2 := hp'.tu (tu_lm k1 f2)
          walk_at "u"
          cases hh : m.high with
          | true =>
            rw [if_pos (.inl hh)] at er
            walk_at "u"
            exact toL (m' := { m with place := m.place + 1 }) (by rw [er]; unfold Mc.doRow; rw [if_pos hh]; rfl) rfl H2 L f2 rfl (fun a ha => .inl ha) k2
          | false =>
            rw [if_neg (by rw [hh]; show ¬ (false = true ∨ (5 : Int) = 0); decide)] at er
            walk_at "u"
            refine u_lcaught k2 ⟨by decide, by decide⟩ ht.2 (fun z => by rw [show m.high = true from z] at hh; cases hh) fun H3 L3 f3 d3 g3 k3 => ?_
            walk_at "u"
            have e5 : m.step1 A = ({ m with place := m.place + 1 } : Mc).caughtL 5 c := by
              rw [er]
              show m.catch_ 5 = _
              unfold Mc.catch_ Mc.caughtL
              rw [if_neg (by rw [hh]; exact Bool.false_ne_true), if_pos rfl, if_neg (by show ¬ m.high = true; rw [hh]; exact Bool.false_ne_true), show m.calledAt = c from by unfold Mc.calledAt; rw [et]]
            exact (LmTo.after (toL e5 caughtL_gs) f2 rfl (fun a ha => .inl ha)) H3 L3 f3 d3 g3 k3
    · have q2 := toL (step_beyond (A := A) (by omega : m.w1 ≤ m.place)) caughtL_gs
      walk_at "u"
      refine u_lcaught k1 ⟨by decide, by decide⟩ ⟨by decide, by decide⟩ (fun _ => .inl rfl) fun H2 L2 f2 d2 g2 k2 => ?_
      walk_at "u"
      exact q2 H2 L2 f2 d2 g2 k2
end
end G
end
section
namespace G
open PySem L2 C8
variable {K : PySem.W.Frag}
section
variable {H : Hp} {Q : VK} {E : XK} {L : Lm} {m : Mc} {A : Adr} {pk pm : Addr} {wv : V}
theorem u_lstep (k : (LmAt K) H L m) (hk : KindAt H pk A.bs) (hw : WayIs A wv) (hi : m.Hi) (hy : m.why = "") (n : pm ∉ L.own) (e : H pm = some (.lst (m.gsaid.map V.int))) (h1 : m.said.length < 90000) (h2 : m.gsaid.length < 90000) (q : (LmToG K) H pm L (m.step A) (Q .non)) : (spLStep K) ([.ref L.d, .ref pk, wv, .ref pm] ++ []) H Q E := ⟨L, m, A, pk, pm, wv, rfl, k, hk, hw, hi, hy, n, e, h1, h2, q⟩
theorem hi_mkHigh {m0 : Mc} {n c : Int} (h : m0.boxes.length = 4) (h16 : 16 ≤ m0.cells.length) : (m0.mkHigh n c).Hi := fun _ => by
  show (m0.cells.length : Int) = ((lay (lay m0.cells 0 [.num m0.place, .num m0.w0, .num m0.w1, .num n, .num c]) 6 m0.boxes).length : Nat)
  rw [lay_length (by rw [lay_length (by show 0 + 5 ≤ _; omega)]; omega), lay_length (by show 0 + 5 ≤ _; omega)]
theorem hi_catch {n : Int} (h : m.boxes.length = 4) (h16 : 16 ≤ m.cells.length) (hi : m.Hi) : (m.catch_ n).Hi := by
  unfold Mc.catch_
  split
  · exact hi
  · split
    · exact hi_mkHigh (m0 := { m with place := m.place + 1 }) h h16
    · exact hi_mkHigh h h16
theorem hi_lessens (h : m.boxes.length = 4) (h16 : 16 ≤ m.cells.length) (hi : m.Hi) : m.lessens.Hi := by
  unfold Mc.lessens
  split
  · split
    · exact hi_catch (m := { m with alarm := 0 }) h h16 hi
    · exact hi
  · exact hi
theorem act_hi {r : Row} (o : m.Ok) (hi : m.Hi) (hr : m.reaches r = false) : (m.act A r).Hi := by
  have hw := o.win
  have w0 := o.w0
  have h16 := o.n16
  cases r with
  | store c b =>
    show Mc.Hi (match m.boxes[b.toNat]? with | some t => { m with cells := lay m.cells (m.w0 + m.bw c).toNat [t] } | none => m)
    split
    · intro hh
      have e := hi hh
      have hb : m.bw c < m.w1 := by
        have : ¬ (m.w1 ≤ m.bw c) := of_decide_eq_false hr
        omega
      show m.w1 = ((lay m.cells (m.w0 + m.bw c).toNat [_]).length : Nat)
      rw [lay_length (by show (m.w0 + m.bw c).toNat + 1 ≤ _; omega)]
      exact e
    · exact hi
  | enter b =>
    simp only [Mc.act]
    split
    · exact hi
    · split
      · unfold Mc.enters
        split
        · exact hi
        · intro z; cases z
      · exact hi
  | hear b =>
    simp only [Mc.act]
    split
    · exact hi
    · unfold Mc.hears
      split <;> exact hi
  | _ => simp only [Mc.act] <;> (repeat' split) <;> exact hi
theorem act_box {r : Row} : (m.act A r).boxes.length = m.boxes.length ∧ (m.reaches r = false → m.Ok → (m.act A r).cells.length = m.cells.length) := by
  cases r with
  | store c b =>
    show (match m.boxes[b.toNat]? with | some t => ({ m with cells := lay m.cells (m.w0 + m.bw c).toNat [t] } : Mc) | none => m).boxes.length = _ ∧ (_ → _ → (match m.boxes[b.toNat]? with | some t => ({ m with cells := lay m.cells (m.w0 + m.bw c).toNat [t] } : Mc) | none => m).cells.length = _)
    split
    · refine ⟨rfl, fun hr o => ?_⟩
      have hw := o.win
      have w0 := o.w0
      have h16 := o.n16
      have hb : m.bw c < m.w1 := by
        have : ¬ (m.w1 ≤ m.bw c) := of_decide_eq_false hr
        omega
      exact lay_length (by show (m.w0 + m.bw c).toNat + 1 ≤ _; omega)
    · exact ⟨rfl, fun _ _ => rfl⟩
  | enter b =>
    simp only [Mc.act, Mc.enters]
    (repeat' split) <;> exact ⟨rfl, fun _ _ => rfl⟩
  | hear b =>
    simp only [Mc.act, Mc.hears]
    (repeat' split) <;> first | exact ⟨List.length_set .., fun _ _ => rfl⟩ | simp [Mc.setBox]
  | _ => simp only [Mc.act] <;> (repeat' split) <;> first | exact ⟨rfl, fun _ _ => rfl⟩ | exact ⟨List.length_set .., fun _ _ => rfl⟩ | simp [Mc.setBox]
theorem step_hi (o : m.Ok) (hi : m.Hi) : (m.step A).Hi := by
  have o1 : Mc.Ok { m with steps := m.steps + 1 } := ⟨o.box, o.n16, o.n40, o.pl, o.w0, o.w1, o.win, o.al, o.ear, o.el⟩
  have hi1 : Mc.Hi { m with steps := m.steps + 1 } := hi
  unfold Mc.step
  generalize ({ m with steps := m.steps + 1 } : Mc) = m1 at o1 hi1 ⊢
  have win := o1.win
  have h40 := o1.n40
  by_cases h : m1.place < m1.w1
  · cases et : m1.at_ m1.place with
    | none => unfold Mc.step1; rw [et]; split; exact hi1; exact hi_catch o1.box o1.n16 hi1
    | some t =>
      cases t with
      | num n => rw [step_num h et]; unfold Mc.caughtL; split; exact hi1; exact hi_mkHigh o1.box o1.n16
      | row p r =>
        rw [step_row h et]
        split
        · unfold Mc.caughtL; split; exact hi1; exact hi_mkHigh o1.box o1.n16
        · rename_i hr
          have hr : m1.reaches r = false := Bool.eq_false_iff.mpr hr
          split
          · have op : Mc.Ok { m1 with place := m1.place + 1 } := ⟨o1.box, o1.n16, o1.n40, ⟨by have := o1.pl.1; show 0 ≤ m1.place + 1; omega, by have := o1.w0; show m1.place + 1 < 1000; omega⟩, o1.w0, o1.w1, o1.win, o1.al, o1.ear, o1.el⟩
            have hr' : ({ m1 with place := m1.place + 1 } : Mc).reaches r = false := by rw [← hr]; cases r <;> rfl
            have ha := act_hi (A := A) op hi1 hr'
            obtain ⟨b1, b2⟩ := act_box (A := A) (m := { m1 with place := m1.place + 1 }) (r := r)
            unfold Mc.doRow
            split
            · exact ha
            · exact hi_lessens (b1.trans o1.box) (by rw [b2 hr' op]; exact o1.n16) ha
          · exact hi_catch o1.box o1.n16 hi1
  · rw [step_beyond (by omega)]
    unfold Mc.caughtL
    split
    · exact hi1
    · exact hi_mkHigh o1.box o1.n16
end
end G
local macro_rules
  | `(tactic| walk_at "fs") => `(tactic| first
    | walk_at "as"
    | with_reducible apply G.FrS.refl
    | ((with_reducible apply G.fs_own); (focus walk_at "as"); (focus walk_at "fs"))
    | ((with_reducible apply G.fs_new); (focus walk_at "as"); (focus walk_at "fs"))
    | ((with_reducible apply G.fs_upd); (focus first | exact G.Lm.i0 | exact G.Lm.i1 | exact G.Lm.i2 | exact G.Lm.i3 | exact G.Lm.i4 | walk_at "as"); (focus walk_at "fs"))
    | ((with_reducible apply G.fs_tr); (focus walk_at "as"); (focus walk_at "fs")))
local macro_rules
  | `(tactic| walk_at "u1") => `(tactic| first
    | walk_at "s1"
    | with_reducible refine Y.s_dput ?_
    | with_reducible refine G.s_par2 ?_
    | with_reducible refine G.s_two ?_
    | with_reducible refine Y.s_sl ?_
    | with_reducible refine Y.s_part ?_
    | with_reducible refine Y.s_partI ?_
    | with_reducible refine Y.s_noPart ?_
    | with_reducible refine Y.s_new rfl fun _ _ => ?_
    | ((with_reducible refine' Y.s_ixL (xs := ?xs) (w := ?w) ?h ?e ?q); (case' h => walk_at "sq"); (case' e => walk_at "as"))
    | ((with_reducible refine' Y.s_ixL' (xs := ?xs) (w := ?w) ?h ?e ?q); (case' h => walk_at "sq"); (case' e => walk_at "as"))
    | ((with_reducible refine' Y.s_ixT (xs := ?xs) (w := ?w) ?h ?e ?q); (case' h => walk_at "sq"); (case' e => walk_at "as"))
    | ((with_reducible refine' Y.s_ixT' (xs := ?xs) (w := ?w) ?h ?e ?q); (case' h => walk_at "sq"); (case' e => walk_at "as"))
    | ((with_reducible refine' G.u_lworth (t := ?t) rfl ?a ?q); (case' a => first | walk_at "as" | ((with_reducible apply G.at_tu); (focus walk_at "as"); (focus walk_at "tu")))))
local macro_rules
  | `(tactic| walk_at "u") => `(tactic| repeat walk_at "u1")

namespace G
open PySem L2 C8
variable {K : PySem.W.Frag}
section
variable {P : Program} {w : World} {K : PySem.W.Frag} {mg : Str → Option Value} {base : Heap}
abbrev s__law_goes : Stmt := top 134
theorem sc__law_goes : FnScope ["_law_m", "_law_kind_here", "_law_way", "_law_mouth", "_law_many", "_law_count"] ["_law_m", "_law_kind_here", "_law_way", "_law_mouth", "_law_many"] (fnScope s__law_goes) := fnScope_by (by decide +kernel)
theorem ok__law_goes {f : Addr} {fd : FuncData} (F : Def K mg "_law_goes" s__law_goes f fd) (b : Binds K fd ["_law_m", "_law_kind_here", "_law_way", "_law_mouth", "_law_many"] []) (T : Txt K mg) (c__law_step : Cal P w K mg base 4 "_law_step" (spLStep K) []) : Cal P w K mg base 5 "_law_goes" (spLGoes K) [] := by
  refine cal0 F b .nil sc__law_goes (fun vs H Q E h => ?_) (fun cdv A outer s H vs Q E hr h => ?_)
  · obtain ⟨L, m, A, pk, pm, wv, n, rfl, _⟩ := h
    rfl
  · obtain ⟨L, m, A, pk, pm, wv, n, rfl, k, kk, way, hi, npm, em, n0, n1, l1, l2, q⟩ := h
    have nd := sc__law_goes.nd
    have hu := hu_of hr
    refine ⟨_, (pss_cons (ps_for PassesOwn.never rfl (pi_range1 rfl T.n_range (pa_cons (pv 4) pa_nil)) (pg_name (i := 5) nd rfl (by first | exact Or.inl rfl | exact Or.inr rfl))
      (pss_cons (ps_if (pt_cmpR op_ne (pe_dget hu (pv 0) pe_str (fun _ _ => rfl)) pe_str (nomark _))
      (pss_one (ps_ret (pv 5)))
      pss_nil)
      (pss_one (ps_expr (pe_c c__law_step hr (by first | decide | omega) (by rfl) (pa_cons (pv 0) (pa_cons (pv 1) (pa_cons (pv 2) (pa_cons (pv 3) pa_nil)))))))))
      (pss_one (ps_ret (pv 4)))), ?_⟩
    walk_at "b"
    refine Y.s_forR n0 (by omega) (fun i σ H' => ∃ (v : Option V) (L' : Lm) (m' : Mc), σ = [some (.ref L.d), some (.ref pk), some wv, some (.ref pm), some (.int n), v] ∧ FrS (pm :: L.own) H H' ∧ L'.d = L.d ∧ (∀ a ∈ L'.own, a ∈ L.own ∨ H a = none) ∧ (LmAt K) H' L' m' ∧ m'.Hi ∧ H' pm = some (.lst (m'.gsaid.map V.int)) ∧ m'.said.length ≤ m.said.length + i ∧ m'.gsaid.length ≤ m.gsaid.length + i ∧ i ≤ n.toNat ∧ (m.goes A n.toNat).1 = (m'.goes A (n.toNat - i)).1 ∧ (m.goes A n.toNat).2 = (m'.goes A (n.toNat - i)).2 + i)
      ⟨_, L, m, rfl, FrS.refl, rfl, fun a ha => .inl ha, k, hi, em, Nat.le_refl _, Nat.le_refl _, Nat.zero_le _, rfl, rfl⟩ ?_ ?_
    · rintro i σ H1 hlt ⟨v, L1, m1, rfl, f1, d1, g1, k1, hi1, em1, s1, s2, _, e1, e2⟩
      have kd1 : H1 L.d = some (.dK (L1.kvs m1)) := by rw [← d1]; exact k1.d
      have kk1 : KindAt H1 pk A.bs := ⟨f1 pk _ (fun z => by
        rcases List.mem_cons.mp z with rfl | z
        · have z1 := kk.1; rw [em] at z1; cases z1
        · rcases Lm.kind k pk z with ⟨_, e⟩ | ⟨_, e⟩ <;> rw [kk.1] at e <;> cases e) kk.1, kk.2⟩
      walk_at "u"
      refine Y.s_dN2 (fun hw => ?_) (fun hw => ?_)
      · have hd' : n.toNat - i = (n.toNat - (i + 1)) + 1 := by omega
        rw [hd', goes_add A i (n.toNat - (i + 1)) m1 hw] at e1 e2
        obtain ⟨t1, t2⟩ := step_said (A := A) (m := m1)
        walk_at "u"
        rw [← d1]
        refine u_lstep k1 kk1 way hi1 hw (not_own g1 npm em) em1 (by omega) (by omega) fun H2 L2 f2 d2 g2 k2 em2 => ?_
        walk_at "u"
        refine ⟨_, L2, _, rfl, f1.mid f2 (fun b hb => ?_), d2, fun a ha => ?_, k2, step_hi k1.ok hi1, em2, by omega, by omega, by omega, e1, by omega⟩
        · rcases List.mem_cons.mp hb with rfl | hb
          · exact .inl (.head _)
          · exact (g1 b hb).imp_left (fun z => .tail _ z)
        · rcases g2 a ha with z | z
          · exact g1 a z
          · by_cases ho : a ∈ pm :: L.own
            · rcases List.mem_cons.mp ho with rfl | ho
              · rw [em1] at z; cases z
              · exact .inl ho
            · exact .inr (none_fr f1 ho z)
      · rw [goes_stop A _ hw] at e1 e2
        walk_at "u"
        have e3 : (0 : Int) + (i : Nat) = ((m.goes A n.toNat).2 : Nat) := by rw [e2]; show (0 : Int) + (i : Nat) = ((0 + i : Nat) : Int); omega
        rw [e3]
        exact q H1 L1 f1 d1 g1 (by rw [e1]; exact k1) (by rw [e1]; exact em1) (by rw [e1]; exact hi1)
    · rintro σ H1 ⟨v, L1, m1, rfl, f1, d1, g1, k1, hi1, em1, s1, s2, _, e1, e2⟩
      rw [Nat.sub_self] at e1 e2
      walk_at "u"
      have e3 : n = ((m.goes A n.toNat).2 : Nat) := by rw [e2]; show n = ((0 + n.toNat : Nat) : Int); omega
      rw [show V.int n = V.int ((m.goes A n.toNat).2 : Nat) from congrArg V.int e3]
      exact q H1 L1 f1 d1 g1 (by rw [e1]; exact k1) (by rw [e1]; exact em1) (by rw [e1]; exact hi1)
end
end G
end
section
namespace G
open PySem L2 C8
variable {K : PySem.W.Frag}
def spLMachine (K : PySem.W.Frag) : Sp := fun vs H Q _ => ∃ (pc pe : Addr) (ts : List Thing) (ns : List Int), vs = [.ref pc, .ref pe] ∧ (CellsAt K) H pc ts ∧ H pe = some (.lst (ns.map V.int)) ∧ (∀ n ∈ ns, Nm n) ∧ ns.length ≤ 20 ∧ ∀ L H', Same H H' → (∀ a ∈ L.own, H a = none) → (LmAt K) H' L (Mc.start ts ns) → Q (.ref L.d) H'
def spLBundle (K : PySem.W.Frag) : Sp := fun vs H Q _ => ∃ (L : Lm) (m : Mc), vs = [.ref L.d] ∧ (LmAt K) H L m ∧ ∀ t H', Same H H' → H t = none → (BundleAt K) H' t m → Q (.ref t) H'
theorem start_ok {ts : List Thing} {ns : List Int} (h1 : 16 ≤ ts.length) (h2 : ts.length ≤ 40) (hn : ∀ n ∈ ns, Nm n) (hl : ns.length ≤ 20) : (Mc.start ts ns).Ok :=
  have z : Nm 0 := ⟨by decide, by decide⟩
  ⟨rfl, h1, h2, z, Int.le_refl 0, by show (0 : Int) ≤ (ts.length : Nat); omega, by show (0 : Int) + (ts.length : Nat) ≤ (ts.length : Nat); omega, z, hn, hl⟩
end G
local macro_rules
  | `(tactic| walk_at "fs") => `(tactic| first
    | walk_at "as"
    | with_reducible apply G.FrS.refl
    | ((with_reducible apply G.fs_own); (focus walk_at "as"); (focus walk_at "fs"))
    | ((with_reducible apply G.fs_new); (focus walk_at "as"); (focus walk_at "fs"))
    | ((with_reducible apply G.fs_upd); (focus first | exact G.Lm.i0 | exact G.Lm.i1 | exact G.Lm.i2 | exact G.Lm.i3 | exact G.Lm.i4 | walk_at "as"); (focus walk_at "fs"))
    | ((with_reducible apply G.fs_tr); (focus walk_at "as"); (focus walk_at "fs")))
local macro_rules
  | `(tactic| walk_at "u1") => `(tactic| first
    | walk_at "s1"
    | with_reducible refine Y.s_dput ?_
    | with_reducible refine G.s_par2 ?_
    | with_reducible refine G.s_two ?_
    | with_reducible refine Y.s_sl ?_
    | with_reducible refine Y.s_part ?_
    | with_reducible refine Y.s_partI ?_
    | with_reducible refine Y.s_noPart ?_
    | with_reducible refine Y.s_new rfl fun _ _ => ?_
    | ((with_reducible refine' Y.s_ixL (xs := ?xs) (w := ?w) ?h ?e ?q); (case' h => walk_at "sq"); (case' e => walk_at "as"))
    | ((with_reducible refine' Y.s_ixL' (xs := ?xs) (w := ?w) ?h ?e ?q); (case' h => walk_at "sq"); (case' e => walk_at "as"))
    | ((with_reducible refine' Y.s_ixT (xs := ?xs) (w := ?w) ?h ?e ?q); (case' h => walk_at "sq"); (case' e => walk_at "as"))
    | ((with_reducible refine' Y.s_ixT' (xs := ?xs) (w := ?w) ?h ?e ?q); (case' h => walk_at "sq"); (case' e => walk_at "as"))
    | ((with_reducible refine' G.u_lworth (t := ?t) rfl ?a ?q); (case' a => first | walk_at "as" | ((with_reducible apply G.at_tu); (focus walk_at "as"); (focus walk_at "tu")))))
local macro_rules
  | `(tactic| walk_at "u") => `(tactic| repeat walk_at "u1")

namespace G
open PySem L2 C8
variable {K : PySem.W.Frag}
section
variable {P : Program} {w : World} {K : PySem.W.Frag} {mg : Str → Option Value} {base : Heap}
abbrev s__law_bundle : Stmt := top 125
theorem sc__law_bundle : FnScope ["_law_m"] ["_law_m"] (fnScope s__law_bundle) := fnScope_by (by decide +kernel)
theorem ok__law_bundle {f : Addr} {fd : FuncData} (F : Def K mg "_law_bundle" s__law_bundle f fd) (b : Binds K fd ["_law_m"] []) (T : Txt K mg) : Cal P w K mg base 1 "_law_bundle" (spLBundle K) [] := by
  refine cal0 F b .nil sc__law_bundle (fun vs H Q E h => ?_) (fun cdv A outer s H vs Q E hr h => ?_)
  · obtain ⟨L, m, rfl, _⟩ := h
    rfl
  · obtain ⟨L, m, rfl, k, q⟩ := h
    have nd := sc__law_bundle.nd
    have hu := hu_of hr
    have kd := k.d
    have kc := k.c
    have kx := k.x
    have kw := k.w
    have ks := k.s
    have ke := k.e
    refine ⟨_, (pss_one (ps_ret (pe_tup (pa_cons (pe_callTy Y.cl_tuple (by rfl) T.n_tuple (by decide +kernel) (pa_cons (pe_dget hu (pv 0) pe_str (fun _ _ => rfl)) pa_nil)) (pa_cons (pe_callTy Y.cl_tuple (by rfl) T.n_tuple (by decide +kernel) (pa_cons (pe_dget hu (pv 0) pe_str (fun _ _ => rfl)) pa_nil)) (pa_cons (pe_dget hu (pv 0) pe_str (fun _ _ => rfl)) (pa_cons (pe_dget hu (pv 0) pe_str (fun _ _ => rfl)) (pa_cons (pe_dget hu (pv 0) pe_str (fun _ _ => rfl)) (pa_cons (pe_dget hu (pv 0) pe_str (fun _ _ => rfl)) (pa_cons (pe_callTy Y.cl_tuple (by rfl) T.n_tuple (by decide +kernel) (pa_cons (pe_dget hu (pv 0) pe_str (fun _ _ => rfl)) pa_nil)) (pa_cons (pe_callTy Y.cl_tuple (by rfl) T.n_tuple (by decide +kernel) (pa_cons (pe_dget hu (pv 0) pe_str (fun _ _ => rfl)) pa_nil)) (pa_cons (pe_dget hu (pv 0) pe_str (fun _ _ => rfl)) (pa_cons (pe_dget hu (pv 0) pe_str (fun _ _ => rfl)) pa_nil))))))))))))), ?_⟩
    walk_at "b"
    walk_at "u"
    intro pc hpc
    walk_at "u"
    intro px hpx
    walk_at "u"
    intro ps hps
    walk_at "u"
    intro pe hpe
    walk_at "s"
    refine Y.s_new rfl fun t ht => ?_
    walk_at "u"
    refine q t _ (by walk_at "sm") (none_of (by walk_at "sm") ht) ⟨pc, px, L.pw, ps, pe, upd_same, by walk_at "hp", by walk_at "hp", by walk_at "hp", by walk_at "hp", by walk_at "hp", k.tc.same (by walk_at "sm"), k.tb.same (by walk_at "sm")⟩
abbrev s__law_machine : Stmt := top 124
theorem sc__law_machine : FnScope ["_law_cells_here", "_law_ear_here", "_law_m"] ["_law_cells_here", "_law_ear_here"] (fnScope s__law_machine) := fnScope_by (by decide +kernel)
theorem ok__law_machine {f : Addr} {fd : FuncData} (F : Def K mg "_law_machine" s__law_machine f fd) (b : Binds K fd ["_law_cells_here", "_law_ear_here"] []) (T : Txt K mg) : Cal P w K mg base 1 "_law_machine" (spLMachine K) [] := by
  refine cal0 F b .nil sc__law_machine (fun vs H Q E h => ?_) (fun cdv A outer s H vs Q E hr h => ?_)
  · obtain ⟨pc, pe, ts, ns, rfl, _⟩ := h
    rfl
  · obtain ⟨pc0, pe0, ts, ns, rfl, ⟨hc, ht, l16, l40⟩, he, hn, hl, q⟩ := h
    have nd := sc__law_machine.nd
    have hu := hu_of hr
    refine ⟨_, (pss_cons (ps_set (i := 2) nd rfl (by first | exact Or.inl rfl | exact Or.inr rfl) (pe_disp (pps_cons pe_str (pe_callTy Y.cl_list (by rfl) T.n_list (by decide +kernel) (pa_cons (pv 0) pa_nil)) (pps_cons pe_str (pe_op op_rep (pe_lst (pa_cons pe_int pa_nil)) pe_int) (pps_cons pe_str pe_int (pps_cons pe_str pe_bl (pps_cons pe_str (pe_tup (pa_cons pe_int (pa_cons (pe_callB Y.cl_len (by rfl) T.n_len PySem.boot_len (pa_cons (pv 0) pa_nil)) pa_nil))) (pps_cons pe_str pe_int pps_nil)))))) (by rfl) (by rfl) (fun z => by cases z) (by decide)))
      (pss_cons (ps_expr (pe_bm PySem.F.plainAttrs_dict PySem.F.slot_dict_update PySem.F.type_dict_update Y.mt_update (pv 2) (pa_cons (pe_disp (pps_cons pe_str (pe_lst pa_nil) (pps_cons pe_str (pe_callTy Y.cl_list (by rfl) T.n_list (by decide +kernel) (pa_cons (pv 1) pa_nil)) (pps_cons pe_str pe_str (pps_cons pe_str pe_int pps_nil)))) (by rfl) (by rfl) (fun z => by cases z) (by decide)) pa_nil)))
      (pss_one (ps_ret (pv 2))))), ?_⟩
    walk_at "b"
    intro d hd
    walk_at "u"
    intro pc hpc
    walk_at "u"
    refine Y.s_rep (xs := [.int 0]) (by walk_at "hp") (by decide) (by decide) (by decide) fun px hpx => ?_
    have ncx : pc ≠ px := ne_of_none (o := .lst (ts.map Thing.v)) (by walk_at "hp") hpx
    walk_at "s"
    refine Y.s_new rfl fun pw hpw => ?_
    walk_at "u"
    refine Y.s_dend ["cells", "boxes", "place", "high", "window", "alarm"] [.ref pc, .ref px, .int 0, .bl true, .ref pw, .int 0] (by walk_at "hp") rfl (by decide +kernel) rfl ?_
    refine Y.s_gName ?_
    refine Y.fgt (fun H' => Same H H' ∧ H' d = some (.dK [(.inr "cells", .ref pc), (.inr "boxes", .ref px), (.inr "place", .int 0), (.inr "high", .bl true), (.inr "window", .ref pw), (.inr "alarm", .int 0)]) ∧ H' pc = some (.lst (ts.map Thing.v)) ∧ H' px = some (.lst ((List.replicate 4 (Thing.num 0)).map Thing.v)) ∧ H' pw = some (.tup [.int 0, .int (ts.length : Nat)]))
      ⟨by walk_at "sm", upd_same, ?_, ?_, ?_⟩ fun HA ⟨sA, eD, eC, eX, eW⟩ => ?_
    · have nd1 : d ≠ pc := ne_of_none (o := .dK []) upd_same hpc
      walk_at "hp"
    · have nd2 : d ≠ px := ne_of_none (o := .dK []) (by walk_at "hp") hpx
      exact (upd_ne nd2.symm).trans ((upd_ne (ne_of_none (o := .lst (List.replicate (Int.toNat 4) [V.int 0]).flatten) (by walk_at "hp") hpw)).trans upd_same)
    · have nd3 : d ≠ pw := ne_of_none (o := .dK []) (by walk_at "hp") hpw
      rw [upd_ne nd3.symm, upd_same, List.length_map]
    have heA := sA _ _ he
    have fresh : ∀ {p : Addr} {H' : Hp}, Same HA H' → H' p = none → p ≠ d ∧ p ≠ pc ∧ p ≠ px := fun s h => ⟨(ne_of_none (s _ _ eD) h).symm, (ne_of_none (s _ _ eC) h).symm, (ne_of_none (s _ _ eX) h).symm⟩
    walk_at "u"
    refine s_bm ?_
    walk_at "u"
    refine Y.s_bmD eD ?_
    walk_at "u"
    intro d2 hd2
    walk_at "s"
    refine Y.s_new rfl fun ps hps => ?_
    walk_at "u"
    intro pe hpe
    walk_at "u"
    refine Y.s_dend ["said", "ear", "why", "many"] [.ref ps, .ref pe, .str "", .int 0] (by walk_at "hp") rfl (by decide +kernel) rfl ?_
    walk_at "u"
    refine Y.s_updateS (new := Lm.kvs ⟨d, pc, px, pw, ps, pe⟩ (Mc.start ts ns)) (ne_of_none eD hd2) (by walk_at "hp") upd_same (by show 6 + 4 ≤ _; decide) (by rfl) ?_
    have nse : ps ≠ pe := ne_of_none (o := .lst []) (by walk_at "hp") hpe
    have n2e : d2 ≠ pe := ne_of_none (o := .dK []) (by walk_at "hp") hpe
    have n2s : d2 ≠ ps := ne_of_none (o := .dK []) upd_same hps
    obtain ⟨s1, s2, s3⟩ := fresh (by walk_at "sm") hps
    obtain ⟨e1, e2, e3⟩ := fresh (by walk_at "sm") hpe
    walk_at "u"
    have ndc : d ≠ pc := ne_of eD eC (fun z => nomatch z)
    have ndx : d ≠ px := ne_of eD eX (fun z => nomatch z)
    have ndw : d ≠ pw := ne_of eD eW (fun z => nomatch z)
    refine q ⟨d, pc, px, pw, ps, pe⟩ _ (Y.same_own hd (sA.trans (by walk_at "sm"))) ?_ ⟨upd_same, (upd_ne ndc.symm).trans ((show Same HA _ from by walk_at "sm") _ _ eC), (upd_ne ndx.symm).trans ((show Same HA _ from by walk_at "sm") _ _ eX), (upd_ne ndw.symm).trans ((show Same HA _ from by walk_at "sm") _ _ eW), (upd_ne s1).trans ((upd_ne n2s.symm).trans ((upd_ne nse).trans upd_same)), (upd_ne e1).trans ((upd_ne n2e.symm).trans upd_same), ht.same (Y.same_own hd (sA.trans (by walk_at "sm"))), ?_, ncx, s2.symm, e2.symm, s3.symm, e3.symm, nse, start_ok l16 l40 hn hl⟩
    · intro a ha
      simp only [Lm.own, List.mem_cons, List.not_mem_nil, or_false] at ha
      rcases ha with rfl | rfl | rfl | rfl | rfl
      · exact hd
      · exact none_of (by walk_at "sm") hpc
      · exact none_of (by walk_at "sm") hpx
      · exact none_of sA (none_of (by walk_at "sm") hps)
      · exact none_of sA (none_of (by walk_at "sm") hpe)
    · intro t mt
      rw [List.eq_of_mem_replicate mt]
      exact ⟨by decide, by decide⟩
end
end G
end
section
/-! ### cells as data: == -/
namespace G
open PySem L2 C8
variable {K : PySem.W.Frag}
def ip (n : Int) : PyData := .int n
def Thing.pd : Thing → PyData
  | .num n => .int n
  | .row _ r => .tuple (.str r.word :: r.nums.map .int)
theorem Thing.dp {K : PySem.W.Frag} {H : Hp} {t : Thing} (h : t.At K H) : Dp K H t.v t.pd := by
  cases t with
  | num n => exact .int n
  | row p r =>
    have hp := h.1
    rw [r.vs_eq] at hp
    exact .tup hp.sq (.cons (.str _) (dp_ints _))
theorem word_strOk (r : Row) : PyData.strOk r.word = true := by cases r <;> (dsimp only [Row.word]; decide +kernel)
theorem Thing.lay (t : Thing) : t.pd.canLay0 = true ∧ t.pd.depth ≤ 1 := by
  cases t with
  | num n => exact ⟨rfl, Nat.zero_le _⟩
  | row p r =>
    obtain ⟨h1, h2⟩ := lay_is r.nums
    refine ⟨?_, ?_⟩
    · show (PyData.strOk r.word && PyData.canLayAll0 (r.nums.map PyData.int)) = true
      rw [h1, word_strOk]; rfl
    · show max 0 (PyData.depthAll (r.nums.map PyData.int)) + 1 ≤ 1
      rw [h2]; exact Nat.le_refl _
theorem things_dp {K : PySem.W.Frag} {H : Hp} : ∀ {ts : List Thing}, (Things K) H ts → DpAll K H (ts.map Thing.v) (ts.map Thing.pd)
  | [], _ => .nil
  | t :: r, h => .cons (Thing.dp (h t (.head _))) (things_dp fun u m => h u (List.mem_cons_of_mem _ m))
theorem things_lay : ∀ ts : List Thing, PyData.canLayAll0 (ts.map Thing.pd) = true ∧ PyData.depthAll (ts.map Thing.pd) ≤ 1
  | [] => ⟨rfl, Nat.zero_le _⟩
  | t :: r => by
    obtain ⟨h1, h2⟩ := things_lay r
    obtain ⟨h3, h4⟩ := t.lay
    refine ⟨?_, ?_⟩
    · show (PyData.canLay0 t.pd && PyData.canLayAll0 (r.map Thing.pd)) = true
      rw [h1, h3]; rfl
    · show max (PyData.depth t.pd) (PyData.depthAll (r.map Thing.pd)) ≤ 1
      exact Nat.max_le.mpr ⟨h4, h2⟩
theorem shaped_things (ts : List Thing) : SeqAt.shaped (.list (ts.map Thing.pd)) = true := by
  obtain ⟨h1, h2⟩ := things_lay ts
  unfold SeqAt.shaped
  rw [Bool.and_eq_true, decide_eq_true_eq]
  exact ⟨h1, Nat.le_trans (Nat.succ_le_succ h2) (by decide)⟩
/-- a list of cells beside one of the same things: != tells False -/
theorem s_neCells {K : PySem.W.Frag} {H : Hp} {Q : VK} {p1 p2 : Addr} {ts : List Thing} (h1 : H p1 = some (.lst (ts.map Thing.v))) (h2 : H p2 = some (.lst (ts.map Thing.v))) (ht : (Things K) H ts) (q : Q (.bl false) H) : rNeD K (.ref p1) (.ref p2) H Q := by
  refine ⟨_, _, .lst (SqL.of h1) (things_dp ht), .lst (SqL.of h2) (things_dp ht), shaped_things ts, shaped_things ts, ?_⟩
  rw [SeqAt.eqv_refl _ (SeqAt.canLay_of_shaped (shaped_things ts))]
  exact q
end G
end
section
/-! ### the guest that stands unlike: both runs -/
namespace G
open PySem L2 C8
variable {K : PySem.W.Frag}
/-- all of a machine, as data -/
def pdOf (m : Mc) : PyData := .tuple [.tuple (m.cells.map Thing.pd), .tuple (m.boxes.map Thing.pd), .int m.place, .bool m.high, .tuple [.int m.w0, .int m.w1], .int m.alarm, .tuple (m.said.map .int), .tuple (m.ear.map .int), .str m.why, .int m.steps]
theorem bundle_dp {H : Hp} {t : Addr} {m : Mc} (h : BundleAt K H t m) : Dp K H (.ref t) (pdOf m) := by
  obtain ⟨pc, px, pw, ps, pe, h1, h2, h3, h4, h5, h6, h7, h8⟩ := h
  exact .tup (SqT.of h1) (.cons (.tup (SqT.of h2) (things_dp h7)) (.cons (.tup (SqT.of h3) (things_dp h8)) (.cons (.int _) (.cons (.bl _) (.cons (.tup (SqT.of h4) (dp_ints [m.w0, m.w1])) (.cons (.int _) (.cons (.tup (SqT.of h5) (dp_ints _)) (.cons (.tup (SqT.of h6) (dp_ints _)) (.cons (.str _) (.cons (.int _) .nil))))))))))
theorem lack_low {bs : List Bool} {way z : Str} (hl : bs.length = 7) (h : z ∈ lackL bs way) : lowN bs z = 0 := by
  obtain ⟨b0, b1, b2, b3, b4, b5, b6, rfl⟩ : ∃ b0 b1 b2 b3 b4 b5 b6, bs = [b0, b1, b2, b3, b4, b5, b6] := by
    match bs, hl with
    | [b0, b1, b2, b3, b4, b5, b6], _ => exact ⟨_, _, _, _, _, _, _, rfl⟩
  unfold lackL at h
  obtain ⟨q, hq, rfl⟩ := List.mem_map.mp h
  obtain ⟨h1, h2⟩ := List.mem_filter.mp hq
  rw [Bool.and_eq_true] at h2
  have h3 : q.2 = false := by have := h2.2; cases hq2 : q.2 <;> simp_all
  have h4 : q ∈ [(("say" : Str), b0), ("hear", b1), ("which", b2), ("room", b3), ("enter", b4), ("alarm", b5), ("stop", b6)] := h1
  simp only [List.mem_cons, List.not_mem_nil, or_false] at h4
  rcases h4 with rfl | rfl | rfl | rfl | rfl | rfl | rfl <;> (dsimp only at h3; subst h3; kernel_rfl)
structure Un13 (m1 m2 : Mc) : Prop where
  s1 : SeqAt.shaped (pdOf m1) = true
  s2 : SeqAt.shaped (pdOf m2) = true
  ne : (pdOf m1).eqv (pdOf m2) = false
theorem un13_p {A B : Adr} {bs : List Bool} {p0 p1 : Addr} (h7 : bs.length = 7) (gA : A.grd = none) (eB : B.bs = bs) (gB : B.grd.isSome = true) (tB : B.thr = false) {z : Str} (hz : z ∈ needP) (hl : lowN bs z = 0) (eA : A.bs = bs) :
    Un13 ((Mc.start ([Thing.row p0 (.put 0 1), .row p1 (ownR z)] ++ List.replicate 14 (.num 0)) [2]).goes A 2).1 ((Mc.start ([Thing.row p0 (.put 0 1), .row p1 (ownR z)] ++ List.replicate 14 (.num 0)) [2]).goes B 2).1 := by
  obtain ⟨b0, b1, b2, b3, b4, b5, b6, rfl⟩ : ∃ b0 b1 b2 b3 b4 b5 b6, bs = [b0, b1, b2, b3, b4, b5, b6] := by
    match bs, h7 with
    | [b0, b1, b2, b3, b4, b5, b6], _ => exact ⟨_, _, _, _, _, _, _, rfl⟩
  cases A
  cases B
  dsimp only at gA eB gB tB eA
  subst gA eB tB eA
  rename_i gB0 _ _ _ _
  cases gB0 with
  | none => cases gB
  | some g =>
    simp only [needP, List.mem_cons, List.not_mem_nil, or_false] at hz
    rcases hz with rfl | rfl | rfl | rfl | rfl | rfl
    · cases b0
      · exact ⟨by kernel_rfl, by kernel_rfl, by kernel_rfl⟩
      · exact absurd hl (by show ¬ (1 : Int) = 0; decide)
    · cases b1
      · exact ⟨by kernel_rfl, by kernel_rfl, by kernel_rfl⟩
      · exact absurd hl (by show ¬ (1 : Int) = 0; decide)
    · cases b2
      · exact ⟨by kernel_rfl, by kernel_rfl, by kernel_rfl⟩
      · exact absurd hl (by show ¬ (1 : Int) = 0; decide)
    · cases b4
      · exact ⟨by kernel_rfl, by kernel_rfl, by kernel_rfl⟩
      · exact absurd hl (by show ¬ (1 : Int) = 0; decide)
    · cases b5
      · exact ⟨by kernel_rfl, by kernel_rfl, by kernel_rfl⟩
      · exact absurd hl (by show ¬ (1 : Int) = 0; decide)
    · cases b6
      · exact ⟨by kernel_rfl, by kernel_rfl, by kernel_rfl⟩
      · exact absurd hl (by show ¬ (1 : Int) = 0; decide)
theorem un13_t {A B : Adr} {bs : List Bool} {p0 p1 p2 p3 : Addr} (h7 : bs.length = 7) (gA : A.grd = none) (eB : B.bs = bs) (gB : B.grd.isSome = true) (tB : B.thr = true) {z : Str} (hz : z ∈ needT) (hl : lowN bs z = 0) (eA : A.bs = bs) :
    Un13 ((Mc.start ([Thing.row p0 (.put 1 16), .row p1 (.put 2 3), .row p2 (.enter 0), .row p3 (ownR z)] ++ List.replicate 12 (.num 0)) [2]).goes A 4).1 ((Mc.start ([Thing.row p0 (.put 1 16), .row p1 (.put 2 3), .row p2 (.enter 0), .row p3 (ownR z)] ++ List.replicate 12 (.num 0)) [2]).goes B 4).1 := by
  obtain ⟨b0, b1, b2, b3, b4, b5, b6, rfl⟩ : ∃ b0 b1 b2 b3 b4 b5 b6, bs = [b0, b1, b2, b3, b4, b5, b6] := by
    match bs, h7 with
    | [b0, b1, b2, b3, b4, b5, b6], _ => exact ⟨_, _, _, _, _, _, _, rfl⟩
  cases A
  cases B
  dsimp only at gA eB gB tB eA
  subst gA eB tB eA
  rename_i gB0 _ _ _ _
  cases gB0 with
  | none => cases gB
  | some g =>
    simp only [needT, List.mem_cons, List.not_mem_nil, or_false] at hz
    rcases hz with rfl | rfl
    · cases b0
      · cases b4
        · exact ⟨by kernel_rfl, by kernel_rfl, by kernel_rfl⟩
        · exact ⟨by kernel_rfl, by kernel_rfl, by kernel_rfl⟩
      · exact absurd hl (by show ¬ (1 : Int) = 0; decide)
    · cases b1
      · cases b4
        · exact ⟨by kernel_rfl, by kernel_rfl, by kernel_rfl⟩
        · exact ⟨by kernel_rfl, by kernel_rfl, by kernel_rfl⟩
      · exact absurd hl (by show ¬ (1 : Int) = 0; decide)
theorem un13 {A B : Adr} {bs : List Bool} {way z : Str} {r : List Str} {ts : List Thing} (h7 : bs.length = 7) (hw : WayT way) (gA : A.grd = none) (eA : A.bs = bs) (eB : B.bs = bs) (gB : B.grd.isSome = true) (tB : B.thr = decide (way = "through")) (e : lackL bs way = z :: r) (h : Told way z ts) :
    Un13 ((Mc.start ts [2]).goes A (told way z).length).1 ((Mc.start ts [2]).goes B (told way z).length).1 := by
  have hl : lowN bs z = 0 := lack_low h7 (way := way) (by rw [e]; exact .head _)
  have hz := lack_need e
  obtain ⟨ps, lp, rfl⟩ := h
  rcases hw with rfl | rfl
  · match ps, lp with
    | [p0, p1], _ => exact un13_p h7 gA eB gB (tB.trans rfl) hz hl eA
  · match ps, lp with
    | [p0, p1, p2, p3], _ => exact un13_t h7 gA eB gB (tB.trans rfl) hz hl eA
theorem told_len {way z : Str} : 1 ≤ (told way z).length ∧ (told way z).length ≤ 4 := by
  have lb : (before way).length ≤ 3 := by unfold before; split <;> decide
  unfold told
  rw [List.length_append]
  show 1 ≤ (before way).length + 1 ∧ (before way).length + 1 ≤ 4
  omega
theorem told_n {way z : Str} {ts : List Thing} (h : Told way z ts) : ts.length = 16 := by
  obtain ⟨ps, lp, rfl⟩ := h
  have := told_len (way := way) (z := z)
  rw [List.length_append, List.length_map, List.length_zip, List.length_replicate, lp]
  omega
theorem told_cells {H : Hp} {p : Addr} {way z : Str} {ts : List Thing} (h : Told way z ts) (e : H p = some (.lst (ts.map Thing.v))) (ht : Things K H ts) : CellsAt K H p ts := ⟨e, ht, by rw [told_n h]; decide, by rw [told_n h]; decide⟩
theorem s_eqUn {H : Hp} {Q : VK} {t1 t2 : Addr} {m1 m2 : Mc} (h1 : BundleAt K H t1 m1) (h2 : BundleAt K H t2 m2) (u : Un13 m1 m2) (q : Q (.bl false) H) : rEqD K (.ref t1) (.ref t2) H Q :=
  ⟨_, _, bundle_dp h1, bundle_dp h2, u.s1, u.s2, by rw [u.ne]; exact q⟩
end G
end
section
/-! ### rooms that are taken within a room -/
namespace L2
open PySem
theorem pe_fldK {K : PySem.W.Frag} {X : Cx} {e : Expr} {ta : TE} {f : Str} {pos : Pos} (he : PE X e ta) (hb : attributeBase e f X.env (eval e X.env) = eval e X.env) (hK : X.K = K := by rfl) : PE X (.Attribute e f pos) (tFld K ta f) := by
  subst hK
  exact pe_fld he hb
end L2
namespace G
open PySem L2 C8
def freeB (f wd : Int) (rs : List Rm) : Bool := !(rs.any fun r => decide (f < r.first + r.wide) && decide (r.first < f + wd))
/-- the rooms taken within one -/
def TakenAt (H : Hp) (CR pf : Addr) (b : V) (po : Addr) (rs : List Rm) : Prop := H po = some (.lst (rs.map fun r => V.ref r.pm)) ∧ ∀ r ∈ rs, H r.pm = some (.ins CR r.dx (r.flds pf b))
theorem TakenAt.same {H H' : Hp} {CR pf po : Addr} {b : V} {rs : List Rm} (t : TakenAt H CR pf b po rs) (s : Same H H') : TakenAt H' CR pf b po rs := ⟨s _ _ t.1, fun r m => s _ _ (t.2 r m)⟩
def spIsFree {K : PySem.W.Frag} (Z : Zs K) : Sp := fun vs H Q _ => ∃ (f wd : Int) (po pf : Addr) (b : V) (rs : List Rm), vs = [.int f, .int wd, .ref po] ∧ TakenAt H Z.CR pf b po rs ∧ rs.length ≤ 1000 ∧ ∀ H', Same H H' → Q (.bl (freeB f wd rs)) H'
def spFirstFree {K : PySem.W.Frag} (Z : Zs K) : Sp := fun vs H Q _ => ∃ (R : Rm) (pf : Addr) (bR : V) (wd : Int) (rs : List Rm) (f0 : Nat), vs = [.ref R.pm, .int wd] ∧ H R.pm = some (.ins Z.CR R.dx (R.flds pf bR)) ∧ TakenAt H Z.CR pf (.ref R.pm) R.pt rs ∧ rs.length ≤ 1000 ∧ R.wide ≤ 1000 ∧ 0 ≤ wd ∧ f0 + wd ≤ R.wide ∧
  freeB f0 wd rs = true ∧ (∀ f : Nat, f < f0 → freeB f wd rs = false) ∧ ∀ H', Same H H' → Q (.int f0) H'
def spPut2 {K : PySem.W.Frag} (Z : Zs K) : Sp := fun vs H Q _ => ∃ (r : Rm) (rs : List Rm) (pf p : Addr) (c s : Nat) (b : Bool) (F ts : List Thing), vs = [.ref r.pm, .int (c : Nat), .ref p] ∧ rs.length < 5 ∧ Holds H (rmObjs Z.CR pf (r :: rs)) ∧ startOf (r :: rs) = (s : Nat) ∧ H pf = some (.lst (F.map Thing.v)) ∧ F.length ≤ 1000 ∧ ts.length ≤ 1000 ∧ s + c + ts.length ≤ F.length ∧ H p = some (LT b (ts.map Thing.v)) ∧
  ∀ H', FrS [pf] H H' → H' pf = some (.lst ((lay F (s + c) ts).map Thing.v)) → Q .non H'
def spTakeRoom {K : PySem.W.Frag} (Z : Zs K) : Sp := fun vs H Q _ => ∃ (R : Rm) (Rs : List Rm) (pf p : Addr) (b : Bool) (F ts : List Thing) (rs : List Rm) (s f0 : Nat), vs = [.ref R.pm, .ref p] ∧ Rs.length < 4 ∧ Holds H (rmObjs Z.CR pf (R :: Rs)) ∧ startOf (R :: Rs) = (s : Nat) ∧ H pf = some (.lst (F.map Thing.v)) ∧ F.length ≤ 1000 ∧ ts.length ≤ 1000 ∧ (s : Int) + R.wide ≤ F.length ∧ H p = some (LT b (ts.map Thing.v)) ∧
  TakenAt H Z.CR pf (.ref R.pm) R.pt rs ∧ rs.length ≤ 900 ∧ (f0 : Int) + (ts.length : Nat) ≤ R.wide ∧ freeB f0 (ts.length : Nat) rs = true ∧ (∀ f : Nat, f < f0 → freeB f (ts.length : Nat) rs = false) ∧ pf ≠ R.pt ∧ p ≠ R.pt ∧
  ∀ (r : Rm) H', FrS [pf, R.pt] H H' → H r.pm = none → H r.pt = none → r.pm ≠ r.pt → r.first = (f0 : Nat) → r.wide = (ts.length : Nat) → H' r.pm = some (.ins Z.CR r.dx (r.flds pf (.ref R.pm))) → H' r.pt = some (.lst []) → H' R.pt = some (.lst ((rs ++ [r]).map fun r => V.ref r.pm)) → H' pf = some (.lst ((lay F (s + f0) ts).map Thing.v)) → Q (.ref r.pm) H'
section
variable {P : Program} {w : World} {K : PySem.W.Frag} {mg : Str → Option Value} {base : Heap} {Z : Zs K}
theorem noneS {H H' : Hp} {p : Addr} (s : Same H H') (h : H' p = none) : H p = none := by
  cases e : H p with
  | none => rfl
  | some o => rw [s p o e] at h; cases h
theorem rm_ins (CR pf : Addr) : ∀ (rs : List Rm) (y : Addr × HO), y ∈ rmObjs CR pf rs → ∃ dx fs, y.2 = .ins CR dx fs
  | [], _, m => nomatch m
  | r :: rs, y, m => by
    rcases List.mem_cons.mp (show y ∈ (r.pm, HO.ins CR r.dx (r.flds pf (below rs))) :: rmObjs CR pf rs from m) with rfl | m
    · exact ⟨_, _, rfl⟩
    · exact rm_ins CR pf rs y m
theorem u_isfree {H : Hp} {Q : VK} {E : XK} {f wd : Int} {po pf : Addr} {b : V} {rs : List Rm} (t : TakenAt H Z.CR pf b po rs) (l : rs.length ≤ 1000) (q : ∀ H', Same H H' → Q (.bl (freeB f wd rs)) H') : spIsFree Z ([.int f, .int wd, .ref po] ++ []) H Q E := ⟨f, wd, po, pf, b, rs, rfl, t, l, q⟩
abbrev s_is_free : Stmt := top 51
theorem sc_is_free : FnScope ["first", "wide", "others", "other"] ["first", "wide", "others"] (fnScope s_is_free) := fnScope_by (by decide +kernel)
theorem ok_is_free {f : Addr} {fd : FuncData} (F : Def K mg "is_free" s_is_free f fd) (b : Binds K fd ["first", "wide", "others"] []) (T : Txt K mg) : Cal P w K mg base 1 "is_free" (spIsFree Z) [] := by
  refine cal0 F b .nil sc_is_free (fun vs H Q E h => ?_) (fun cdv A outer s H vs Q E hr h => ?_)
  · obtain ⟨f, wd, po, pf, bb, rs, rfl, _⟩ := h
    rfl
  · obtain ⟨f, wd, po, pf, bb, rs, rfl, ⟨hp, hr2⟩, hl, q⟩ := h
    have nd := sc_is_free.nd
    refine ⟨_, (pss_one (ps_ret (pe_not (pe_callB (Y.cl_any rfl) (by rfl) T.n_any (by decide +kernel) (pa_cons (pe_lc (own := [("other", 3)]) (g := gName 3) (by rfl) nd (pi_list (pv 2)) (blkOk_by (N := ["first", "wide", "others", "other"]) (sc := fnScope s_is_free) (by decide +kernel)) (fun _ _ _ _ _ => (pg_name (i := 3) nd rfl (by first | exact Or.inl rfl | exact Or.inr rfl))) (fun _ _ _ _ _ => pts_nil) (fun _ _ _ _ _ => (pe_and (pe_cmpR op_lt (pv 0) (pe_op op_add (pe_fldK (K := K) (pv 3) rfl) (pe_fldK (K := K) (pv 3) rfl)) (nomark _)) (pe_one (pe_cmpR op_lt (pe_fldK (K := K) (pv 3) rfl) (pe_op op_add (pv 0) (pv 1)) (nomark _)))))) pa_nil))))), ?_⟩
    walk_at "b"
    refine Y.s_lcL (xs := rs.map fun r => V.ref r.pm) (SqL.of hp) fun D hD => ⟨fun i acc Hx => Same H Hx ∧ acc = ((rs.take i).map fun r => decide (f < r.first + r.wide) && decide (r.first < f + wd)).map V.bl, ?_, ?_, ?_, ?_⟩
    · exact ⟨Y.same_new hD (Same.refl _), rfl⟩
    · rintro i acc Hx _ ⟨sx, _⟩
      exact SqL.of (sx _ _ hp)
    · rintro i x acc Hx hx hl2 hD2 ⟨sx, rfl⟩
      obtain ⟨r, er, rfl⟩ := map_at hx
      have hr3 := sx _ _ (hr2 r (List.mem_of_getElem? er))
      have hi := (List.getElem?_eq_some_iff.mp er).1
      have et : ((rs.take (i + 1)).map fun r => decide (f < r.first + r.wide) && decide (r.first < f + wd)) = ((rs.take i).map fun r => decide (f < r.first + r.wide) && decide (r.first < f + wd)) ++ [decide (f < r.first + r.wide) && decide (r.first < f + wd)] := by
        rw [take_snoc er, List.map_append]; rfl
      walk_at "s"
      refine Y.s_fld ?_
      walk_at "s"
      refine Y.s_fldI hr3 Z.r.cls (Z.r.at_ 2 rfl) rfl ?_
      refine Y.s_fld ?_
      walk_at "s"
      refine Y.s_fldI hr3 Z.r.cls (Z.r.at_ 3 rfl) rfl ?_
      walk_at "s"
      have li : i + 1 < 100000 := by omega
      refine Y.s_d2 (fun h1 => ?_) (fun h1 => ?_)
      · walk_at "s"
        refine Y.s_fld ?_
        walk_at "s"
        refine Y.s_fldI hr3 Z.r.cls (Z.r.at_ 2 rfl) rfl ?_
        walk_at "s"
        exact Y.s_lcE hD2 hl2 (by omega) ⟨Y.same_own hD sx, by rw [et, List.map_append, decide_eq_true h1, Bool.true_and]; rfl⟩
      · exact Y.s_lcE hD2 hl2 (by omega) ⟨Y.same_own hD sx, by rw [et, List.map_append, decide_eq_false h1, Bool.false_and]; rfl⟩
    · rintro acc Hx hD2 hl2 ⟨sx, rfl⟩
      walk_at "s"
      refine Y.s_any (SqL.of hD2) ?_
      walk_at "s"
      rw [List.take_of_length_le (by rw [List.length_map] <;> exact Nat.le_refl _)]
      rw [List.any_map]
      exact q _ sx
theorem ok_Room_put2 {f : Addr} {fd : FuncData} (me : Meth K Z.CR "put_things" f) (F : C8.Fun K "put_things" "Room.put_things" s_Room_put_things f fd) (b : Binds K fd ["self", "cell", "things"] []) (T : Txt K mg) (m_Room_start : Met P w K mg base 6 Z.CR "start" (spRmStart Z 5) []) : Met P w K mg base 7 Z.CR "put_things" (spPut2 Z) [] := by
  refine met0 Z.r.cls me F b sc_Room_put_things (fun vs H Q E h => ?_) (fun cdv A outer s H vs Q E hr h => ?_)
  · obtain ⟨r, rs, pf, p, c, s, bb, F, ts, rfl, _⟩ := h
    rfl
  · obtain ⟨r, rs, pf, p, c, st, bb, Fl, ts, rfl, hl, hd, hs, hf, lF, lt, hc, hp, q⟩ := h
    have nd := sc_Room_put_things.nd
    refine ⟨_, (pss_cons (ps_set (i := 3) nd rfl (by first | exact Or.inl rfl | exact Or.inr rfl) (pe_op op_add (pe_mt0 m_Room_start hr (by first | decide | omega) (pv 0)) (pv 1)))
      (pss_one (ps_asg (pe_callTy Y.cl_list (by rfl) T.n_list (by decide +kernel) (pa_cons (pv 2) pa_nil)) (Y.pg_slice (pe_fld (pv 0) rfl) (pv 3) (pe_op op_add (pv 3) (pe_callB Y.cl_len (by rfl) T.n_len PySem.boot_len (pa_cons (pv 2) pa_nil))))))), ?_⟩
    have e0 := hd.get (.head _)
    walk_at "b"
    refine Y.s_meth ?_
    walk_at "s"
    refine Y.s_methI e0 rfl ?_
    walk_at "s"
    refine ⟨r, rs, pf, rfl, hl, hd, ?_⟩
    rw [hs]
    walk_at "s"
    refine s_listB hp fun l hnl => ?_
    walk_at "s"
    refine Y.s_gSl ?_
    refine Y.s_fld ?_
    walk_at "s"
    have np : p ≠ l := ne_of_none hp hnl
    have nf : pf ≠ l := ne_of_none hf hnl
    have nr : r.pm ≠ l := ne_of_none e0 hnl
    refine Y.s_fldI ((upd_ne nr).trans e0) Z.r.cls (Z.r.at_ 0 rfl) rfl ?_
    walk_at "s"
    refine s_lenB (b := bb) ((upd_ne np).trans hp) ?_
    walk_at "s"
    refine Y.s_setSl ((upd_ne nf).trans hf) upd_same nf (by omega) (by rw [List.length_map]; omega) (by rw [List.length_map, List.length_map]; omega) (by rw [List.length_map, List.length_map]; omega) ?_
    have ef : (Fl.map Thing.v).take (((st : Nat) : Int) + ((c : Nat) : Int)).toNat ++ ts.map Thing.v ++ (Fl.map Thing.v).drop (((st : Nat) : Int) + ((c : Nat) : Int) + (((ts.map Thing.v).length : Nat) : Int)).toNat = (lay Fl (st + c) ts).map Thing.v := by
      rw [List.length_map, show (((st : Nat) : Int) + ((c : Nat) : Int)).toNat = st + c by omega, show (((st : Nat) : Int) + ((c : Nat) : Int) + ((ts.length : Nat) : Int)).toNat = st + c + ts.length by omega]
      unfold lay
      rw [List.map_append, List.map_append, List.map_take, List.map_drop]
    rw [ef]
    walk_at "s"
    exact q _ ((FrS.refl.new hnl).upd (.head _)) upd_same
abbrev s_first_free : Stmt := top 50
theorem sc_first_free : FnScope ["room", "wide", "first"] ["room", "wide"] (fnScope s_first_free) := fnScope_by (by decide +kernel)
theorem ok_first_free {f : Addr} {fd : FuncData} (F : Def K mg "first_free" s_first_free f fd) (b : Binds K fd ["room", "wide"] []) (T : Txt K mg) (c_is_free : Cal P w K mg base 1 "is_free" (spIsFree Z) []) : Cal P w K mg base 2 "first_free" (spFirstFree Z) [] := by
  refine cal0 F b .nil sc_first_free (fun vs H Q E h => ?_) (fun cdv A outer s H vs Q E hr h => ?_)
  · obtain ⟨R, pf, bR, wd, rs, f0, rfl, _⟩ := h
    rfl
  · obtain ⟨R, pf, bR, wd, rs, f0, rfl, e0, ht, hl, hw, w0, hf0, hy, hn, q⟩ := h
    have nd := sc_first_free.nd
    refine ⟨_, (pss_cons (ps_for PassesOwn.never rfl (pi_range1 rfl T.n_range (pa_cons (pe_op op_add (pe_op op_sub (pe_fld (pv 0) rfl) (pv 1)) pe_int) pa_nil)) (pg_name (i := 2) nd rfl (by first | exact Or.inl rfl | exact Or.inr rfl))
      (pss_one (ps_if (pt_val (pe_c c_is_free hr (by first | decide | omega) (by rfl) (pa_cons (pv 2) (pa_cons (pv 1) (pa_cons (pe_fld (pv 0) rfl) pa_nil)))))
      (pss_one (ps_ret (pv 2)))
      pss_nil)))
      (pss_one ps_never)), ?_⟩
    walk_at "b"
    refine Y.s_fld ?_
    walk_at "s"
    refine Y.s_fldI e0 Z.r.cls (Z.r.at_ 3 rfl) rfl ?_
    walk_at "s"
    refine Y.s_forR (by omega) (by omega) (fun i σ H' => Same H H' ∧ i ≤ f0 ∧ ∃ v, σ = [some (.ref R.pm), some (.int wd), v]) ⟨Same.refl _, Nat.zero_le _, _, rfl⟩ ?_ ?_
    · rintro i σ H1 hi ⟨s1, hi0, v, rfl⟩
      have e1 := s1 _ _ e0
      walk_at "s"
      refine Y.s_fld ?_
      walk_at "s"
      refine Y.s_fldI e1 Z.r.cls (Z.r.at_ 4 rfl) rfl ?_
      walk_at "s"
      refine u_isfree (ht.same s1) hl fun H2 s2 => ?_
      have sz : (0 : Int) + (i : Nat) = ((i : Nat) : Int) := by omega
      rw [sz]
      by_cases hif : i = f0
      · rw [hif, hy]
        walk_at "s"
        exact q _ (s1.trans s2)
      · rw [hn i (by omega)]
        walk_at "s"
        exact ⟨s1.trans s2, by omega, _, rfl⟩
    · rintro σ H1 ⟨s1, hi0, v, rfl⟩
      exfalso
      omega
abbrev s_take_room : Stmt := top 49
theorem sc_take_room : FnScope ["room", "things", "first", "taken"] ["room", "things"] (fnScope s_take_room) := fnScope_by (by decide +kernel)
theorem ok_take_room {f : Addr} {fd : FuncData} (F : Def K mg "take_room" s_take_room f fd) (b : Binds K fd ["room", "things"] []) (T : Txt K mg) (c_first_free : Cal P w K mg base 2 "first_free" (spFirstFree Z) []) (m_Room : Mak P w K mg base 1 "Room" Z.CR (spRoomInit Z) []) (m_Room_put2 : Met P w K mg base 7 Z.CR "put_things" (spPut2 Z) []) : Cal P w K mg base 8 "take_room" (spTakeRoom Z) [] := by
  have m_Room_put_things := m_Room_put2
  refine cal0 F b .nil sc_take_room (fun vs H Q E h => ?_) (fun cdv A outer s H vs Q E hr h => ?_)
  · obtain ⟨R, Rs, pf, p, bb, F, ts, rs, s, f0, rfl, _⟩ := h
    rfl
  · obtain ⟨R, Rs, pf, p, bb, Fl, ts, rs, st, f0, rfl, hRs, hd, hs, hf, lF, lt, hw, hp, ht, lrs, hf0, hy, hn, npfR, npR2, q⟩ := h
    have nd := sc_take_room.nd
    have e0 := hd.get (.head _)
    refine ⟨_, (pss_cons (ps_set (i := 2) nd rfl (by first | exact Or.inl rfl | exact Or.inr rfl) (pe_c c_first_free hr (by first | decide | omega) (by rfl) (pa_cons (pv 0) (pa_cons (pe_callB Y.cl_len (by rfl) T.n_len PySem.boot_len (pa_cons (pv 1) pa_nil)) pa_nil))))
      (pss_cons (ps_set (i := 3) nd rfl (by first | exact Or.inl rfl | exact Or.inr rfl) (pe_mk m_Room hr (by first | decide | omega) (by rfl) (pa_cons (pe_fld (pv 0) rfl) (pa_cons (pv 0) (pa_cons (pv 2) (pa_cons (pe_callB Y.cl_len (by rfl) T.n_len PySem.boot_len (pa_cons (pv 1) pa_nil)) pa_nil))))))
      (pss_cons (ps_expr (pe_bm PySem.F.plainAttrs_list PySem.F.slot_list_append PySem.F.type_list_append mt_append (pe_fld (pv 0) rfl) (pa_cons (pv 3) pa_nil)))
      (pss_cons (ps_expr (pe_mt m_Room_put_things hr (by first | decide | omega) (pv 3) (pa_cons pe_int (pa_cons (pv 1) pa_nil))))
      (pss_one (ps_ret (pv 3))))))), ?_⟩
    walk_at "b"
    refine s_lenB hp ?_
    walk_at "s"
    rw [List.length_map]
    refine ⟨R, pf, below Rs, _, rs, f0, rfl, e0, ht, by omega, by omega, by omega, hf0, hy, hn, fun H1 s1 => ?_⟩
    walk_at "s"
    refine s_make ?_
    have e1 := s1 _ _ e0
    refine Y.s_cons ?_
    refine Y.s_fld ?_
    walk_at "s"
    refine Y.s_fldI e1 Z.r.cls (Z.r.at_ 0 rfl) rfl ?_
    walk_at "s"
    refine s_lenB (b := bb) (s1 _ _ hp) ?_
    walk_at "s"
    rw [List.length_map]
    intro x dx hx hdx hne
    have sm : Same H1 (upd (upd H1 dx (.own x)) x (.ins Z.CR dx [])) := fun c u hc => by rw [upd_ne (ne_of_none hc hx), upd_ne (ne_of_none hc hdx)]; exact hc
    have s1x := s1.trans sm
    refine ⟨x, dx, pf, .ref R.pm, f0, (ts.length : Nat), rfl, upd_same, fun pt H2 f2 npt ept ex => ⟨rfl, ?_⟩⟩
    have hx0 : H x = none := noneS s1 hx
    have nx : ∀ {p : Addr} {o : HO}, H p = some o → p ≠ x := fun h => ne_of_none h hx0
    have k2 : ∀ {p : Addr} {o : HO}, H p = some o → H2 p = some o := fun h => f2 _ _ (fun m => nx h (List.mem_singleton.mp m)) (s1x _ _ h)
    have npt0 : H pt = none := noneS s1x npt
    have nxt : x ≠ pt := fun z => by rw [← z, upd_same] at npt; cases npt
    walk_at "s"
    refine s_bm ?_
    refine Y.s_fld ?_
    walk_at "s"
    refine Y.s_fldI (k2 e0) Z.r.cls (Z.r.at_ 4 rfl) rfl ?_
    have eR := k2 ht.1
    refine s_bmL (SqL.of eR) ?_
    walk_at "s"
    refine s_append eR (by rw [List.length_map]; omega) ?_
    walk_at "s"
    refine Y.s_meth ?_
    walk_at "s"
    have nR := nx ht.1
    have npR := ne_of_none ht.1 npt0
    have e3 : ∀ {o : HO}, upd H2 R.pt o x = some (.ins Z.CR dx [("floor", .ref pf), ("beneath", .ref R.pm), ("first", .int f0), ("wide", .int (ts.length : Nat)), ("taken", .ref pt)]) := (upd_ne nR.symm).trans ex
    refine Y.s_methI e3 rfl ?_
    walk_at "s"
    refine ⟨⟨x, dx, f0, (ts.length : Nat), pt⟩, R :: Rs, pf, p, 0, st + f0, bb, Fl, ts, rfl, by show Rs.length + 1 < 5; omega, ?_, ?_, (upd_ne npfR).trans (k2 hf), lF, lt, by omega, (upd_ne npR2).trans (k2 hp), fun H4 f4 e4 => ?_⟩
    · intro y hy2
      rcases List.mem_cons.mp hy2 with rfl | hy2
      · exact e3
      · have h1 := hd y hy2
        refine (upd_ne (fun z => ?_)).trans (k2 h1)
        have h2 := rm_ins Z.CR pf (R :: Rs) y hy2
        obtain ⟨dy, fs, ey⟩ := h2
        rw [z, ht.1, ey] at h1
        cases h1
    · show startOf (R :: Rs) + (f0 : Int) = _
      rw [hs]
      omega
    walk_at "s"
    have np1 : x ≠ pf := (nx hf).symm
    have np2 : pt ≠ pf := (ne_of_none hf npt0).symm
    have g4 : ∀ {p : Addr} {o : HO}, p ≠ pf → upd H2 R.pt (.lst (rs.map (fun r => V.ref r.pm) ++ [.ref x])) p = some o → H4 p = some o := fun n h => f4 _ _ (fun m => n (List.mem_singleton.mp m)) h
    refine q ⟨x, dx, f0, (ts.length : Nat), pt⟩ H4 ?_ hx0 npt0 nxt rfl rfl (g4 np1 e3) (g4 np2 ((upd_ne npR.symm).trans ept)) ?_ e4
    · intro c u hc e
      refine g4 (fun z => hc (by rw [z]; exact .head _)) ((upd_ne (fun z => hc (by rw [z]; exact .tail _ (.head _)))).trans (k2 e))
    · rw [List.map_append]
      exact g4 npfR.symm upd_same
end
end G
end
section
/-! ### o.f as a target within a tuple of targets -/
namespace Y
open PySem PySem.Spec PyProof.Rows L2
def gFld (K : PySem.W.Frag) (ta : TE) (f : Str) : TG := fun y σ H Q => ta σ H (SetR K f y fun H' => Q σ H')
theorem pg_fld {X : Cx} {o : Expr} {f : Str} {pos : Pos} {ta : TE} (ho : PE X o ta) : PG X (.Attribute o f pos) (gFld X.K ta f) := by
  refine ⟨fun pins s σ H y u Q I r h => ?_⟩
  rw [arm_assign_Attribute]
  refine wpAny_bind (wpAny_holding (thn (ho.run pins s σ H _ I h) fun ov s1 ⟨x, H1, I1, r1, a, C, dx, fs, ex, ea, c, n, l, q⟩ => ?_))
  subst ex
  obtain rfl : ov = Value.ref a := r1
  refine wpAny_bind (wpAny_standAt ?_)
  refine wpAny_bind (wpAny_holding (setattr_ok I1 ea c n l r fun s3 I3 => ?_))
  exact wpAny_release ⟨σ, _, I3, q⟩
theorem s_gFld {K : PySem.W.Frag} {ta : TE} {f : Str} {y : V} {σ : L2.St} {H : Hp} {Q : L2.St → Hp → Prop} (q : ta σ H (SetR K f y fun H' => Q σ H')) : gFld K ta f y σ H Q := q
end Y
end
section
namespace Y
open PySem L2 C8
def rLenD : List V → Hp → VK → Prop := fun xs H Q => ∃ a kvs, xs = [V.ref a] ∧ H a = some (.dK kvs) ∧ Q (.int kvs.length) H
theorem cl_lenD {X : Cx} : CallR X (.builtin "len") rLenD := call_lenD
theorem s_lenD {H : Hp} {Q : VK} {p : Addr} {kvs : List (Key × V)} (h : H p = some (.dK kvs)) (q : Q (.int kvs.length) H) : rLenD [.ref p] H Q := ⟨p, kvs, rfl, h, q⟩
section
variable {σ : L2.St} {H : Hp} {Q : VK} {v : V} {td ty tv : TE} {D : Ends} {p : Addr} {kvs : List (Key × V)} {n : Int}
def DpI (v : V) (q : Hp → Prop) : V → V → Hp → Prop := fun x y H3 => ∃ a H4, x = .ref a ∧ DPut H3 a y v H4 ∧ q H4
theorem s_dputJ (q : tv σ H fun v H1 => td σ H1 fun x H2 => ty σ H2 fun y H3 => DpI v (D.nx σ) x y H3) : sDPut td ty tv D σ H := q
theorem s_dputI {new : List (Key × V)} {q : Hp → Prop} (h : H p = some (.dK kvs)) (hl : Nat.ble kvs.length 100 = true) (e : putK kvs (Sum.inl n) v = new) (h2 : q (upd H p (.dK new))) : DpI v q (.ref p) (.int n) H :=
  ⟨p, _, rfl, DPut.k (k := Sum.inl n) h (Nat.lt_of_le_of_lt (Nat.le_of_ble_eq_true hl) (by decide)), by rw [e]; exact h2⟩
def DgJ (Q : VK) : V → V → Hp → Prop := fun x y H2 => ∃ a v, x = .ref a ∧ DGet H2 a y (some v) ∧ Q v H2
theorem s_dgetJ (q : td σ H fun x H1 => ty σ H1 fun y H2 => DgJ Q x y H2) : tDGet td ty σ H Q := q
theorem s_dgetK {w : V} (h : H p = some (.dK kvs)) (e : valV kvs (Sum.inl n) = some w) (q : Q w H) : DgJ Q (.ref p) (.int n) H := ⟨p, w, rfl, by rw [← e]; exact DGet.k (k := Sum.inl n) h, q⟩
def DnI (Q : VK) : V → V → Hp → Prop := fun x y H2 => ∃ a o, x = .ref a ∧ DGet H2 a y o ∧ Q (.bl (!o.isSome)) H2
theorem s_dnin (q : ty σ H fun y H1 => td σ H1 fun x H2 => DnI Q x y H2) : tDNotIn ty td σ H Q := q
theorem s_dninI {o : Option V} (h : H p = some (.dK kvs)) (e : valV kvs (Sum.inl n) = o) (q : Q (.bl (!o.isSome)) H) : DnI Q (.ref p) (.int n) H := ⟨p, o, rfl, by rw [← e]; exact DGet.k (k := Sum.inl n) h, q⟩
end
end Y
namespace G
open PySem L2 C8
variable {K : PySem.W.Frag}
def fldU : List Str := ["body", "share", "busy"]
def fldH : List Str := ["ground", "way", "guests", "next_number"]
/-- a host in the heap -/
structure Hs where
  x : Addr
  dx : Addr
  pg : Addr
  pd : Addr
  thr : Bool
  nn : Int
  gs : List (Int × Addr)
def wayS (b : Bool) : Str := if b then "through" else "plain"
def Hs.flds (h : Hs) : List (Str × V) := [("ground", .ref h.pg), ("way", .str (wayS h.thr)), ("guests", .ref h.pd), ("next_number", .int h.nn)]
def Hs.kvs (h : Hs) : List (Key × V) := h.gs.map fun q => ((Sum.inl q.1 : Key), V.ref q.2)
def HsAt (H : Hp) (CH : Addr) (h : Hs) : Prop := H h.x = some (.ins CH h.dx h.flds) ∧ H h.pd = some (.dK h.kvs)
theorem HsAt.same {H H' : Hp} {CH : Addr} {h : Hs} (k : HsAt H CH h) (s : Same H H') : HsAt H' CH h := ⟨s _ _ k.1, s _ _ k.2⟩
theorem HsAt.fr {S : List Addr} {H H' : Hp} {CH : Addr} {h : Hs} (k : HsAt H CH h) (f : FrS S H H') (n1 : h.x ∉ S) (n2 : h.pd ∉ S) : HsAt H' CH h := ⟨f _ _ n1 k.1, f _ _ n2 k.2⟩
def guO (CU dx pb : Addr) (share : Int) (busy : Bool) : HO := .ins CU dx [("body", .ref pb), ("share", .int share), ("busy", .bl busy)]
def grO (CG dx pk pgs : Addr) (rm : V) (hb : Int) : HO := .ins CG dx [("kind", .ref pk), ("room", rm), ("spoken", .ref pgs), ("hosts_beneath", .int hb)]
def Hs.lk (h : Hs) (n : Int) (pu : Addr) : Prop := valV h.kvs (Sum.inl n) = some (.ref pu) ∧ 0 ≤ n ∧ n ≤ h.nn
def spGuestInit (CU : Addr) : Sp := fun vs H Q _ => ∃ (x dx pb : Addr) (s : Int), vs = [.ref x, .ref pb, .int s] ∧ H x = some (.ins CU dx []) ∧ ∀ H', FrS [x] H H' → H' x = some (guO CU dx pb s false) → Q .non H'
def spRoomAlone2 {K : PySem.W.Frag} (Z : Zs K) : Sp := fun vs H Q _ => ∃ (b : Bool) (p : Addr) (xs : List V), vs = [.ref p] ∧ H p = some (LT b xs) ∧ xs.length ≤ 1000 ∧
  ∀ (r : Rm) (pf : Addr) H', Same H H' → H r.pm = none → H pf = none → H r.pt = none → pf ≠ r.pt → r.first = 0 → r.wide = xs.length → H' r.pm = some (.ins Z.CR r.dx (r.flds pf .non)) → H' pf = some (.lst xs) → H' r.pt = some (.lst []) → Q (.ref r.pm) H'
def spGroundInit {K : PySem.W.Frag} (Z : Zs K) : Sp := fun vs H Q _ => ∃ (x dx pk : Addr) (wd : Int) (bs : List Bool), vs = [.ref x, .ref pk, .int wd] ∧ H x = some (.ins Z.CG dx []) ∧ KindAt H pk bs ∧ 16 ≤ wd ∧ wd ≤ 200 ∧
  ∀ (r : Rm) (pf pgs : Addr) H', FrS [x] H H' → H r.pm = none → H pf = none → H r.pt = none → H pgs = none → pf ≠ r.pt → pf ≠ pgs → r.pt ≠ pgs → r.first = 0 → r.wide = wd → H' x = some (grO Z.CG dx pk pgs (.ref r.pm) 0) → H' r.pm = some (.ins Z.CR r.dx (r.flds pf .non)) → H' pf = some (.lst ((List.replicate wd.toNat (Thing.num 0)).map Thing.v)) → H' r.pt = some (.lst []) → H' pgs = some (.lst []) → Q .non H'
def spHostInit (CH : Addr) : Sp := fun vs H Q _ => ∃ (x dx pg : Addr) (thr : Bool), vs = [.ref x, .ref pg, .str (wayS thr)] ∧ H x = some (.ins CH dx []) ∧ ∀ pd H', FrS [x] H H' → H pd = none → HsAt H' CH ⟨x, dx, pg, pd, thr, 0, []⟩ → Q .non H'
def spAnyGuest (CH : Addr) : Sp := fun vs H Q _ => ∃ (h : Hs) (n : Int) (pu : Addr), vs = [.ref h.x, .int n] ∧ HsAt H CH h ∧ h.lk n pu ∧ Q (.ref pu) H
def spIdleGuest (CU CH : Addr) : Sp := fun vs H Q _ => ∃ (h : Hs) (n s : Int) (pu udx pb : Addr), vs = [.ref h.x, .int n] ∧ HsAt H CH h ∧ h.lk n pu ∧ H pu = some (guO CU udx pb s false) ∧ Q (.ref pu) H
def spHostGo {K : PySem.W.Frag} (Z : Zs K) (CU CH : Addr) : Sp := fun vs H Q _ => ∃ (h : Hs) (n s : Int) (pu udx : Addr) (A : Adr) (m : Mc) (k : Int), vs = [.ref h.x, .int n, .int k] ∧ HsAt H CH h ∧ h.lk n pu ∧ H pu = some (guO CU udx A.pb s false) ∧ BodyAt Z H A m ∧ 0 ≤ k ∧ k ≤ 400 ∧ m.said.length + k.toNat ≤ 90000 ∧ m.gsaid.length + k.toNat ≤ 90000 ∧
  ∀ H', FrS A.own H H' → BodyAt Z H' A (m.goes A k.toNat).1 → Q (.int ((m.goes A k.toNat).2 : Nat)) H'
def spHostCarried {K : PySem.W.Frag} (Z : Zs K) (CU CH : Addr) : Sp := fun vs H Q _ => ∃ (h : Hs) (n s : Int) (pu udx : Addr) (A : Adr) (m : Mc), vs = [.ref h.x, .int n] ∧ HsAt H CH h ∧ h.lk n pu ∧ H pu = some (guO CU udx A.pb s false) ∧ BodyAt Z H A m ∧ ∀ t H', Same H H' → H t = none → (BundleAt K) H' t m → Q (.ref t) H'
section
variable {P : Program} {w : World} {K : PySem.W.Frag} {mg : Str → Option Value} {base : Heap} {Z : Zs K} {CU CH : Addr}
abbrev s_Guest___init__ : Stmt := inClass (top 61) 0
theorem sc_Guest___init__ : FnScope ["self", "body", "share"] ["self", "body", "share"] (fnScope s_Guest___init__) := fnScope_by (by decide +kernel)
theorem ok_Guest_init {f : Addr} {fd : FuncData} (cu : Cz K CU fldU) (M : Mk K CU f) (hm : mg "Guest" = some (.ref CU)) (F : C8.Fun K "__init__" "Guest.__init__" s_Guest___init__ f fd) (b : Binds K fd ["self", "body", "share"] []) (T : Txt K mg) : Mak P w K mg base 1 "Guest" CU (spGuestInit CU) [] := by
  refine mak0 M hm F b .nil sc_Guest___init__ (fun vs H Q E h => ?_) (fun cdv A outer s H vs Q E hr h => ?_)
  · obtain ⟨x, dx, pb, s, rfl, _⟩ := h
    rfl
  · obtain ⟨x, dx, pb, s, rfl, hx, q⟩ := h
    have nd := sc_Guest___init__.nd
    refine ⟨_, (pss_cons (ps_fld (pv 0) (pv 1) rfl)
      (pss_cons (ps_fld (pv 0) (pv 2) rfl)
      (pss_one (ps_fld (pv 0) pe_bl rfl)))), ?_⟩
    walk_at "b"
    refine Y.s_setF ?_
    walk_at "s"
    refine Y.s_setFI hx cu.cls (cu.at_ 0 rfl) (by decide) ?_
    walk_at "s"
    refine Y.s_setF ?_
    walk_at "s"
    refine Y.s_setFI upd_same cu.cls (cu.at_ 1 rfl) (by show 1 < 1000; decide) ?_
    walk_at "s"
    refine Y.s_setF ?_
    walk_at "s"
    refine Y.s_setFI upd_same cu.cls (cu.at_ 2 rfl) (by show 2 < 1000; decide) ?_
    walk_at "s"
    exact q _ (((FrS.refl.upd (.head _)).upd (.head _)).upd (.head _)) upd_same
theorem ok_room_alone2 {f : Addr} {fd : FuncData} (F : Def K mg "room_alone" s_room_alone f fd) (b : Binds K fd ["things"] []) (T : Txt K mg) (m_Room : Mak P w K mg base 1 "Room" Z.CR (spRoomInit Z) []) : Cal P w K mg base 3 "room_alone" (spRoomAlone2 Z) [] := by
  refine cal0 F b .nil sc_room_alone (fun vs H Q E h => ?_) (fun cdv A outer s H vs Q E hr h => ?_)
  · obtain ⟨b, p, xs, rfl, _⟩ := h
    rfl
  · obtain ⟨b, p, xs, rfl, hp, hl, q⟩ := h
    have nd := sc_room_alone.nd
    refine ⟨_, (pss_one (ps_ret (pe_mk m_Room hr (by first | decide | omega) (by rfl) (pa_cons (pe_callTy Y.cl_list (by rfl) T.n_list (by decide +kernel) (pa_cons (pv 0) pa_nil)) (pa_cons pe_non (pa_cons pe_int (pa_cons (pe_callB Y.cl_len (by rfl) T.n_len PySem.boot_len (pa_cons (pv 0) pa_nil)) pa_nil))))))), ?_⟩
    walk_at "b"
    refine s_make ?_
    walk_at "s"
    refine s_listB hp fun pf hpf => ?_
    have npf : p ≠ pf := ne_of_none hp hpf
    walk_at "s"
    refine s_lenB (b := b) (xs := xs) (by rw [upd_ne npf]; exact hp) ?_
    walk_at "s"
    intro x dx hx hdx hne
    have sf : Same H (upd H pf (.lst xs)) := Y.same_new hpf (Same.refl H)
    have sx : Same (upd H pf (.lst xs)) (upd (upd (upd H pf (.lst xs)) dx (.own x)) x (.ins Z.CR dx [])) := fun c u hc => by rw [upd_ne (ne_of_none hc hx), upd_ne (ne_of_none hc hdx)]; exact hc
    have ef : upd H pf (.lst xs) pf = some (.lst xs) := upd_same
    refine ⟨x, dx, pf, .non, 0, (xs.length : Nat), rfl, upd_same, fun pt H' f1 npt e1 e2 => ⟨rfl, ?_⟩⟩
    have k : ∀ {p : Addr} {o : HO}, upd H pf (.lst xs) p = some o → H' p = some o := fun h => f1 _ _ (fun m => ne_of_none h hx (List.mem_singleton.mp m)) (sx _ _ h)
    walk_at "s"
    exact q ⟨x, dx, 0, (xs.length : Nat), pt⟩ pf H' (fun c u hc => k (sf _ _ hc)) (noneS sf hx) hpf (noneS sf (noneS sx npt)) (ne_of_none ef (noneS sx npt)) rfl rfl e2 (k ef) e1
abbrev s_Ground___init__ : Stmt := inClass (top 55) 0
theorem sc_Ground___init__ : FnScope ["self", "kind", "wide"] ["self", "kind", "wide"] (fnScope s_Ground___init__) := fnScope_by (by decide +kernel)
theorem ok_Ground_init {f : Addr} {fd : FuncData} (M : Mk K Z.CG f) (hm : mg "Ground" = some (.ref Z.CG)) (F : C8.Fun K "__init__" "Ground.__init__" s_Ground___init__ f fd) (b : Binds K fd ["self", "kind", "wide"] []) (T : Txt K mg) (v_FEWEST_CELLS_ground : IntG mg "FEWEST_CELLS_ground" 16) (v_MOST_CELLS_ground : IntG mg "MOST_CELLS_ground" 200) (c_check_kind : Cal P w K mg base 1 "check_kind" spCheckKind []) (c_check_count : Cal P w K mg base 2 "check_count" spCheckCount []) (c_room_alone2 : Cal P w K mg base 3 "room_alone" (spRoomAlone2 Z) []) : Mak P w K mg base 4 "Ground" Z.CG (spGroundInit Z) [] := by
  have c_room_alone := c_room_alone2
  refine mak0 M hm F b .nil sc_Ground___init__ (fun vs H Q E h => ?_) (fun cdv A outer s H vs Q E hr h => ?_)
  · obtain ⟨x, dx, pk, wd, bs, rfl, _⟩ := h
    rfl
  · obtain ⟨x, dx, pk, wd, bs, rfl, hx, hk, w0, w1, q⟩ := h
    have nd := sc_Ground___init__.nd
    refine ⟨_, (pss_cons (ps_expr (pe_c c_check_kind hr (by first | decide | omega) (by rfl) (pa_cons (pv 1) pa_nil)))
      (pss_cons (ps_expr (pe_c c_check_count hr (by first | decide | omega) (by rfl) (pa_cons (pv 2) (pa_cons (pe_gc (by rfl) v_FEWEST_CELLS_ground) (pa_cons (pe_gc (by rfl) v_MOST_CELLS_ground) pa_nil)))))
      (pss_cons (ps_fld (pv 0) (pv 1) rfl)
      (pss_cons (ps_fld (pv 0) (pe_c c_room_alone hr (by first | decide | omega) (by rfl) (pa_cons (pe_op op_rep (pe_lst (pa_cons pe_int pa_nil)) (pv 2)) pa_nil)) rfl)
      (pss_cons (ps_fld (pv 0) (pe_lst pa_nil) rfl)
      (pss_one (ps_fld (pv 0) pe_int rfl))))))), ?_⟩
    walk_at "b"
    refine u_ckind hk fun H1 s1 => ?_
    walk_at "s"
    refine u_ccount w0 w1 ?_
    walk_at "s"
    refine Y.s_setF ?_
    walk_at "s"
    have step : ∀ (Ha Hb : Hp) (fs : List (Str × V)) (f : Str) (v : V) (i : Nat) (q1 : Hp → Prop), fldG[i]? = some f → fs.length < 1000 → FrS [x] Ha Hb → Hb x = some (.ins Z.CG dx fs) → (∀ H2, FrS [x] Hb H2 → FrS [x] Ha H2 → H2 x = some (.ins Z.CG dx (putF f v fs)) → q1 H2) → Y.SetR K f v q1 (.ref x) Hb := fun Ha Hb fs f v i q1 hi hl f1 e1 h => by
      refine Y.s_setFI e1 Z.g.cls (Z.g.at_ i hi) hl (h _ (FrS.refl.upd (.head _)) (f1.upd (.head _)) upd_same)
    have f1 : FrS [x] H H1 := FrS.refl.same s1
    refine step H _ _ _ _ 0 _ rfl (by decide) f1 (s1 _ _ hx) fun H2 _ f2 e2 => ?_
    walk_at "s"
    refine Y.s_setF ?_
    walk_at "s"
    refine Y.s_new rfl fun l0 hl0 => ?_
    walk_at "s"
    refine Y.s_rep (xs := [.int 0]) upd_same (by omega) (by omega) (Nat.le_trans (m := 1000) (by show 1 * wd.toNat ≤ 1000; omega) (by decide)) fun l1 hl1 => ?_
    have er : (List.replicate wd.toNat [V.int 0]).flatten = (List.replicate wd.toNat (Thing.num 0)).map Thing.v := by
      generalize wd.toNat = n
      induction n with
      | zero => rfl
      | succ n ih => rw [List.replicate_succ, List.replicate_succ, List.flatten_cons, ih]; rfl
    rw [er]
    have f3 : FrS [x] H (upd (upd H2 l0 (.lst [.int 0])) l1 (.lst ((List.replicate wd.toNat (Thing.num 0)).map Thing.v))) := (f2.new hl0).new hl1
    have n0 : x ≠ l0 := ne_of_none e2 hl0
    have e20 : upd H2 l0 (.lst [.int 0]) x = some (.ins Z.CG dx (putF "kind" (.ref pk) [])) := (upd_ne n0).trans e2
    have n1 : x ≠ l1 := ne_of_none e20 hl1
    have e3 : upd (upd H2 l0 (.lst [.int 0])) l1 (.lst ((List.replicate wd.toNat (Thing.num 0)).map Thing.v)) x = some (.ins Z.CG dx (putF "kind" (.ref pk) [])) := (upd_ne n1).trans e20
    have g3 : upd (upd H2 l0 (.lst [.int 0])) l1 (.lst ((List.replicate wd.toNat (Thing.num 0)).map Thing.v)) l1 = some (.lst ((List.replicate wd.toNat (Thing.num 0)).map Thing.v)) := upd_same
    generalize upd (upd H2 l0 (.lst [.int 0])) l1 (.lst ((List.replicate wd.toNat (Thing.num 0)).map Thing.v)) = H3 at f3 e3 g3 ⊢
    walk_at "s"
    refine ⟨true, l1, _, rfl, g3, by rw [List.length_map, List.length_replicate]; omega, fun r pf H4 s4 z1 z2 z3 n3 h0 hw eR eF eT => ?_⟩
    have e4 := s4 _ _ e3
    walk_at "s"
    have fr : ∀ {p : Addr}, p ≠ x → H3 p = none → H p = none := fun {p} n h => by
      cases e : H p with
      | none => rfl
      | some o => rw [f3 p o (fun m => n (List.mem_singleton.mp m)) e] at h; cases h
    have nx : ∀ {p : Addr}, H3 p = none → p ≠ x := fun h z => by rw [z, e3] at h; cases h
    refine step H _ _ _ _ 1 _ rfl (by show 1 < 1000; decide) (f3.same s4) e4 fun H5 g5 f5 e5 => ?_
    have k5 : ∀ {p : Addr} {o : HO}, p ≠ x → H4 p = some o → H5 p = some o := fun n h => g5 _ _ (fun m => n (List.mem_singleton.mp m)) h
    have eR5 := k5 (nx z1) eR
    have eF5 := k5 (nx z2) eF
    have eT5 := k5 (nx z3) eT
    walk_at "s"
    refine Y.s_setF ?_
    walk_at "s"
    refine Y.s_new rfl fun pgs hpgs => ?_
    walk_at "s"
    have nxs : x ≠ pgs := ne_of_none e5 hpgs
    have zs : H pgs = none := by
      cases e : H pgs with
      | none => rfl
      | some o => rw [f5 pgs o (fun m => nxs (List.mem_singleton.mp m).symm) e] at hpgs; cases hpgs
    have nFs := ne_of_none eF5 hpgs
    have nTs := ne_of_none eT5 hpgs
    have nRs := ne_of_none eR5 hpgs
    refine step H _ _ _ _ 2 _ rfl (by show 2 < 1000; decide) (f5.new hpgs) ((upd_ne nxs).trans e5) fun H6 g6 f6 e6 => ?_
    have k6 : ∀ {p : Addr} {o : HO}, p ≠ x → upd H5 pgs (.lst []) p = some o → H6 p = some o := fun n h => g6 _ _ (fun m => n (List.mem_singleton.mp m)) h
    walk_at "s"
    refine Y.s_setF ?_
    walk_at "s"
    refine step H _ _ _ _ 3 _ rfl (by show 3 < 1000; decide) f6 e6 fun H7 g7 f7 e7 => ?_
    have k7 : ∀ {p : Addr} {o : HO}, p ≠ x → upd H5 pgs (.lst []) p = some o → H7 p = some o := fun n h => g7 _ _ (fun m => n (List.mem_singleton.mp m)) (k6 n h)
    walk_at "s"
    exact q r pf pgs H7 f7 (fr (nx z1) z1) (fr (nx z2) z2) (fr (nx z3) z3) zs n3 nFs nTs h0 (by rw [hw, List.length_map, List.length_replicate]; omega) e7 (k7 (nx z1) ((upd_ne nRs).trans eR5)) (k7 (nx z2) ((upd_ne nFs).trans eF5)) (k7 (nx z3) ((upd_ne nTs).trans eT5)) (k7 nxs.symm upd_same)
abbrev s_Host___init__ : Stmt := inClass (top 110) 0
theorem sc_Host___init__ : FnScope ["self", "ground", "way"] ["self", "ground", "way"] (fnScope s_Host___init__) := fnScope_by (by decide +kernel)
theorem ok_Host_init {f : Addr} {fd : FuncData} (ch : Cz K CH fldH) (M : Mk K CH f) (hm : mg "Host" = some (.ref CH)) (F : C8.Fun K "__init__" "Host.__init__" s_Host___init__ f fd) (b : Binds K fd ["self", "ground", "way"] []) (T : Txt K mg) (c_check_way : Cal P w K mg base 1 "check_way" spCheckWay []) : Mak P w K mg base 2 "Host" CH (spHostInit CH) [] := by
  refine mak0 M hm F b .nil sc_Host___init__ (fun vs H Q E h => ?_) (fun cdv A outer s H vs Q E hr h => ?_)
  · obtain ⟨x, dx, pg, thr, rfl, _⟩ := h
    rfl
  · obtain ⟨x, dx, pg, thr, rfl, hx, q⟩ := h
    have nd := sc_Host___init__.nd
    refine ⟨_, (pss_cons (ps_expr (pe_c c_check_way hr (by first | decide | omega) (by rfl) (pa_cons (pv 2) pa_nil)))
      (pss_cons (ps_fld (pv 0) (pv 1) rfl)
      (pss_cons (ps_fld (pv 0) (pv 2) rfl)
      (pss_cons (ps_fld (pv 0) pe_dnewK rfl)
      (pss_one (ps_fld (pv 0) pe_int rfl)))))), ?_⟩
    walk_at "b"
    refine u_cway (by cases thr; exact .inl rfl; exact .inr rfl) fun H1 s1 => ?_
    walk_at "s"
    refine Y.s_setF ?_
    walk_at "s"
    refine Y.s_setFI (s1 _ _ hx) ch.cls (ch.at_ 0 rfl) (by decide) ?_
    walk_at "s"
    refine Y.s_setF ?_
    walk_at "s"
    refine Y.s_setFI upd_same ch.cls (ch.at_ 1 rfl) (by show 1 < 1000; decide) ?_
    walk_at "s"
    refine Y.s_setF ?_
    walk_at "s"
    intro pd hpd
    have n1 : x ≠ pd := ne_of_none upd_same hpd
    walk_at "s"
    refine Y.s_setFI ((upd_ne n1).trans upd_same) ch.cls (ch.at_ 2 rfl) (by show 2 < 1000; decide) ?_
    walk_at "s"
    refine Y.s_setF ?_
    walk_at "s"
    refine Y.s_setFI upd_same ch.cls (ch.at_ 3 rfl) (by show 3 < 1000; decide) ?_
    walk_at "s"
    have z : H pd = none := by
      have h := hpd
      rw [upd_ne n1.symm, upd_ne n1.symm] at h
      exact noneS s1 h
    exact q pd _ (((((FrS.refl.same s1).upd (.head _)).upd (.head _)).new hpd |>.upd (.head _)).upd (.head _)) z ⟨upd_same, (upd_ne n1.symm).trans ((upd_ne n1.symm).trans upd_same)⟩
end
end G
end
section
namespace G
open PySem L2 C8
variable {K : PySem.W.Frag}
theorem u_isnumT {H : Hp} {Q : VK} {E : XK} {n lo hi : Int} (h0 : lo ≤ n) (h1 : n ≤ hi) (q : Q (.bl true) H) : (spIsNumber K) ([.int n, .int lo, .int hi] ++ []) H Q E := u_isnum (b := true) (.inl ⟨n, rfl, (decide_eq_true ⟨h0, h1⟩).symm⟩) q
section
variable {P : Program} {w : World} {K : PySem.W.Frag} {mg : Str → Option Value} {base : Heap} {Z : Zs K} {CU CH : Addr}
abbrev s_Host_any_guest : Stmt := inClass (top 110) 13
theorem sc_Host_any_guest : FnScope ["self", "number"] ["self", "number"] (fnScope s_Host_any_guest) := fnScope_by (by decide +kernel)
theorem ok_Host_any_guest {f : Addr} {fd : FuncData} (ch : Cz K CH fldH) (me : Meth K CH "any_guest" f) (F : C8.Fun K "any_guest" "Host.any_guest" s_Host_any_guest f fd) (b : Binds K fd ["self", "number"] []) (T : Txt K mg) (c_is_number : Cal P w K mg base 1 "is_number" (spIsNumber K) []) : Met P w K mg base 2 CH "any_guest" (spAnyGuest CH) [] := by
  refine met0 ch.cls me F b sc_Host_any_guest (fun vs H Q E h => ?_) (fun cdv A outer s H vs Q E hr h => ?_)
  · obtain ⟨h, n, pu, rfl, _⟩ := h
    rfl
  · obtain ⟨h, n, pu, rfl, ⟨e0, ed⟩, ⟨ev, n0, n1⟩, q⟩ := h
    have nd := sc_Host_any_guest.nd
    have hu := hu_of hr
    refine ⟨_, (pss_cons (ps_if (PW.pt (pw_or (pt_not (pt_val (pe_c c_is_number hr (by first | decide | omega) (by rfl) (pa_cons (pv 1) (pa_cons pe_int (pa_cons (pe_fld (pv 0) rfl) pa_nil)))))) (pw_or1 (pt_cmp (pc_dnotin hu (pv 1) (pe_fld (pv 0) rfl))))))
      (pss_one ps_never)
      pss_nil)
      (pss_one (ps_ret (pe_dget hu (pe_fld (pv 0) rfl) (pv 1) (fun _ _ => rfl))))), ?_⟩
    walk_at "b"
    refine Y.s_fld ?_
    walk_at "s"
    refine Y.s_fldI e0 ch.cls (ch.at_ 3 rfl) rfl ?_
    walk_at "s"
    refine u_isnumT n0 n1 ?_
    walk_at "s"
    refine Y.s_dnin ?_
    walk_at "s"
    refine Y.s_fld ?_
    walk_at "s"
    refine Y.s_fldI e0 ch.cls (ch.at_ 2 rfl) rfl ?_
    refine Y.s_dninI ed ev ?_
    walk_at "s"
    refine Y.s_NT ?_
    walk_at "s"
    refine Y.s_fld ?_
    walk_at "s"
    refine Y.s_fldI e0 ch.cls (ch.at_ 2 rfl) rfl ?_
    walk_at "s"
    refine Y.s_dgetK ed ev ?_
    walk_at "s"
    exact q
abbrev s_Host_idle_guest : Stmt := inClass (top 110) 14
theorem sc_Host_idle_guest : FnScope ["self", "number", "guest"] ["self", "number"] (fnScope s_Host_idle_guest) := fnScope_by (by decide +kernel)
theorem ok_Host_idle_guest {f : Addr} {fd : FuncData} (cu : Cz K CU fldU) (ch : Cz K CH fldH) (me : Meth K CH "idle_guest" f) (F : C8.Fun K "idle_guest" "Host.idle_guest" s_Host_idle_guest f fd) (b : Binds K fd ["self", "number"] []) (T : Txt K mg) (m_Host_any_guest : Met P w K mg base 2 CH "any_guest" (spAnyGuest CH) []) : Met P w K mg base 3 CH "idle_guest" (spIdleGuest CU CH) [] := by
  refine met0 ch.cls me F b sc_Host_idle_guest (fun vs H Q E h => ?_) (fun cdv A outer s H vs Q E hr h => ?_)
  · obtain ⟨h, n, s, pu, udx, pb, rfl, _⟩ := h
    rfl
  · obtain ⟨h, n, s, pu, udx, pb, rfl, hs, lk, eu, q⟩ := h
    have nd := sc_Host_idle_guest.nd
    refine ⟨_, (pss_cons (ps_set (i := 2) nd rfl (by first | exact Or.inl rfl | exact Or.inr rfl) (pe_mt m_Host_any_guest hr (by first | decide | omega) (pv 0) (pa_cons (pv 1) pa_nil)))
      (pss_cons (ps_if (pt_val (pe_fld (pv 2) rfl))
      (pss_one ps_never)
      pss_nil)
      (pss_one (ps_ret (pv 2))))), ?_⟩
    walk_at "b"
    refine Y.s_meth ?_
    walk_at "s"
    refine Y.s_methI hs.1 rfl ?_
    walk_at "s"
    refine ⟨h, n, pu, rfl, hs, lk, ?_⟩
    walk_at "s"
    refine Y.s_fld ?_
    walk_at "s"
    refine Y.s_fldI eu cu.cls (cu.at_ 2 rfl) rfl ?_
    walk_at "s"
    exact q
abbrev s_Host_go : Stmt := inClass (top 110) 8
theorem sc_Host_go : FnScope ["self", "number", "many", "guest"] ["self", "number", "many"] (fnScope s_Host_go) := fnScope_by (by decide +kernel)
theorem ok_Host_go {f : Addr} {fd : FuncData} (cu : Cz K CU fldU) (ch : Cz K CH fldH) (me : Meth K CH "go" f) (F : C8.Fun K "go" "Host.go" s_Host_go f fd) (b : Binds K fd ["self", "number", "many"] []) (T : Txt K mg) (c_check_steps : Cal P w K mg base 3 "check_steps" spCheckSteps []) (c_let_go : Cal P w K mg base 14 "let_go" (sp_let_go Z) []) (m_Host_idle_guest : Met P w K mg base 3 CH "idle_guest" (spIdleGuest CU CH) []) : Met P w K mg base 15 CH "go" (spHostGo Z CU CH) [] := by
  refine met0 ch.cls me F b sc_Host_go (fun vs H Q E h => ?_) (fun cdv A outer s H vs Q E hr h => ?_)
  · obtain ⟨h, n, s, pu, udx, A, m, k, rfl, _⟩ := h
    rfl
  · obtain ⟨h, n, s, pu, udx, A, m, k, rfl, hs, lk, eu, kb, k0, k4, l1, l2, q⟩ := h
    have nd := sc_Host_go.nd
    refine ⟨_, (pss_cons (ps_set (i := 3) nd rfl (by first | exact Or.inl rfl | exact Or.inr rfl) (pe_mt m_Host_idle_guest hr (by first | decide | omega) (pv 0) (pa_cons (pv 1) pa_nil)))
      (pss_cons (ps_expr (pe_c c_check_steps hr (by first | decide | omega) (by rfl) (pa_cons (pv 2) pa_nil)))
      (pss_one (ps_ret (pe_c c_let_go hr (by first | decide | omega) (by rfl) (pa_cons (pe_fld (pv 3) rfl) (pa_cons (pv 2) pa_nil))))))), ?_⟩
    walk_at "b"
    refine Y.s_meth ?_
    walk_at "s"
    refine Y.s_methI hs.1 rfl ?_
    walk_at "s"
    refine ⟨h, n, s, pu, udx, A.pb, rfl, hs, lk, eu, ?_⟩
    walk_at "s"
    refine u_csteps k0 k4 ?_
    walk_at "s"
    refine Y.s_fld ?_
    walk_at "s"
    refine Y.s_fldI eu cu.cls (cu.at_ 0 rfl) rfl ?_
    walk_at "s"
    exact u_letgo kb k0 (by omega) l1 l2 q
abbrev s_Host_carried : Stmt := inClass (top 110) 9
theorem sc_Host_carried : FnScope ["self", "number"] ["self", "number"] (fnScope s_Host_carried) := fnScope_by (by decide +kernel)
theorem ok_Host_carried {f : Addr} {fd : FuncData} (cu : Cz K CU fldU) (ch : Cz K CH fldH) (me : Meth K CH "carried" f) (F : C8.Fun K "carried" "Host.carried" s_Host_carried f fd) (b : Binds K fd ["self", "number"] []) (T : Txt K mg) (c_bundled : Cal P w K mg base 8 "bundled" (spBundled Z) []) (m_Host_idle_guest : Met P w K mg base 3 CH "idle_guest" (spIdleGuest CU CH) []) : Met P w K mg base 9 CH "carried" (spHostCarried Z CU CH) [] := by
  refine met0 ch.cls me F b sc_Host_carried (fun vs H Q E h => ?_) (fun cdv A outer s H vs Q E hr h => ?_)
  · obtain ⟨h, n, s, pu, udx, A, m, rfl, _⟩ := h
    rfl
  · obtain ⟨h, n, s, pu, udx, A, m, rfl, hs, lk, eu, kb, q⟩ := h
    have nd := sc_Host_carried.nd
    refine ⟨_, (pss_one (ps_ret (pe_c c_bundled hr (by first | decide | omega) (by rfl) (pa_cons (pe_fld (pe_mt m_Host_idle_guest hr (by first | decide | omega) (pv 0) (pa_cons (pv 1) pa_nil)) rfl) pa_nil)))), ?_⟩
    walk_at "b"
    refine Y.s_fld ?_
    refine Y.s_meth ?_
    walk_at "s"
    refine Y.s_methI hs.1 rfl ?_
    walk_at "s"
    refine ⟨h, n, s, pu, udx, A.pb, rfl, hs, lk, eu, ?_⟩
    refine Y.s_fldI eu cu.cls (cu.at_ 0 rfl) rfl ?_
    walk_at "s"
    exact ⟨A, m, rfl, kb, q⟩
end
end G
end
section
namespace G
open PySem L2 C8
variable {K : PySem.W.Frag}
def Gd.of (pg gdx pgs pk : Addr) (rm : V) (hb : Int) : Gd := ⟨pg, gdx, pgs, .ref pk, rm, hb⟩
/-- what must stand where a guest comes -/
structure ComeAt {K : PySem.W.Frag} (Z : Zs K) (CH : Addr) (H : Hp) (h : Hs) (gdx pk pgs pf : Addr) (hb : Int) (R : Rm) (Rs : List Rm) (rs : List Rm) (bs : List Bool) (F : List Thing) (said : List Int) (st : Nat) : Prop where
  hs : HsAt H CH h
  g6 : h.gs.length < 6
  keys : valV h.kvs (Sum.inl h.nn) = none
  gr : H h.pg = some (grO Z.CG gdx pk pgs (.ref R.pm) hb)
  kd : KindAt H pk bs
  rms : Holds H (rmObjs Z.CR pf (R :: Rs))
  l3 : Rs.length < 4
  sto : startOf (R :: Rs) = (st : Nat)
  fl : H pf = some (.lst (F.map Thing.v))
  ft : (Things K) H F
  f1000 : F.length ≤ 1000
  wd : (st : Int) + R.wide ≤ F.length
  tk : TakenAt H Z.CR pf (.ref R.pm) R.pt rs
  r900 : rs.length ≤ 900
  sd : H pgs = some (.lst (said.map V.int))
  nb : (pf :: pgs :: h.pg :: (R :: Rs).map Rm.pm).Nodup
  nt : R.pt ∉ [pf, pgs]
  hx : h.x ∉ h.pg :: (R :: Rs).map Rm.pm
def spBring {K : PySem.W.Frag} (Z : Zs K) (CU CH : Addr) : Sp := fun vs H Q _ => ∃ (h : Hs) (gdx pk pgs pf p pe : Addr) (hb sh : Int) (R : Rm) (Rs rs : List Rm) (bs : List Bool) (F ts : List Thing) (said ns : List Int) (st f0 : Nat) (b1 b2 : Bool), vs = [.ref h.x, .ref p, .ref pe, .int sh] ∧ ComeAt Z CH H h gdx pk pgs pf hb R Rs rs bs F said st ∧
  H p = some (LT b1 (ts.map Thing.v)) ∧ (Things K) H ts ∧ 16 ≤ ts.length ∧ ts.length ≤ 40 ∧ H pe = some (LT b2 (ns.map V.int)) ∧ (∀ n ∈ ns, Nm n) ∧ ns.length ≤ 20 ∧ p ∉ [pf, R.pt] ∧ pe ∉ [pf, R.pt] ∧ (f0 : Int) + (ts.length : Nat) ≤ R.wide ∧ freeB f0 (ts.length : Nat) rs = true ∧ (∀ f : Nat, f < f0 → freeB f (ts.length : Nat) rs = false) ∧
  ∀ (A : Adr) (pu udx : Addr) H', FrS [h.x, h.pd, pf, R.pt] H H' → (∀ a ∈ [pu, A.pb, A.px, A.ps, A.pe, A.rm.pm, A.rm.pt], H a = none) → [pu, A.pb, A.px, A.ps, A.pe, A.rm.pm, A.rm.pt].Nodup → A.pk = pk → A.bs = bs → A.grd = some (Gd.of h.pg gdx pgs pk (.ref R.pm) hb) → A.thr = h.thr → A.pf = pf → A.rms = R :: Rs → A.rm.first = f0 → A.rm.wide = (ts.length : Nat) → A.pre = F.take (st + f0) → A.post = F.drop (st + f0 + ts.length) →
    HsAt H' CH { h with nn := h.nn + 1, gs := h.gs ++ [(h.nn, pu)] } → H' pu = some (guO CU udx A.pb sh false) → BodyAt Z H' A { Mc.start ts ns with gsaid := said } → H' R.pt = some (.lst ((rs ++ [A.rm]).map fun r => V.ref r.pm)) → H' A.rm.pt = some (.lst []) → Q (.int h.nn) H'
theorem way_is (b : Bool) : decide (wayS b = ("through" : Str)) = b := by cases b <;> decide +kernel
section
variable {P : Program} {w : World} {K : PySem.W.Frag} {mg : Str → Option Value} {base : Heap} {Z : Zs K} {CU CH : Addr}
abbrev s_Host_bring : Stmt := inClass (top 110) 3
theorem sc_Host_bring : FnScope ["self", "cells", "ear", "share", "body", "number"] ["self", "cells", "ear", "share"] (fnScope s_Host_bring) := fnScope_by (by decide +kernel)
theorem ok_Host_bring {f : Addr} {fd : FuncData} (cu : Cz K CU fldU) (ch : Cz K CH fldH) (me : Meth K CH "bring" f) (F : C8.Fun K "bring" "Host.bring" s_Host_bring f fd) (b : Binds K fd ["self", "cells", "ear", "share"] []) (T : Txt K mg) (v_MOST_GUESTS : IntG mg "MOST_GUESTS" 6) (v_THROUGH : StrG mg "THROUGH" "through") (c_take_room : Cal P w K mg base 8 "take_room" (spTakeRoom Z) []) (m_Body : Mak P w K mg base 1 "Body" Z.CB (spBodyInit Z) []) (m_Guest : Mak P w K mg base 1 "Guest" CU (spGuestInit CU) []) : Met P w K mg base 9 CH "bring" (spBring Z CU CH) [] := by
  refine met0 ch.cls me F b sc_Host_bring (fun vs H Q E h => ?_) (fun cdv A outer s H vs Q E hr h => ?_)
  · obtain ⟨h, gdx, pk, pgs, pf, p, pe, hb, sh, R, Rs, rs, bs, F, ts, said, ns, st, f0, b1, b2, rfl, _⟩ := h
    rfl
  · obtain ⟨h, gdx, pk, pgs, pf, p, pe, hb, sh, R, Rs, rs, bs, Fl, ts, said, ns, st, f0, b1, b2, rfl, c, hp, ht, l16, l40, hpe, hn, hl, np, npe, hf0, hy, hno, q⟩ := h
    have nd := sc_Host_bring.nd
    have hu := hu_of hr
    refine ⟨_, (pss_cons (ps_if (pt_cmpR op_eq (pe_callB Y.cl_lenD (by rfl) T.n_len PySem.boot_len (pa_cons (pe_fld (pv 0) rfl) pa_nil)) (pe_gc (by rfl) v_MOST_GUESTS) (nomark _))
      (pss_one ps_never)
      pss_nil)
      (pss_cons (ps_set (i := 4) nd rfl (by first | exact Or.inl rfl | exact Or.inr rfl) (pe_mk m_Body hr (by first | decide | omega) (by rfl) (pa_cons (pe_fld (pe_fld (pv 0) rfl) rfl) (pa_cons (pe_c c_take_room hr (by first | decide | omega) (by rfl) (pa_cons (pe_fld (pe_fld (pv 0) rfl) rfl) (pa_cons (pv 1) pa_nil))) (pa_cons (pv 2) pa_nil)))))
      (pss_cons (ps_fld (pv 4) (pe_fld (pv 0) rfl) rfl)
      (pss_cons (ps_fld (pv 4) (pe_cmpR op_eq (pe_fld (pv 0) rfl) (pe_gc (by rfl) v_THROUGH) (nomark _)) rfl)
      (pss_cons (ps_set (i := 5) nd rfl (by first | exact Or.inl rfl | exact Or.inr rfl) (pe_fld (pv 0) rfl))
      (pss_cons (ps_dput hu (pe_fld (pv 0) rfl) (pv 5) (pe_mk m_Guest hr (by first | decide | omega) (by rfl) (pa_cons (pv 4) (pa_cons (pv 3) pa_nil))) rfl)
      (pss_cons (ps_fldaug (pv 0) pe_int in_add)
      (pss_one (ps_ret (pv 5)))))))))), ?_⟩
    obtain ⟨e0, ed⟩ := c.hs
    have eg := c.gr
    have eR := c.rms.get (.head _)
    have npR : pf ≠ R.pt := fun z => c.nt (by rw [z]; exact .head _)
    walk_at "b"
    refine Y.s_fld ?_
    walk_at "s"
    refine Y.s_fldI e0 ch.cls (ch.at_ 2 rfl) rfl ?_
    walk_at "s"
    refine Y.s_lenD ed ?_
    walk_at "s"
    have l6 : ¬ ((h.kvs.length : Nat) : Int) = 6 := by unfold Hs.kvs; rw [List.length_map]; have := c.g6; omega
    refine Y.s_dF l6 ?_
    walk_at "s"
    refine s_make ?_
    refine Y.s_cons ?_
    refine Y.s_fld ?_
    refine Y.s_fld ?_
    walk_at "s"
    refine Y.s_fldI e0 ch.cls (ch.at_ 0 rfl) rfl ?_
    refine Y.s_fldI eg Z.g.cls (Z.g.at_ 0 rfl) rfl ?_
    walk_at "s"
    refine Y.s_fld ?_
    refine Y.s_fld ?_
    walk_at "s"
    refine Y.s_fldI e0 ch.cls (ch.at_ 0 rfl) rfl ?_
    refine Y.s_fldI eg Z.g.cls (Z.g.at_ 1 rfl) rfl ?_
    walk_at "s"
    refine ⟨R, Rs, pf, p, b1, Fl, ts, rs, st, f0, rfl, c.l3, c.rms, c.sto, c.fl, c.f1000, by omega, c.wd, hp, c.tk, c.r900, hf0, hy, hno, npR, fun z => np (by rw [z]; exact .tail _ (.head _)), fun r H1 f1 zr zt nrt hfi hwi er et eT eF => ?_⟩
    have k1 : ∀ {a : Addr} {o : HO}, a ∉ [pf, R.pt] → H a = some o → H1 a = some o := fun n e => f1 _ _ n e
    walk_at "s"
    intro x dx hx hdx hne
    have smx : Same H1 (upd (upd H1 dx (.own x)) x (.ins Z.CB dx [])) := fun c u hc => by rw [upd_ne (ne_of_none hc hx), upd_ne (ne_of_none hc hdx)]; exact hc
    have nrx : r.pm ≠ x := ne_of_none er hx
    refine ⟨x, dx, pk, r.pm, r.dx, pe, r.flds pf (.ref R.pm), (ts.length : Nat), b2, ns, rfl, upd_same, smx _ _ er, by rw [← hwi]; rfl, nrx, smx _ _ (k1 npe hpe), fun px pw ps pe2 H2 f2 npx nps npe2 n3 n4 n5 ex ew es ee eb => ⟨rfl, ?_⟩⟩
    have k2 : ∀ {a : Addr} {o : HO}, H1 a = some o → H2 a = some o := fun e => f2 _ _ (fun m => ne_of_none e hx (List.mem_singleton.mp m)) (smx _ _ e)
    walk_at "s"
    have nhx : h.x ∉ [pf, R.pt] := fun m => by
      simp only [List.mem_cons, List.not_mem_nil, or_false] at m
      rcases m with z | z
      · have z2 := c.fl; rw [← z, e0] at z2; cases z2
      · have z2 := c.tk.1; rw [← z, e0] at z2; cases z2
    have nhd : h.pd ∉ [pf, R.pt] := fun m => by
      simp only [List.mem_cons, List.not_mem_nil, or_false] at m
      rcases m with z | z
      · have z2 := c.fl; rw [← z, ed] at z2; cases z2
      · have z2 := c.tk.1; rw [← z, ed] at z2; cases z2
    have nxd : h.x ≠ h.pd := fun z => by rw [z, ed] at e0; cases e0
    have o1 : ∀ {a : Addr} {o : HO}, H a = some o → H1 a = none → False := fun {a o} e z => by
      by_cases hm : a ∈ [pf, R.pt]
      · simp only [List.mem_cons, List.not_mem_nil, or_false] at hm
        rcases hm with rfl | rfl
        · rw [eF] at z; cases z
        · rw [eT] at z; cases z
      · rw [k1 hm e] at z; cases z
    have zx : H x = none := by
      cases e : H x with
      | none => rfl
      | some o => exact (o1 e hx).elim
    have f1x : ∀ {a : Addr}, (upd (upd H1 dx (.own x)) x (.ins Z.CB dx [])) a = none → H a = none := fun {a} z => by
      cases e : H a with
      | none => rfl
      | some o => exact (o1 e (noneS smx z)).elim
    have e02 := k2 (k1 nhx e0)
    have ed2 := k2 (k1 nhd ed)
    have nx : ∀ {a : Addr} {o : HO}, H1 a = some o → a ≠ x := fun e => ne_of_none e hx
    have nxh : h.x ≠ x := nx (k1 nhx e0)
    have nxpd : h.pd ≠ x := nx (k1 nhd ed)
    refine Y.s_setF ?_
    refine Y.s_fld ?_
    walk_at "s"
    refine Y.s_fldI e02 ch.cls (ch.at_ 0 rfl) rfl ?_
    walk_at "s"
    refine Y.s_setFI eb Z.b.cls (Z.b.at_ 2 rfl) (by show 13 < 1000; decide) ?_
    walk_at "s"
    refine Y.s_setF ?_
    walk_at "s"
    refine Y.s_fld ?_
    walk_at "s"
    refine Y.s_fldI ((upd_ne nxh).trans e02) ch.cls (ch.at_ 1 rfl) rfl ?_
    walk_at "s"
    rw [way_is]
    refine Y.s_setFI upd_same Z.b.cls (Z.b.at_ 3 rfl) (by show 13 < 1000; decide) ?_
    refine Y.fgt (fun H' => (∀ a o, a ≠ x → H2 a = some o → H' a = some o) ∧ H' x = some (.ins Z.CB dx [("kind", .ref pk), ("room", .ref r.pm), ("ground", .ref h.pg), ("through", .bl h.thr), ("boxes", .ref px), ("place", .int 0), ("high", .bl true), ("window", .ref pw), ("alarm", .int 0), ("spoken", .ref ps), ("ear", .ref pe2), ("why", .str ""), ("steps", .int 0)])) ⟨fun a o n e => (upd_ne n).trans ((upd_ne n).trans e), upd_same⟩ fun H3 ⟨k3, ex3⟩ => ?_
    walk_at "s"
    refine Y.s_fld ?_
    walk_at "s"
    refine Y.s_fldI (k3 _ _ nxh e02) ch.cls (ch.at_ 3 rfl) rfl ?_
    walk_at "s"
    refine Y.s_dputJ ?_
    refine s_make ?_
    walk_at "s"
    intro xu dxu hxu hdxu hneu
    have smu : Same H3 (upd (upd H3 dxu (.own xu)) xu (.ins CU dxu [])) := fun c u hc => by rw [upd_ne (ne_of_none hc hxu), upd_ne (ne_of_none hc hdxu)]; exact hc
    refine ⟨xu, dxu, x, sh, rfl, upd_same, fun H4 f4 eu => ⟨rfl, ?_⟩⟩
    have k4 : ∀ {a : Addr} {o : HO}, H3 a = some o → H4 a = some o := fun e => f4 _ _ (fun m => ne_of_none e hxu (List.mem_singleton.mp m)) (smu _ _ e)
    walk_at "s"
    refine Y.s_fld ?_
    walk_at "s"
    refine Y.s_fldI (k4 (k3 _ _ nxh e02)) ch.cls (ch.at_ 2 rfl) rfl ?_
    walk_at "s"
    refine Y.s_dputI (new := h.kvs ++ [((Sum.inl h.nn : Key), V.ref xu)]) (k4 (k3 _ _ nxpd ed2)) (by
      unfold Hs.kvs
      rw [List.length_map]
      have := c.g6
      exact Nat.ble_eq_true_of_le (by omega)) (putK_new _ c.keys) ?_
    walk_at "s"
    refine Y.s_aug ?_
    walk_at "s"
    have e04 : upd H4 h.pd (.dK (h.kvs ++ [((Sum.inl h.nn : Key), V.ref xu)])) h.x = some (.ins CH h.dx h.flds) := (upd_ne nxd).trans (k4 (k3 _ _ nxh e02))
    refine ⟨h.x, CH, h.dx, h.flds, .int h.nn, rfl, e04, ch.cls, ch.at_ 3 rfl, rfl, ?_⟩
    walk_at "s"
    refine ⟨h.nn, 1, rfl, rfl, h.dx, h.flds, e04, by show 4 < 1000; decide, ?_⟩
    walk_at "s"
    have ehx : (.ins CH h.dx (putF "next_number" (.int (h.nn + 1)) h.flds) : HO) = .ins CH h.dx ({ h with nn := h.nn + 1, gs := h.gs ++ [(h.nn, xu)] } : Hs).flds := rfl
    have ekv : h.kvs ++ [((Sum.inl h.nn : Key), V.ref xu)] = ({ h with nn := h.nn + 1, gs := h.gs ++ [(h.nn, xu)] } : Hs).kvs := by
      unfold Hs.kvs
      rw [List.map_append]; rfl
    rw [ehx, ekv]
    refine Y.fgt (fun H' => (∀ a o, a ≠ h.x → a ≠ h.pd → H4 a = some o → H' a = some o) ∧ HsAt H' CH { h with nn := h.nn + 1, gs := h.gs ++ [(h.nn, xu)] }) ⟨fun a o n1 n2 e => (upd_ne n1).trans ((upd_ne n2).trans e), upd_same, (upd_ne nxd.symm).trans upd_same⟩ fun H6 ⟨k6, hs6⟩ => ?_
    -- what stands at the end
    have kA : ∀ {a : Addr} {o : HO}, a ≠ h.x → a ≠ h.pd → a ≠ x → H2 a = some o → H6 a = some o := fun n1 n2 n3 e => k6 _ _ n1 n2 (k4 (k3 _ _ n3 e))
    have kH : ∀ {a : Addr} {o : HO}, a ∉ [h.x, h.pd, pf, R.pt] → H a = some o → H6 a = some o := fun n e => by
      have n1 : _ ∉ [pf, R.pt] := fun m => n (.tail _ (.tail _ m))
      exact kA (fun z => n (by rw [z]; exact .head _)) (fun z => n (by rw [z]; exact .tail _ (.head _))) (nx (k1 n1 e)) (k2 (k1 n1 e))
    have nyh : ∀ {a : Addr}, H a = none → a ≠ h.x ∧ a ≠ h.pd := fun z => ⟨fun e => (by rw [e, e0] at z; cases z), fun e => by rw [e, ed] at z; cases z⟩
    have ny1 : ∀ {a : Addr}, H1 a = none → a ≠ h.x ∧ a ≠ h.pd ∧ a ≠ pf ∧ a ≠ R.pt ∧ a ≠ r.pm ∧ a ≠ r.pt := fun z => ⟨(ne_of_none (k1 nhx e0) z).symm, (ne_of_none (k1 nhd ed) z).symm, (ne_of_none eF z).symm, (ne_of_none eT z).symm, (ne_of_none er z).symm, (ne_of_none et z).symm⟩
    have zpx := noneS smx npx
    have zps := noneS smx nps
    have zpe := noneS smx npe2
    have ox : upd (upd H1 dx (.own x)) x (.ins Z.CB dx []) x = some (.ins Z.CB dx []) := upd_same
    have dpx : px ≠ x := (ne_of_none ox npx).symm
    have dps : ps ≠ x := (ne_of_none ox nps).symm
    have dpe : pe2 ≠ x := (ne_of_none ox npe2).symm
    have gX := k6 _ _ (nyh zx).1 (nyh zx).2 (k4 ex3)
    have gPx := kA (ny1 zpx).1 (ny1 zpx).2.1 dpx ex
    have gPs := kA (ny1 zps).1 (ny1 zps).2.1 dps es
    have gPe := kA (ny1 zpe).1 (ny1 zpe).2.1 dpe ee
    have gRm := kA (nyh zr).1 (nyh zr).2 (nx er) (k2 er)
    have gRt := kA (nyh zt).1 (nyh zt).2 (nx et) (k2 et)
    have npfh : pf ≠ h.x ∧ pf ≠ h.pd := ⟨fun z => nhx (by rw [z]; exact .head _), fun z => nhd (by rw [z]; exact .head _)⟩
    have nRth : R.pt ≠ h.x ∧ R.pt ≠ h.pd := ⟨fun z => nhx (by rw [← z]; exact .tail _ (.head _)), fun z => nhd (by rw [← z]; exact .tail _ (.head _))⟩
    have gF := kA npfh.1 npfh.2 (nx eF) (k2 eF)
    have gT := kA nRth.1 nRth.2 (nx eT) (k2 eT)
    have zu : H xu = none := by
      cases e : H xu with
      | none => rfl
      | some o =>
        exfalso
        by_cases hm : xu ∈ [pf, R.pt]
        · simp only [List.mem_cons, List.not_mem_nil, or_false] at hm
          rcases hm with rfl | rfl
          · rw [k3 _ _ (nx eF) (k2 eF)] at hxu; cases hxu
          · rw [k3 _ _ (nx eT) (k2 eT)] at hxu; cases hxu
        · rw [k3 _ _ (nx (k1 hm e)) (k2 (k1 hm e))] at hxu; cases hxu
    have zux : x ≠ xu := ne_of_none ex3 hxu
    have zuo : ∀ {a : Addr} {o : HO}, H2 a = some o → a ≠ x → a ≠ xu := fun e n => ne_of_none (k3 _ _ n e) hxu
    have gU := k6 _ _ (nyh zu).1 (nyh zu).2 eu
    have tuH : Tu H H6 := fun a xs e => kH (fun m => by
      simp only [List.mem_cons, List.not_mem_nil, or_false] at m
      rcases m with rfl | rfl | rfl | rfl
      · rw [e0] at e; cases e
      · rw [ed] at e; cases e
      · have z := c.fl; rw [e] at z; cases z
      · have z := c.tk.1; rw [e] at z; cases z) e
    have hnb := c.nb
    have hlay : (lay Fl (st + f0) ts).length = Fl.length := lay_length (by have := c.wd; omega)
    refine q ⟨x, dx, pk, px, ps, pe2, pf, bs, some (Gd.of h.pg gdx pgs pk (.ref R.pm) hb), h.thr, r, R :: Rs, Fl.take (st + f0), Fl.drop (st + f0 + ts.length)⟩ xu dxu H6 ?cf ?cz ?cn rfl rfl rfl rfl rfl rfl hfi hwi rfl rfl hs6 gU ?cb gT gRt
    case' cf => exact fun a o n e => kH n e
    case' cz =>
      intro a ha
      simp only [List.mem_cons, List.not_mem_nil, or_false] at ha
      rcases ha with rfl | rfl | rfl | rfl | rfl | rfl | rfl
      · exact zu
      · exact zx
      · exact f1x npx
      · exact f1x nps
      · exact f1x npe2
      · exact zr
      · exact zt
    case' cn =>
      refine List.nodup_cons.mpr ⟨?_, List.nodup_cons.mpr ⟨?_, List.nodup_cons.mpr ⟨?_, List.nodup_cons.mpr ⟨?_, List.nodup_cons.mpr ⟨?_, List.nodup_cons.mpr ⟨?_, List.nodup_cons.mpr ⟨List.not_mem_nil, List.nodup_nil⟩⟩⟩⟩⟩⟩⟩
      all_goals
        intro m
        simp only [List.mem_cons, List.not_mem_nil, or_false] at m
      · rcases m with e | e | e | e | e | e
        · exact zux e.symm
        · exact zuo ex dpx e.symm
        · exact zuo es dps e.symm
        · exact zuo ee dpe e.symm
        · exact zuo (k2 er) nrx e.symm
        · exact zuo (k2 et) (nx et) e.symm
      · rcases m with e | e | e | e | e
        · exact dpx e.symm
        · exact dps e.symm
        · exact dpe e.symm
        · exact nrx e.symm
        · exact nx et e.symm
      · rcases m with e | e | e | e
        · exact n3 e
        · exact n4 e
        · exact (ny1 zpx).2.2.2.2.1 e
        · exact (ny1 zpx).2.2.2.2.2 e
      · rcases m with e | e | e
        · exact n5 e
        · exact (ny1 zps).2.2.2.2.1 e
        · exact (ny1 zps).2.2.2.2.2 e
      · rcases m with e | e
        · exact (ny1 zpe).2.2.2.2.1 e
        · exact (ny1 zpe).2.2.2.2.2 e
      · exact nrt m
    case' cb =>
      have ngs : pgs ∉ [h.x, h.pd, pf, R.pt] := fun m => by
        simp only [List.mem_cons, List.not_mem_nil, or_false] at m
        rcases m with z | z | z | z
        · have z2 := c.sd; rw [z, e0] at z2; cases z2
        · have z2 := c.sd; rw [z, ed] at z2; cases z2
        · rw [z] at hnb; exact (List.nodup_cons.mp hnb).1 (.head _)
        · exact c.nt (by rw [← z]; exact .tail _ (.head _))
      have nig : ∀ {a C dy : Addr} {fs : List (Str × V)}, a ≠ h.x → H a = some (.ins C dy fs) → a ∉ [h.x, h.pd, pf, R.pt] := fun n e m => by
        simp only [List.mem_cons, List.not_mem_nil, or_false] at m
        rcases m with z | z | z | z
        · exact n z
        · rw [z, ed] at e; cases e
        · rw [z, c.fl] at e; cases e
        · rw [z, c.tk.1] at e; cases e
      have gGs := kH ngs c.sd
      have gGr := kH (nig (fun z => c.hx (by rw [z]; exact .head _)) c.gr) c.gr
      have gW := k6 pw _ ?nw1 ?nw2 (k4 (k3 pw _ ?nw3 ew))
      case' nw1 => exact fun z => by rw [z, e02] at ew; cases ew
      case' nw2 => exact fun z => by rw [z, ed2] at ew; cases ew
      case' nw3 => exact fun z => by rw [z, eb] at ew; cases ew
      refine ⟨⟨pw, ?_, gW⟩, tuH _ _ c.kd.1, ?_, ?_, ?_, ?_⟩
      · intro y my
        have my2 : y ∈ (x, HO.ins Z.CB dx [("kind", V.ref pk), ("room", V.ref r.pm), ("ground", V.ref h.pg), ("through", V.bl h.thr), ("boxes", V.ref px), ("place", V.int 0), ("high", V.bl true), ("window", V.ref pw), ("alarm", V.int 0), ("spoken", V.ref ps), ("ear", V.ref pe2), ("why", V.str ""), ("steps", V.int 0)]) :: (px, HO.lst [V.int 0, V.int 0, V.int 0, V.int 0]) :: (ps, HO.lst []) :: (pe2, HO.lst (ns.map V.int)) :: (pf, HO.lst ((lay Fl (st + f0) ts).map Thing.v)) :: (pgs, HO.lst (said.map V.int)) :: (h.pg, grO Z.CG gdx pk pgs (.ref R.pm) hb) :: (r.pm, HO.ins Z.CR r.dx (r.flds pf (V.ref R.pm))) :: rmObjs Z.CR pf (R :: Rs) := my
        simp only [List.mem_cons] at my2
        rcases my2 with rfl | rfl | rfl | rfl | rfl | rfl | rfl | rfl | my2
        · exact gX
        · exact gPx
        · exact gPs
        · exact gPe
        · exact gF
        · exact gGs
        · exact gGr
        · exact gRm
        · have my3 : y ∈ rmObjs Z.CR pf (R :: Rs) := my2
          have h1 := c.rms y my3
          obtain ⟨dy, fs, ey⟩ := rm_ins Z.CR pf (R :: Rs) y my3
          have h2 : y.1 ∈ (R :: Rs).map Rm.pm := by rw [← rmObjs_fst Z.CR pf]; exact List.mem_map_of_mem my3
          rw [ey] at h1 ⊢
          exact kH (nig (fun z => c.hx (by rw [← z]; exact .tail _ h2)) h1) h1
      · exact (lay_things c.ft ht).tu tuH
      · intro t mt
        rw [List.eq_of_mem_replicate mt]
        exact ⟨by decide, by decide⟩
      · show (x :: px :: ps :: pe2 :: pf :: pgs :: h.pg :: r.pm :: (R :: Rs).map Rm.pm).Nodup
        have some_ : ∀ a ∈ pf :: pgs :: h.pg :: (R :: Rs).map Rm.pm, ∃ o, H a = some o := fun a ha => by
          simp only [List.mem_cons] at ha
          rcases ha with rfl | rfl | rfl | ha
          · exact ⟨_, c.fl⟩
          · exact ⟨_, c.sd⟩
          · exact ⟨_, c.gr⟩
          · have ha2 : a ∈ (rmObjs Z.CR pf (R :: Rs)).map (·.1) := by rw [rmObjs_fst]; exact ha
            obtain ⟨y, hy2, rfl⟩ := List.mem_map.mp ha2
            exact ⟨_, c.rms y hy2⟩
        have fresh : ∀ {a : Addr}, H a = none → a ∉ pf :: pgs :: h.pg :: (R :: Rs).map Rm.pm := fun z m => by
          obtain ⟨o, e⟩ := some_ _ m
          rw [z] at e; cases e
        obtain ⟨m1, nb1⟩ := List.nodup_cons.mp hnb
        obtain ⟨m2, nb2⟩ := List.nodup_cons.mp nb1
        obtain ⟨m3, nb3⟩ := List.nodup_cons.mp nb2
        have fr := fresh zr
        have nbr : (pf :: pgs :: h.pg :: r.pm :: (R :: Rs).map Rm.pm).Nodup := by
          refine List.nodup_cons.mpr ⟨fun m => ?_, List.nodup_cons.mpr ⟨fun m => ?_, List.nodup_cons.mpr ⟨fun m => ?_, List.nodup_cons.mpr ⟨fun m => ?_, nb3⟩⟩⟩⟩
          · rcases List.mem_cons.mp m with e | m
            · exact m1 (by rw [e]; exact .head _)
            rcases List.mem_cons.mp m with e | m
            · exact m1 (by rw [e]; exact .tail _ (.head _))
            rcases List.mem_cons.mp m with e | m
            · exact fr (by rw [← e]; exact .head _)
            · exact m1 (.tail _ (.tail _ m))
          · rcases List.mem_cons.mp m with e | m
            · exact m2 (by rw [e]; exact .head _)
            rcases List.mem_cons.mp m with e | m
            · exact fr (by rw [← e]; exact .tail _ (.head _))
            · exact m2 (.tail _ m)
          · rcases List.mem_cons.mp m with e | m
            · exact fr (by rw [← e]; exact .tail _ (.tail _ (.head _)))
            · exact m3 m
          · exact fr (.tail _ (.tail _ (.tail _ m)))
        have put : ∀ {a : Addr} {l : List Addr}, H a = none → a ≠ r.pm → a ∉ l → (∀ z ∈ l, z ∈ l) → (l ++ pf :: pgs :: h.pg :: r.pm :: (R :: Rs).map Rm.pm).Nodup → (a :: (l ++ pf :: pgs :: h.pg :: r.pm :: (R :: Rs).map Rm.pm)).Nodup := fun {a l} z n nl _ nn => List.nodup_cons.mpr ⟨fun m => by
          rcases List.mem_append.mp m with m | m
          · exact nl m
          · have := fresh z
            simp only [List.mem_cons] at m this
            rcases m with e | e | e | e | e
            · exact this (.inl e)
            · exact this (.inr (.inl e))
            · exact this (.inr (.inr (.inl e)))
            · exact n e
            · exact this (.inr (.inr (.inr e))), nn⟩
        have hmem : ∀ {a : Addr} {l : List Addr}, (∀ z ∈ l, a ≠ z) → a ∉ l := fun h m => h _ m rfl
        refine put (l := [px, ps, pe2]) zx nrx.symm ?_ (fun _ h => h) (put (l := [ps, pe2]) (f1x npx) (ny1 zpx).2.2.2.2.1 ?_ (fun _ h => h) (put (l := [pe2]) (f1x nps) (ny1 zps).2.2.2.2.1 ?_ (fun _ h => h) (put (l := []) (f1x npe2) (ny1 zpe).2.2.2.2.1 List.not_mem_nil (fun _ h => h) nbr)))
        · intro m
          simp only [List.mem_cons, List.not_mem_nil, or_false] at m
          rcases m with e | e | e
          · exact dpx e.symm
          · exact dps e.symm
          · exact dpe e.symm
        · intro m
          simp only [List.mem_cons, List.not_mem_nil, or_false] at m
          rcases m with e | e
          · exact n3 e
          · exact n4 e
        · intro m
          simp only [List.mem_cons, List.not_mem_nil, or_false] at m
          exact n5 m
      · have hwd := c.wd
        have hf := c.f1000
        have z : Nm 0 := ⟨by decide, by decide⟩
        refine ⟨rfl, l16, l40, z, Int.le_refl 0, ?_, ?_, z, hn, ?_, c.kd.2, ?_, hwi, ?_, ?_⟩
        · show (0 : Int) ≤ (ts.length : Nat); omega
        · show (0 : Int) + (ts.length : Nat) ≤ (ts.length : Nat); omega
        · show ns.length ≤ 1000; omega
        · show startOf (R :: Rs) + r.first = ((Fl.take (st + f0)).length : Nat)
          rw [c.sto, hfi, List.length_take]
          omega
        · show (lay Fl (st + f0) ts).length ≤ 1000
          rw [hlay]; exact hf
        · show Rs.length + 1 ≤ 4
          have := c.l3; omega
end
end G
end
section
namespace G
open PySem L2 C8
variable {K : PySem.W.Frag}
def spCheckShare : Sp := fun vs H Q _ => ∃ s : Int, vs = [.int s] ∧ 1 ≤ s ∧ s ≤ 9 ∧ Q .non H
def spCome {K : PySem.W.Frag} (Z : Zs K) (CU CH : Addr) : Sp := fun vs H Q _ => ∃ (h : Hs) (gdx pk pgs pf p pe : Addr) (hb sh : Int) (R : Rm) (Rs rs : List Rm) (bs : List Bool) (F ts : List Thing) (said ns : List Int) (st f0 : Nat) (b1 b2 : Bool), vs = [.ref h.x, .ref p, .ref pe, .int sh] ∧ 1 ≤ sh ∧ sh ≤ 9 ∧ ComeAt Z CH H h gdx pk pgs pf hb R Rs rs bs F said st ∧
  H p = some (LT b1 (ts.map Thing.v)) ∧ (Things K) H ts ∧ 16 ≤ ts.length ∧ ts.length ≤ 40 ∧ H pe = some (LT b2 (ns.map V.int)) ∧ (∀ n ∈ ns, Nm n) ∧ ns.length ≤ 20 ∧ p ∉ [pf, R.pt] ∧ pe ∉ [pf, R.pt] ∧ (f0 : Int) + (ts.length : Nat) ≤ R.wide ∧ freeB f0 (ts.length : Nat) rs = true ∧ (∀ f : Nat, f < f0 → freeB f (ts.length : Nat) rs = false) ∧
  ∀ (A : Adr) (pu udx : Addr) H', FrS [h.x, h.pd, pf, R.pt] H H' → (∀ a ∈ [pu, A.pb, A.px, A.ps, A.pe, A.rm.pm, A.rm.pt], H a = none) → [pu, A.pb, A.px, A.ps, A.pe, A.rm.pm, A.rm.pt].Nodup → A.pk = pk → A.bs = bs → A.grd = some (Gd.of h.pg gdx pgs pk (.ref R.pm) hb) → A.thr = h.thr → A.pf = pf → A.rms = R :: Rs → A.rm.first = f0 → A.rm.wide = (ts.length : Nat) → A.pre = F.take (st + f0) → A.post = F.drop (st + f0 + ts.length) →
    HsAt H' CH { h with nn := h.nn + 1, gs := h.gs ++ [(h.nn, pu)] } → H' pu = some (guO CU udx A.pb sh false) → BodyAt Z H' A { Mc.start ts ns with gsaid := said } → H' R.pt = some (.lst ((rs ++ [A.rm]).map fun r => V.ref r.pm)) → H' A.rm.pt = some (.lst []) → Q (.int h.nn) H'
theorem ComeAt.same {K : PySem.W.Frag} {Z : Zs K} {CH : Addr} {H H' : Hp} {h : Hs} {gdx pk pgs pf : Addr} {hb : Int} {R : Rm} {Rs rs : List Rm} {bs : List Bool} {F : List Thing} {said : List Int} {st : Nat} (c : ComeAt Z CH H h gdx pk pgs pf hb R Rs rs bs F said st) (s : Same H H') : ComeAt Z CH H' h gdx pk pgs pf hb R Rs rs bs F said st :=
  ⟨c.hs.same s, c.g6, c.keys, s _ _ c.gr, c.kd.mono s, c.rms.same s, c.l3, c.sto, s _ _ c.fl, c.ft.same s, c.f1000, c.wd, c.tk.same s, c.r900, s _ _ c.sd, c.nb, c.nt, c.hx⟩
section
variable {P : Program} {w : World} {K : PySem.W.Frag} {mg : Str → Option Value} {base : Heap} {Z : Zs K} {CU CH : Addr}
abbrev s_check_share : Stmt := top 35
theorem sc_check_share : FnScope ["share"] ["share"] (fnScope s_check_share) := fnScope_by (by decide +kernel)
theorem ok_check_share {f : Addr} {fd : FuncData} (F : Def K mg "check_share" s_check_share f fd) (b : Binds K fd ["share"] []) (T : Txt K mg) (v_MOST_SHARE : IntG mg "MOST_SHARE" 9) (c_is_number : Cal P w K mg base 1 "is_number" (spIsNumber K) []) : Cal P w K mg base 2 "check_share" spCheckShare [] := by
  refine cal0 F b .nil sc_check_share (fun vs H Q E h => ?_) (fun cdv A outer s H vs Q E hr h => ?_)
  · obtain ⟨s, rfl, _⟩ := h
    rfl
  · obtain ⟨s, rfl, h1, h9, q⟩ := h
    have nd := sc_check_share.nd
    refine ⟨_, (pss_one (ps_if (pt_not (pt_val (pe_c c_is_number hr (by first | decide | omega) (by rfl) (pa_cons (pv 0) (pa_cons pe_int (pa_cons (pe_gc (by rfl) v_MOST_SHARE) pa_nil))))))
      (pss_one ps_never)
      pss_nil)), ?_⟩
    walk_at "b"
    refine u_isnumT h1 h9 ?_
    walk_at "s"
    exact q
abbrev s_Host_come : Stmt := inClass (top 110) 1
theorem sc_Host_come : FnScope ["self", "cells", "ear", "share"] ["self", "cells", "ear", "share"] (fnScope s_Host_come) := fnScope_by (by decide +kernel)
theorem ok_Host_come {f : Addr} {fd : FuncData} (ch : Cz K CH fldH) (me : Meth K CH "come" f) (F : C8.Fun K "come" "Host.come" s_Host_come f fd) (b : Binds K fd ["self", "cells", "ear", "share"] []) (T : Txt K mg) (c_check_cells : Cal P w K mg base 4 "check_cells" (spCheckCells2 K) []) (c_check_ear : Cal P w K mg base 2 "check_ear" spCheckEar2 []) (c_check_share : Cal P w K mg base 2 "check_share" spCheckShare []) (m_Host_bring : Met P w K mg base 9 CH "bring" (spBring Z CU CH) []) : Met P w K mg base 10 CH "come" (spCome Z CU CH) [] := by
  refine met0 ch.cls me F b sc_Host_come (fun vs H Q E h => ?_) (fun cdv A outer s H vs Q E hr h => ?_)
  · obtain ⟨h, gdx, pk, pgs, pf, p, pe, hb, sh, R, Rs, rs, bs, F, ts, said, ns, st, f0, b1, b2, rfl, _⟩ := h
    rfl
  · obtain ⟨h, gdx, pk, pgs, pf, p, pe, hb, sh, R, Rs, rs, bs, Fl, ts, said, ns, st, f0, b1, b2, rfl, h1, h9, c, hp, ht, l16, l40, hpe, hn, hl, np, npe, hf0, hy, hno, q⟩ := h
    have nd := sc_Host_come.nd
    refine ⟨_, (pss_cons (ps_expr (pe_c c_check_cells hr (by first | decide | omega) (by rfl) (pa_cons (pv 1) pa_nil)))
      (pss_cons (ps_expr (pe_c c_check_ear hr (by first | decide | omega) (by rfl) (pa_cons (pv 2) pa_nil)))
      (pss_cons (ps_expr (pe_c c_check_share hr (by first | decide | omega) (by rfl) (pa_cons (pv 3) pa_nil)))
      (pss_one (ps_ret (pe_mt m_Host_bring hr (by first | decide | omega) (pv 0) (pa_cons (pv 1) (pa_cons (pv 2) (pa_cons (pv 3) pa_nil))))))))), ?_⟩
    walk_at "b"
    refine u_ccells2 hp ht l16 l40 fun H1 s1 => ?_
    walk_at "s"
    refine u_cear2 (s1 _ _ hpe) hn hl fun H2 s2 => ?_
    have s12 := s1.trans s2
    walk_at "s"
    refine ⟨sh, rfl, h1, h9, ?_⟩
    walk_at "s"
    refine Y.s_meth ?_
    walk_at "s"
    have c2 := c.same s12
    refine Y.s_methI c2.hs.1 rfl ?_
    walk_at "s"
    exact ⟨h, gdx, pk, pgs, pf, p, pe, hb, sh, R, Rs, rs, bs, Fl, ts, said, ns, st, f0, b1, b2, rfl, c2, s12 _ _ hp, ht.same s12, l16, l40, s12 _ _ hpe, hn, hl, np, npe, hf0, hy, hno, fun A pu udx H' f z n e1 e2 e3 e4 e5 e6 e7 e8 e9 e10 k1 k2 k3 k4 k5 => q A pu udx H' (fun b o nb e => f b o nb (s12 _ _ e)) (fun a ha => noneS s12 (z a ha)) n e1 e2 e3 e4 e5 e6 e7 e8 e9 e10 k1 k2 k3 k4 k5⟩
end
end G
end
section
/-! ### min of a list of pairs of ints -/
namespace Y
open PySem PySem.Spec PySem.W PyProof.Rows L2
def pk (k : Int × Int) : PyData := .tuple [.int k.1, .int k.2]
def leP (k l : Int × Int) : Prop := k.1 < l.1 ∨ (k.1 = l.1 ∧ k.2 ≤ l.2)
theorem leP_refl (k : Int × Int) : leP k k := .inr ⟨rfl, Int.le_refl _⟩
theorem leP_trans {a b c : Int × Int} (h : leP a b) (g : leP b c) : leP a c := by
  unfold leP at *
  omega
theorem al_int (a b : Int) : alike (.int a) (.int b) = true := by simp [alike]
theorem ev_int (a b : Int) : PyData.eqv (.int a) (.int b) = decide (a = b) := by
  by_cases h : a = b
  · subst h; simp [PyData.eqv]
  · simp [PyData.eqv, h]
theorem pk_lt (k l : Int × Int) : dataLt (pk k) (pk l) = decide (k.1 < l.1 ∨ (k.1 = l.1 ∧ k.2 < l.2)) := by
  unfold pk
  rw [dataLt_tuple]
  by_cases h1 : k.1 = l.1
  · rw [dataLt_all_yes (al_int _ _) (by rw [ev_int]; exact decide_eq_true h1)]
    by_cases h2 : k.2 = l.2
    · rw [dataLt_all_yes (al_int _ _) (by rw [ev_int]; exact decide_eq_true h2)]
      rw [decide_eq_false (by omega)]
      rfl
    · rw [dataLt_all_no (al_int _ _) (by rw [ev_int]; exact decide_eq_false h2), dataLt_int]
      congr 1
      simp only [eq_iff_iff]
      omega
  · rw [dataLt_all_no (al_int _ _) (by rw [ev_int]; exact decide_eq_false h1), dataLt_int]
    congr 1
    simp only [eq_iff_iff]
    omega
theorem minD_pk : ∀ (xs : List (Int × Int)) (x : Int × Int), ∃ m ∈ x :: xs, minD (pk x) (xs.map pk) = pk m ∧ ∀ y ∈ x :: xs, leP m y
  | [], x => ⟨x, .head _, rfl, fun y h => by rw [List.mem_singleton.mp h]; exact leP_refl x⟩
  | z :: r, x => by
    have e : minD (pk x) ((z :: r).map pk) = minD (if dataLt (pk z) (pk x) then pk z else pk x) (r.map pk) := rfl
    rw [pk_lt] at e
    by_cases h : z.1 < x.1 ∨ (z.1 = x.1 ∧ z.2 < x.2)
    · rw [decide_eq_true h, if_pos rfl] at e
      obtain ⟨m, hm, em, hl⟩ := minD_pk r z
      refine ⟨m, .tail _ hm, e.trans em, fun y hy => ?_⟩
      rcases List.mem_cons.mp hy with rfl | hy
      · exact leP_trans (hl z (.head _)) (by unfold leP; omega)
      · exact hl y hy
    · rw [decide_eq_false h, if_neg Bool.false_ne_true] at e
      obtain ⟨m, hm, em, hl⟩ := minD_pk r x
      refine ⟨m, ?_, e.trans em, fun y hy => ?_⟩
      · rcases List.mem_cons.mp hm with rfl | hm
        · exact .head _
        · exact .tail _ (.tail _ hm)
      rcases List.mem_cons.mp hy with rfl | hy
      · exact hl _ (.head _)
      rcases List.mem_cons.mp hy with rfl | hy
      · exact leP_trans (hl x (.head _)) (by unfold leP; omega)
      · exact hl y (.tail _ hy)
theorem pk_inj {k l : Int × Int} (h : pk k = pk l) : k = l := by
  unfold pk at h
  injection h with h
  injection h with h1 h2
  injection h2 with h2 _
  injection h1 with h1
  injection h2 with h2
  exact Prod.ext h1 h2
theorem pk_lay (k : Int × Int) : (pk k).canLay0 = true := rfl
theorem dep_pk : ∀ ks : List (Int × Int), PyData.depthAll (ks.map pk) ≤ 1
  | [] => Nat.zero_le _
  | k :: r => by
    show max (PyData.depth (pk k)) (PyData.depthAll (r.map pk)) ≤ 1
    exact Nat.max_le.mpr ⟨Nat.le_refl 1, dep_pk r⟩
def rMinP (K : PySem.W.Frag) : List V → Hp → VK → Prop := fun vs H Q => ∃ (a : Addr) (ps : List Addr) (ks : List (Int × Int)), vs = [V.ref a] ∧ SqL K H a (ps.map V.ref) ∧ ps.length = ks.length ∧ 0 < ks.length ∧ (∀ (i : Nat) p k, ps[i]? = some p → ks[i]? = some k → SqT K H p [.int k.1, .int k.2]) ∧
  ∀ (i : Nat) p k, ps[i]? = some p → ks[i]? = some k → (∀ l ∈ ks, leP k l) → Q (.ref p) H
theorem dp_pk {K : PySem.W.Frag} {H : Hp} : ∀ (ps : List Addr) (ks : List (Int × Int)), ps.length = ks.length → (∀ (i : Nat) p k, ps[i]? = some p → ks[i]? = some k → SqT K H p [.int k.1, .int k.2]) → DpAll K H (ps.map V.ref) (ks.map pk)
  | [], [], _, _ => .nil
  | p :: ps, k :: ks, h, g => .cons (.tup (g 0 p k rfl rfl) (.cons (.int _) (.cons (.int _) .nil))) (dp_pk ps ks (by simpa using h) fun i q l e1 e2 => g (i + 1) q l e1 e2)
theorem vals_at : ∀ {vs : List V} {us : List Value}, Vals vs us → ∀ {i : Nat} {u : Value}, us[i]? = some u → ∃ v, vs[i]? = some v ∧ RelV v u
  | _, _, .nil, _, _, h => by cases h
  | _, _, .cons r _, 0, _, h => by
    cases h
    exact ⟨_, rfl, r⟩
  | _, _, .cons _ t, i + 1, _, h => vals_at t (i := i) h
theorem cl_minP {X : Cx} (hc : X.calm = true) (hu : X.A.units + 64 < cLine) : CallR X (.builtin "min") (rMinP X.K) := by
  intro pins s σ H vs us Q I r h
  obtain ⟨a, ps, ks, rfl, hs, hl, h0, ht, q⟩ := h
  obtain ⟨its, rv, li, _⟩ := I.list hs
  rw [Vals.ref1 r]
  match ks, h0, hl, ht, q with
  | k0 :: kr, _, hl, ht, q =>
    obtain ⟨as, hr⟩ := Dp.readsAll I ((k0 :: kr).map pk) _ its (dp_pk ps (k0 :: kr) hl ht) rv
    have al : AlikeAll ((k0 :: kr).map pk) := by
      refine ⟨fun x hx y hy => ?_, fun x hx => ?_⟩
      · obtain ⟨k, _, rfl⟩ := List.mem_map.mp hx
        obtain ⟨l, _, rfl⟩ := List.mem_map.mp hy
        simp [pk, alike, alikeAll]
      · obtain ⟨k, _, rfl⟩ := List.mem_map.mp hx
        intro z; cases z
    have dp := dep_pk (k0 :: kr)
    refine min_list_data (x := pk k0) (xs := kr.map pk) (I.ok.hd hc) li.isList hr al (by show X.A.units + 1 + PyData.depthAll ((k0 :: kr).map pk) < cLine; omega) fun i v h' tk bs hi rd hk => ?_
    obtain ⟨m, hm, em, hle⟩ := minD_pk kr k0
    obtain ⟨w, hw, rw_⟩ := vals_at rv (i := i) (u := v) (by rw [← List.getElem?_toArray]; exact hi)
    obtain ⟨p, hp, rfl⟩ := G.map_at hw
    have hlt := (List.getElem?_eq_some_iff.mp hp).1
    obtain ⟨k, hk2⟩ : ∃ k, (k0 :: kr)[i]? = some k := ⟨_, List.getElem?_eq_getElem (by omega)⟩
    have I2 : Inv X pins σ H { s with heap := h', toks := tk } := I.kept hk
    obtain ⟨bs2, rd2⟩ := Dp.reads I2 (pk k) (V.ref p) v (.tup (ht i p k hp hk2) (.cons (.int _) (.cons (.int _) .nil))) rw_
    have ek : pk k = minD (pk k0) (kr.map pk) := (Reads.unique rd2 _ _ rd).1
    have ekm : k = m := pk_inj (ek.trans em)
    exact ⟨V.ref p, H, I2, rw_, q i p k hp hk2 (by rw [ekm]; exact hle)⟩
theorem s_minP {K : PySem.W.Frag} {H : Hp} {Q : VK} {a : Addr} {ps : List Addr} {ks : List (Int × Int)} (h : SqL K H a (ps.map V.ref)) (hl : ps.length = ks.length) (h0 : 0 < ks.length) (ht : ∀ (i : Nat) p k, ps[i]? = some p → ks[i]? = some k → SqT K H p [.int k.1, .int k.2]) (q : ∀ (i : Nat) p k, ps[i]? = some p → ks[i]? = some k → (∀ l ∈ ks, leP k l) → Q (.ref p) H) : rMinP K [.ref a] H Q := ⟨a, ps, ks, rfl, h, hl, h0, ht, q⟩
end Y
end
section
/-! ### guests -/
namespace G
open PySem L2 C8
/-- a guest, and what its machine is -/
structure Gu where
  no : Int
  pu : Addr
  udx : Addr
  sh : Int
  busy : Bool
  hx : Addr
  A : Adr
  m : Mc
structure GuAt {K : PySem.W.Frag} (Z : Zs K) (CU : Addr) (H : Hp) (u : Gu) : Prop where
  o : H u.pu = some (guO CU u.udx u.A.pb u.sh u.busy)
  b : BodyAt Z H u.A u.m
  s1 : 1 ≤ u.sh
  s9 : u.sh ≤ 9
  t0 : 0 ≤ u.m.steps
  t1 : u.m.steps < 1000000
def Gu.ready (u : Gu) : Bool := !u.busy && decide (u.m.why = "")
def Gu.key (u : Gu) : Int := u.m.steps * (2520 / u.sh)
def Hs.of (h : Hs) (us : List Gu) : Prop := h.gs = us.map fun u => (u.no, u.pu)
/-- whose turn it is -/
def IsNext (us : List Gu) (v : V) : Prop := (v = .non ∧ ∀ u ∈ us, u.ready = false) ∨ ∃ u ∈ us, v = .int u.no ∧ u.ready = true ∧ ∀ w ∈ us, w.ready = true → Y.leP (u.key, u.no) (w.key, w.no)
theorem GuAt.same {K : PySem.W.Frag} {Z : Zs K} {CU : Addr} {H H' : Hp} {u : Gu} (k : GuAt Z CU H u) (s : Same H H') : GuAt Z CU H' u := ⟨s _ _ k.o, k.b.same s, k.s1, k.s9, k.t0, k.t1⟩
section
variable {K : PySem.W.Frag} {Z : Zs K} {CU : Addr}
theorem adr_kind {H : Hp} {A : Adr} {m : Mc} (k : BodyAt Z H A m) : ∀ a ∈ A.adrs, (∃ xs, H a = some (.lst xs)) ∨ ∃ C dx fs, H a = some (.ins C dx fs) := fun a ha => by
  obtain ⟨⟨pw, h, _⟩, _⟩ := k
  rw [← A.objs_fst Z pw m] at ha
  obtain ⟨y, hy, rfl⟩ := List.mem_map.mp ha
  have e := h y hy
  unfold Adr.objs at hy
  simp only [List.mem_cons, List.mem_append] at hy
  rcases hy with rfl | rfl | rfl | rfl | rfl | hy | hy
  · exact .inr ⟨_, _, _, e⟩
  · exact .inl ⟨_, e⟩
  · exact .inl ⟨_, e⟩
  · exact .inl ⟨_, e⟩
  · exact .inl ⟨_, e⟩
  · cases hg : A.grd with
    | none => rw [hg] at hy; cases hy
    | some g =>
      rw [hg] at hy
      have hy2 : y ∈ [(g.pgs, HO.lst (m.gsaid.map V.int)), (g.pg, .ins Z.CG g.dx [("kind", g.k), ("room", g.rm), ("spoken", .ref g.pgs), ("hosts_beneath", .int g.hb)])] := hy
      simp only [List.mem_cons, List.not_mem_nil, or_false] at hy2
      rcases hy2 with rfl | rfl
      · exact .inl ⟨_, e⟩
      · exact .inr ⟨_, _, _, e⟩
  · obtain ⟨dx, fs, ey⟩ := rm_ins Z.CR A.pf (A.rm :: A.rms) y hy
    rw [ey] at e
    exact .inr ⟨_, _, _, e⟩
theorem GuAt.dict {H : Hp} {u : Gu} {d : Addr} {kvs : List (Key × V)} {o : HO} (k : GuAt Z CU H u) (h : H d = some (.dK kvs)) : GuAt Z CU (upd H d o) u := by
  have n1 : u.pu ≠ d := fun z => by have := k.o; rw [z, h] at this; cases this
  have f : FrS [d] H (upd H d o) := FrS.refl.upd (.head _)
  have tu : Tu H (upd H d o) := (Tu.refl H).dic h
  refine ⟨(upd_ne n1).trans k.o, k.b.fr f (fun a ha hm => ?_) tu, k.s1, k.s9, k.t0, k.t1⟩
  rw [List.mem_singleton.mp hm] at ha
  rcases adr_kind k.b d ha with ⟨_, e⟩ | ⟨_, _, _, e⟩ <;> rw [h] at e <;> cases e
end
end G
end
section
namespace G
open PySem L2 C8
variable {K : PySem.W.Frag}
def spNumber (K : PySem.W.Frag) : Sp := fun vs H Q _ => ∃ (a : Addr), vs = [.ref a] ∧ StAt K H a ∧ ∀ (x : Int) (H' : Hp), Nm x → Fr a H H' → StAt K H' a → Q (.int x) H'
def spRow (K : PySem.W.Frag) : Sp := fun vs H Q _ => ∃ (a : Addr) (l : Int), vs = [.ref a, .int l] ∧ StAt K H a ∧ 0 ≤ l ∧ l ≤ 900 ∧ ∀ (p : Addr) (r : Row) (H' : Hp), Fr a H H' → StAt K H' a → (Thing.row p r).At K H' → Q (.ref p) H'
theorem u_number {K : PySem.W.Frag} {H : Hp} {Q : VK} {E : XK} {a : Addr} (h : StAt K H a) (q : ∀ (x : Int) (H' : Hp), Nm x → Fr a H H' → StAt K H' a → Q (.int x) H') : spNumber K ([.ref a] ++ []) H Q E := ⟨a, rfl, h, q⟩
section
variable {P : Program} {w : World} {K : PySem.W.Frag} {mg : Str → Option Value} {base : Heap}
abbrev s__law_number : Stmt := top 117
theorem sc__law_number : FnScope ["_law_state"] ["_law_state"] (fnScope s__law_number) := fnScope_by (by decide +kernel)
theorem ok__law_number {f : Addr} {fd : FuncData} (F : Def K mg "_law_number" s__law_number f fd) (b : Binds K fd ["_law_state"] []) (T : Txt K mg)
    (c__law_drawn : Cal P w K mg base 1 "_law_drawn" (spDrawn K) []) : Cal P w K mg base 2 "_law_number" (spNumber K) [] := by
  refine cal0 F b .nil sc__law_number (fun vs H Q E h => ?_) (fun cdv A outer s H vs Q E hr h => ?_)
  · obtain ⟨a, rfl, _⟩ := h
    rfl
  · obtain ⟨a, rfl, hS, q⟩ := h
    have nd := sc__law_number.nd
    refine ⟨_, (pss_one (ps_ret (pe_c c__law_drawn hr (by first | decide | omega) (by rfl) (pa_cons (pv 0) (pa_cons (pe_ix ix_list (pe_lst (pa_cons pe_int (pa_cons pe_int (pa_cons pe_int (pa_cons pe_int pa_nil))))) (pe_c c__law_drawn hr (by first | decide | omega) (by rfl) (pa_cons (pv 0) (pa_cons pe_int pa_nil))) (fun _ _ => rfl)) pa_nil))))), ?_⟩
    walk_at "b"
    refine Y.s_new rfl fun p hp => ?_
    walk_at "s"
    refine u_drawn (hS.new hp) (by decide) (by decide) fun x H1 h0 h1 f1 S1 => ?_
    have hp1 := f1 p _ (ne_of_none hS.spec hp).symm upd_same
    obtain ⟨v, e, k, rfl, k0, k1⟩ := Y.at_all (P := fun v => ∃ k, v = V.int k ∧ 0 < k ∧ k ≤ 1000) (xs := [V.int 4, V.int 41, V.int 41, V.int 1000]) (i := x) (by
      intro v hv
      simp only [List.mem_cons, List.not_mem_nil, or_false] at hv
      rcases hv with rfl | rfl | rfl | rfl <;> exact ⟨_, rfl, by decide, by decide⟩) h0 h1
    refine Y.s_ixL' (SqL.of hp1) e ?_
    walk_at "s"
    refine u_drawn S1 k0 (by omega) fun y H2 g0 g1 f2 S2 => ?_
    exact q y H2 ⟨g0, by omega⟩ (((Fr.refl a H).new hp).trans (f1.trans f2)) S2
abbrev s__law_row : Stmt := top 118
theorem sc__law_row : FnScope ["_law_state", "_law_low_here", "_law_words", "_law_word", "_law_b", "_law_c", "_law_d", "_law_near", "_law_k"] ["_law_state", "_law_low_here"] (fnScope s__law_row) := fnScope_by (by decide +kernel)
theorem ok__law_row {f : Addr} {fd : FuncData} (F : Def K mg "_law_row" s__law_row f fd) (b : Binds K fd ["_law_state", "_law_low_here"] []) (T : Txt K mg)
    (c__law_drawn : Cal P w K mg base 1 "_law_drawn" (spDrawn K) []) (c__law_number : Cal P w K mg base 2 "_law_number" (spNumber K) []) : Cal P w K mg base 3 "_law_row" (spRow K) [] := by
  refine cal0 F b .nil sc__law_row (fun vs H Q E h => ?_) (fun cdv A outer s H vs Q E hr h => ?_)
  · obtain ⟨a, l, rfl, _⟩ := h
    rfl
  · obtain ⟨a, l, rfl, hS, hl0, hl1, q⟩ := h
    obtain ⟨ha, hA⟩ := hS.lst
    have nd := sc__law_row.nd
    have hu := hu_of hr
    refine ⟨_, (pss_cons (ps_set (i := 2) nd rfl (by first | exact Or.inl rfl | exact Or.inr rfl) (pe_lst (pa_cons pe_str (pa_cons pe_str (pa_cons pe_str (pa_cons pe_str (pa_cons pe_str (pa_cons pe_str (pa_cons pe_str (pa_cons pe_str (pa_cons pe_str (pa_cons pe_str (pa_cons pe_str (pa_cons pe_str (pa_cons pe_str pa_nil)))))))))))))))
      (pss_cons (ps_set (i := 2) nd rfl (by first | exact Or.inl rfl | exact Or.inr rfl) (pe_op op_cat (pv 2) (pe_lst (pa_cons pe_str (pa_cons pe_str (pa_cons pe_str pa_nil))))))
      (pss_cons (ps_set (i := 3) nd rfl (by first | exact Or.inl rfl | exact Or.inr rfl) (pe_ix ix_list (pv 2) (pe_c c__law_drawn hr (by first | decide | omega) (by rfl) (pa_cons (pv 0) (pa_cons pe_int pa_nil))) (fun _ _ => rfl)))
      (pss_cons (ps_asg (pe_lc (own := [("_law_k", 8)]) (g := gName 8) (by rfl) nd (pi_range1 rfl T.n_range (pa_cons pe_int pa_nil)) (blkOk_by (N := ["_law_state", "_law_low_here", "_law_words", "_law_word", "_law_b", "_law_c", "_law_d", "_law_near", "_law_k"]) (sc := fnScope s__law_row) (by decide +kernel)) (fun _ _ _ _ _ => (pg_name (i := 8) nd rfl (by first | exact Or.inl rfl | exact Or.inr rfl))) (fun _ _ _ _ _ => pts_nil) (fun _ _ _ _ _ => (pe_c c__law_drawn hr (by first | decide | omega) (by rfl) (pa_cons (pv 0) (pa_cons pe_int pa_nil))))) (pg_unl (by rfl) (pgs_cons (pg_name (i := 4) nd rfl (by first | exact Or.inl rfl | exact Or.inr rfl)) (pgs_cons (pg_name (i := 5) nd rfl (by first | exact Or.inl rfl | exact Or.inr rfl)) (pgs_cons (pg_name (i := 6) nd rfl (by first | exact Or.inl rfl | exact Or.inr rfl)) pgs_nil)))))
      (pss_cons (ps_set (i := 7) nd rfl (by first | exact Or.inl rfl | exact Or.inr rfl) (pe_ix ix_list (pe_lst (pa_cons (pe_op op_add (pv 1) (pe_c c__law_drawn hr (by first | decide | omega) (by rfl) (pa_cons (pv 0) (pa_cons pe_int pa_nil)))) (pa_cons (pe_c c__law_number hr (by first | decide | omega) (by rfl) (pa_cons (pv 0) pa_nil)) pa_nil))) (pe_op op_fdivN (pe_c c__law_drawn hr (by first | decide | omega) (by rfl) (pa_cons (pv 0) (pa_cons pe_int pa_nil))) pe_int) (fun _ _ => rfl)))
      (pss_cons (ps_if (pt_cmpR op_in_seq (pv 3) (pe_tup (pa_cons pe_str (pa_cons pe_str (pa_cons pe_str (pa_cons pe_str pa_nil))))) (by rfl))
      (pss_one (ps_ret (pe_dget2 hu (pe_disp (pps_cons pe_str (pe_tup (pa_cons pe_str (pa_cons (pv 4) (pa_cons (pe_c c__law_number hr (by first | decide | omega) (by rfl) (pa_cons (pv 0) pa_nil)) pa_nil)))) (pps_cons pe_str (pe_tup (pa_cons pe_str (pa_cons (pv 4) (pa_cons (pv 7) pa_nil)))) pps_nil)) (by rfl) (by rfl) (fun z => by cases z) (by decide)) (pv 3) (pe_tup (pa_cons (pv 3) (pa_cons (pv 7) pa_nil))) ⟨rfl, rfl, rfl, rfl⟩)))
      pss_nil)
      (pss_cons (ps_if (pt_cmpR op_in_seq (pv 3) (pe_tup (pa_cons pe_str (pa_cons pe_str pa_nil))) (by rfl))
      (pss_one (ps_ret (pe_tup (pa_cons (pv 3) (pa_cons (pv 4) (pa_cons (pv 5) (pa_cons (pv 6) pa_nil)))))))
      pss_nil)
      (pss_cons (ps_if (pt_cmpR op_in_seq (pv 3) (pe_tup (pa_cons pe_str (pa_cons pe_str pa_nil))) (by rfl))
      (pss_one (ps_ret (pe_tup (pa_cons (pv 3) (pa_cons (pv 4) (pa_cons (pv 5) pa_nil))))))
      pss_nil)
      (pss_one (ps_ret (pe_ifExp (pt_cmpR op_eq (pv 3) pe_str (nomark _)) (pe_tup (pa_cons pe_str pa_nil)) (pe_tup (pa_cons (pv 3) (pa_cons (pe_ifExp (pt_cmpR op_eq (pv 3) pe_str (nomark _)) (pe_op op_mod (pv 4) pe_int) (pv 4)) pa_nil)))))))))))))), ?_⟩
    walk_at "b"
    have k := Bd.start hS
    refine s_newL k rfl fun p1 hp1 k => ?_
    walk_at "s"
    refine s_newL k rfl fun p2 hp2 k => ?_
    walk_at "s"
    refine fun p3 hp3 => ?_
    walk_at "s"
    have k := k.new (o := .lst ([V.str "put", V.str "put", V.str "add", V.str "less", V.str "load", V.str "store", V.str "zero", V.str "go", V.str "call", V.str "say", V.str "hear", V.str "which", V.str "room"] ++ [V.str "enter", V.str "alarm", V.str "stop"])) hp3
    refine u_drawn k.st (by decide) (by decide) fun x H1 h0 h1 f1 S1 => ?_
    have k := k.step f1 S1
    obtain ⟨z, e, hz⟩ := Y.at_str (ws := ["put", "put", "add", "less", "load", "store", "zero", "go", "call", "say", "hear", "which", "room", "enter", "alarm", "stop"]) (i := x) h0 h1
    refine Y.s_ixL' (SqL.of (k.get (.head _))) e ?_
    walk_at "s"
    have k : Bd K a H H1 [] := k.less (fun _ m => nomatch m)
    refine Y.s_lcR (by decide) (by decide) fun D hD => ⟨fun i acc Hx => Bd K a H Hx [(D, .lst acc)] ∧ acc.length = i ∧ ∀ v ∈ acc, ∃ b, v = V.int b ∧ Bx b, ?_, ?_, ?_⟩
    · exact ⟨k.new hD, rfl, fun v m => nomatch m⟩
    · rintro i acc Hx hi hl hD2 ⟨k, el, hb⟩
      walk_at "s"
      refine u_drawn k.st (by decide) (by decide) fun y H2 g0 g1 f2 S2 => ?_
      have k := k.step f2 S2
      refine Y.s_lcE (k.get (.head _)) hl (by omega) ⟨k.put [] (.head _) (.inl ⟨_, rfl⟩) (fun _ m => nomatch m) (fun _ m => nomatch m), by simp [el], ?_⟩
      intro v hv
      rcases List.mem_append.mp hv with hv | hv
      · exact hb v hv
      · exact ⟨y, by simpa using hv, g0, g1⟩
    · rintro acc Hx hD2 hl ⟨k, el, hb⟩
      match acc, el with
      | [v1, v2, v3], _ =>
        obtain ⟨b1, rfl, hb1⟩ := hb v1 (by simp)
        obtain ⟨b2, rfl, hb2⟩ := hb v2 (by simp)
        obtain ⟨b3, rfl, hb3⟩ := hb v3 (by simp)
        refine ⟨D, _, rfl, SqL.of hD2, rfl, _, _, rfl, _, _, rfl, _, _, rfl, rfl, ?_⟩
        walk_at "s"
        refine u_drawn k.st (by decide) (by decide) fun y H2 g0 g1 f2 S2 => ?_
        have k := k.step f2 S2
        walk_at "s"
        refine u_number k.st fun y2 H3 hy2 f3 S3 => ?_
        have k := k.step f3 S3
        walk_at "s"
        refine s_newL k rfl fun p4 hp4 k => ?_
        walk_at "s"
        refine u_drawn k.st (by decide) (by decide) fun x4 H4 k0 k1 f4 S4 => ?_
        have k := k.step f4 S4
        walk_at "s"
        obtain ⟨v, e4, near, rfl, hnear⟩ := Y.at_all (P := fun v => ∃ k, v = V.int k ∧ Nm k) (xs := [V.int (l + y), V.int y2]) (i := x4.fdiv 3) (by
          intro v hv
          simp only [List.mem_cons, List.not_mem_nil, or_false] at hv
          rcases hv with rfl | rfl
          · exact ⟨_, rfl, by omega, by omega⟩
          · exact ⟨_, rfl, hy2⟩) (by rw [Int.fdiv_eq_ediv_of_nonneg _ (by decide)]; omega) (by rw [Int.fdiv_eq_ediv_of_nonneg _ (by decide)]; show x4 / 3 < 2; omega)
        refine Y.s_ixL' (SqL.of (k.get (.head _))) e4 ?_
        walk_at "t"
        have k : Bd K a H H4 [] := k.less (fun _ m => nomatch m)
        refine Y.fgt (fun H' => Bd K a H H' []) k fun HB k => ?_
        simp only [List.mem_cons, List.not_mem_nil, or_false] at hz
        rcases hz with rfl | rfl | rfl | rfl | rfl | rfl | rfl | rfl | rfl | rfl | rfl | rfl | rfl | rfl | rfl | rfl
        · walk_at "s"
          refine s_newT k rfl fun p5 hp5 k => ?_
          walk_at "s"
          refine fun pd hpd => ?_
          have k := k.new (o := .dK []) hpd
          walk_at "s"
          refine u_number k.st fun y5 H5 hy5 f5 S5 => ?_
          have k := k.step f5 S5
          walk_at "s"
          refine s_newT k rfl fun p6 hp6 k => ?_
          walk_at "s"
          refine s_newT k rfl fun p7 hp7 k => ?_
          walk_at "s"
          refine Y.s_dend ["put", "zero"] [V.ref p6, V.ref p7] (k.get (.tail _ (.tail _ (.head _)))) rfl (by decide +kernel) rfl ?_
          have k := k.put (o := .dK ((["put", "zero"].zip [V.ref p6, V.ref p7]).map fun kv => ((Sum.inr kv.1 : Key), kv.2))) [(p7, _), (p6, _)] (.tail _ (.tail _ (.head _))) (.inr ⟨_, rfl⟩) (fun x m => by
            rcases List.mem_cons.mp m with rfl | m
            · exact .head _
            · rcases List.mem_cons.mp m with rfl | m
              · exact .tail _ (.head _)
              · cases m) (fun x m => by
            rcases List.mem_cons.mp m with rfl | m
            · exact ⟨_, rfl⟩
            · rcases List.mem_cons.mp m with rfl | m
              · exact ⟨_, rfl⟩
              · cases m)
          walk_at "s"
          refine s_newT k rfl fun p8 hp8 k => ?_
          refine Y.s_dgS (k.get (.tail _ (.head _))) rfl ?_
          walk_at "s"
          exact q p6 (.put b1 y5) _ k.fr k.st ⟨.inl (k.get (.tail _ (.tail _ (.tail _ (.head _))))), hb1, hy5⟩
        · walk_at "s"
          refine s_newT k rfl fun p5 hp5 k => ?_
          walk_at "s"
          refine fun pd hpd => ?_
          have k := k.new (o := .dK []) hpd
          walk_at "s"
          refine u_number k.st fun y5 H5 hy5 f5 S5 => ?_
          have k := k.step f5 S5
          walk_at "s"
          refine s_newT k rfl fun p6 hp6 k => ?_
          walk_at "s"
          refine s_newT k rfl fun p7 hp7 k => ?_
          walk_at "s"
          refine Y.s_dend ["put", "zero"] [V.ref p6, V.ref p7] (k.get (.tail _ (.tail _ (.head _)))) rfl (by decide +kernel) rfl ?_
          have k := k.put (o := .dK ((["put", "zero"].zip [V.ref p6, V.ref p7]).map fun kv => ((Sum.inr kv.1 : Key), kv.2))) [(p7, _), (p6, _)] (.tail _ (.tail _ (.head _))) (.inr ⟨_, rfl⟩) (fun x m => by
            rcases List.mem_cons.mp m with rfl | m
            · exact .head _
            · rcases List.mem_cons.mp m with rfl | m
              · exact .tail _ (.head _)
              · cases m) (fun x m => by
            rcases List.mem_cons.mp m with rfl | m
            · exact ⟨_, rfl⟩
            · rcases List.mem_cons.mp m with rfl | m
              · exact ⟨_, rfl⟩
              · cases m)
          walk_at "s"
          refine s_newT k rfl fun p8 hp8 k => ?_
          refine Y.s_dgS (k.get (.tail _ (.head _))) rfl ?_
          walk_at "s"
          exact q p6 (.put b1 y5) _ k.fr k.st ⟨.inl (k.get (.tail _ (.tail _ (.tail _ (.head _))))), hb1, hy5⟩
        · walk_at "s"
          refine s_newT k rfl fun p5 hp5 k => ?_
          walk_at "s"
          refine s_newT k rfl fun p6 hp6 k => ?_
          walk_at "s"
          refine s_newT k rfl fun p7 hp7 k => ?_
          walk_at "s"
          exact q p7 (.add b1 b2 b3) _ k.fr k.st ⟨.inl (k.get (.head _)), hb1, hb2, hb3⟩
        · walk_at "s"
          refine s_newT k rfl fun p5 hp5 k => ?_
          walk_at "s"
          refine s_newT k rfl fun p6 hp6 k => ?_
          walk_at "s"
          refine s_newT k rfl fun p7 hp7 k => ?_
          walk_at "s"
          exact q p7 (.less b1 b2 b3) _ k.fr k.st ⟨.inl (k.get (.head _)), hb1, hb2, hb3⟩
        · walk_at "s"
          refine s_newT k rfl fun p5 hp5 k => ?_
          walk_at "s"
          refine s_newT k rfl fun p6 hp6 k => ?_
          walk_at "s"
          refine s_newT k rfl fun p7 hp7 k => ?_
          walk_at "s"
          refine s_newT k rfl fun p8 hp8 k => ?_
          walk_at "s"
          exact q p8 (.load b1 b2) _ k.fr k.st ⟨.inl (k.get (.head _)), hb1, hb2⟩
        · walk_at "s"
          refine s_newT k rfl fun p5 hp5 k => ?_
          walk_at "s"
          refine s_newT k rfl fun p6 hp6 k => ?_
          walk_at "s"
          refine s_newT k rfl fun p7 hp7 k => ?_
          walk_at "s"
          refine s_newT k rfl fun p8 hp8 k => ?_
          walk_at "s"
          exact q p8 (.store b1 b2) _ k.fr k.st ⟨.inl (k.get (.head _)), hb1, hb2⟩
        · walk_at "s"
          refine s_newT k rfl fun p5 hp5 k => ?_
          walk_at "s"
          refine fun pd hpd => ?_
          have k := k.new (o := .dK []) hpd
          walk_at "s"
          refine u_number k.st fun y5 H5 hy5 f5 S5 => ?_
          have k := k.step f5 S5
          walk_at "s"
          refine s_newT k rfl fun p6 hp6 k => ?_
          walk_at "s"
          refine s_newT k rfl fun p7 hp7 k => ?_
          walk_at "s"
          refine Y.s_dend ["put", "zero"] [V.ref p6, V.ref p7] (k.get (.tail _ (.tail _ (.head _)))) rfl (by decide +kernel) rfl ?_
          have k := k.put (o := .dK ((["put", "zero"].zip [V.ref p6, V.ref p7]).map fun kv => ((Sum.inr kv.1 : Key), kv.2))) [(p7, _), (p6, _)] (.tail _ (.tail _ (.head _))) (.inr ⟨_, rfl⟩) (fun x m => by
            rcases List.mem_cons.mp m with rfl | m
            · exact .head _
            · rcases List.mem_cons.mp m with rfl | m
              · exact .tail _ (.head _)
              · cases m) (fun x m => by
            rcases List.mem_cons.mp m with rfl | m
            · exact ⟨_, rfl⟩
            · rcases List.mem_cons.mp m with rfl | m
              · exact ⟨_, rfl⟩
              · cases m)
          walk_at "s"
          refine s_newT k rfl fun p8 hp8 k => ?_
          refine Y.s_dgS (k.get (.tail _ (.head _))) rfl ?_
          walk_at "s"
          exact q p7 (.zero b1 near) _ k.fr k.st ⟨.inl (k.get (.tail _ (.tail _ (.head _)))), hb1, hnear⟩
        · walk_at "s"
          refine s_newT k rfl fun p5 hp5 k => ?_
          walk_at "s"
          refine fun pd hpd => ?_
          have k := k.new (o := .dK []) hpd
          walk_at "s"
          refine u_number k.st fun y5 H5 hy5 f5 S5 => ?_
          have k := k.step f5 S5
          walk_at "s"
          refine s_newT k rfl fun p6 hp6 k => ?_
          walk_at "s"
          refine s_newT k rfl fun p7 hp7 k => ?_
          walk_at "s"
          refine Y.s_dend ["put", "zero"] [V.ref p6, V.ref p7] (k.get (.tail _ (.tail _ (.head _)))) rfl (by decide +kernel) rfl ?_
          have k := k.put (o := .dK ((["put", "zero"].zip [V.ref p6, V.ref p7]).map fun kv => ((Sum.inr kv.1 : Key), kv.2))) [(p7, _), (p6, _)] (.tail _ (.tail _ (.head _))) (.inr ⟨_, rfl⟩) (fun x m => by
            rcases List.mem_cons.mp m with rfl | m
            · exact .head _
            · rcases List.mem_cons.mp m with rfl | m
              · exact .tail _ (.head _)
              · cases m) (fun x m => by
            rcases List.mem_cons.mp m with rfl | m
            · exact ⟨_, rfl⟩
            · rcases List.mem_cons.mp m with rfl | m
              · exact ⟨_, rfl⟩
              · cases m)
          walk_at "s"
          refine s_newT k rfl fun p8 hp8 k => ?_
          refine Y.s_dgS (k.get (.tail _ (.head _))) rfl ?_
          walk_at "s"
          exact q p8 (.go near) _ k.fr k.st ⟨.inl (k.get (.head _)), hnear⟩
        · walk_at "s"
          refine s_newT k rfl fun p5 hp5 k => ?_
          walk_at "s"
          refine fun pd hpd => ?_
          have k := k.new (o := .dK []) hpd
          walk_at "s"
          refine u_number k.st fun y5 H5 hy5 f5 S5 => ?_
          have k := k.step f5 S5
          walk_at "s"
          refine s_newT k rfl fun p6 hp6 k => ?_
          walk_at "s"
          refine s_newT k rfl fun p7 hp7 k => ?_
          walk_at "s"
          refine Y.s_dend ["put", "zero"] [V.ref p6, V.ref p7] (k.get (.tail _ (.tail _ (.head _)))) rfl (by decide +kernel) rfl ?_
          have k := k.put (o := .dK ((["put", "zero"].zip [V.ref p6, V.ref p7]).map fun kv => ((Sum.inr kv.1 : Key), kv.2))) [(p7, _), (p6, _)] (.tail _ (.tail _ (.head _))) (.inr ⟨_, rfl⟩) (fun x m => by
            rcases List.mem_cons.mp m with rfl | m
            · exact .head _
            · rcases List.mem_cons.mp m with rfl | m
              · exact .tail _ (.head _)
              · cases m) (fun x m => by
            rcases List.mem_cons.mp m with rfl | m
            · exact ⟨_, rfl⟩
            · rcases List.mem_cons.mp m with rfl | m
              · exact ⟨_, rfl⟩
              · cases m)
          walk_at "s"
          refine s_newT k rfl fun p8 hp8 k => ?_
          refine Y.s_dgS (k.get (.tail _ (.head _))) rfl ?_
          walk_at "s"
          exact q p8 (.call near) _ k.fr k.st ⟨.inl (k.get (.head _)), hnear⟩
        · walk_at "s"
          refine s_newT k rfl fun p5 hp5 k => ?_
          walk_at "s"
          refine s_newT k rfl fun p6 hp6 k => ?_
          walk_at "s"
          refine s_newT k rfl fun p7 hp7 k => ?_
          walk_at "s"
          refine s_newT k rfl fun p8 hp8 k => ?_
          walk_at "s"
          exact q p8 (.say b1) _ k.fr k.st ⟨.inl (k.get (.head _)), hb1⟩
        · walk_at "s"
          refine s_newT k rfl fun p5 hp5 k => ?_
          walk_at "s"
          refine s_newT k rfl fun p6 hp6 k => ?_
          walk_at "s"
          refine s_newT k rfl fun p7 hp7 k => ?_
          walk_at "s"
          refine s_newT k rfl fun p8 hp8 k => ?_
          walk_at "s"
          exact q p8 (.hear b1) _ k.fr k.st ⟨.inl (k.get (.head _)), hb1⟩
        · walk_at "s"
          refine s_newT k rfl fun p5 hp5 k => ?_
          walk_at "s"
          refine s_newT k rfl fun p6 hp6 k => ?_
          walk_at "s"
          refine s_newT k rfl fun p7 hp7 k => ?_
          walk_at "s"
          refine s_newT k rfl fun p8 hp8 k => ?_
          walk_at "s"
          exact q p8 (.which b1) _ k.fr k.st ⟨.inl (k.get (.head _)), hb1⟩
        · walk_at "s"
          refine s_newT k rfl fun p5 hp5 k => ?_
          walk_at "s"
          refine s_newT k rfl fun p6 hp6 k => ?_
          walk_at "s"
          refine s_newT k rfl fun p7 hp7 k => ?_
          walk_at "s"
          refine s_newT k rfl fun p8 hp8 k => ?_
          walk_at "s"
          exact q p8 (.room b1) _ k.fr k.st ⟨.inl (k.get (.head _)), hb1⟩
        · walk_at "s"
          refine s_newT k rfl fun p5 hp5 k => ?_
          walk_at "s"
          refine s_newT k rfl fun p6 hp6 k => ?_
          walk_at "s"
          refine s_newT k rfl fun p7 hp7 k => ?_
          walk_at "s"
          refine s_newT k rfl fun p8 hp8 k => ?_
          walk_at "s"
          exact q p8 (.enter (b1 % 2)) _ k.fr k.st ⟨.inl (k.get (.head _)), Int.emod_nonneg _ (by decide), Int.emod_lt_of_pos _ (by decide)⟩
        · walk_at "s"
          refine s_newT k rfl fun p5 hp5 k => ?_
          walk_at "s"
          refine s_newT k rfl fun p6 hp6 k => ?_
          walk_at "s"
          refine s_newT k rfl fun p7 hp7 k => ?_
          walk_at "s"
          refine s_newT k rfl fun p8 hp8 k => ?_
          walk_at "s"
          exact q p8 (.alarm b1) _ k.fr k.st ⟨.inl (k.get (.head _)), hb1⟩
        · walk_at "s"
          refine s_newT k rfl fun p5 hp5 k => ?_
          walk_at "s"
          refine s_newT k rfl fun p6 hp6 k => ?_
          walk_at "s"
          refine s_newT k rfl fun p7 hp7 k => ?_
          walk_at "s"
          refine s_newT k rfl fun p8 hp8 k => ?_
          walk_at "s"
          exact q p8 (.stop) _ k.fr k.st ⟨.inl (k.get (.head _)), True.intro⟩
end
end G
end
section
namespace G
open PySem L2 C8
variable {K : PySem.W.Frag}
theorem u_row {K : PySem.W.Frag} {H : Hp} {Q : VK} {E : XK} {a : Addr} {l : Int} (h : StAt K H a) (h0 : 0 ≤ l) (h1 : l ≤ 900) (q : ∀ (p : Addr) (r : Row) (H' : Hp), Fr a H H' → StAt K H' a → (Thing.row p r).At K H' → Q (.ref p) H') : spRow K ([.ref a, .int l] ++ []) H Q E := ⟨a, l, rfl, h, h0, h1, q⟩
def spCells (K : PySem.W.Frag) : Sp := fun vs H Q _ => ∃ (a : Addr), vs = [.ref a] ∧ StAt K H a ∧ ∀ (p : Addr) (ts : List Thing) (H' : Hp), H p = none → Fr a H H' → StAt K H' a → (CellsAt K) H' p ts → Q (.ref p) H'
def spEar (K : PySem.W.Frag) : Sp := fun vs H Q _ => ∃ (a : Addr), vs = [.ref a] ∧ StAt K H a ∧ ∀ (p : Addr) (ns : List Int) (H' : Hp), H p = none → Fr a H H' → StAt K H' a → H' p = some (.lst (ns.map V.int)) → (∀ n ∈ ns, Nm n) → ns.length ≤ 20 → Q (.ref p) H'
def spKind (K : PySem.W.Frag) : Sp := fun vs H Q _ => ∃ (a : Addr), vs = [.ref a] ∧ StAt K H a ∧ ∀ (p : Addr) (bs : List Bool) (H' : Hp), Fr a H H' → StAt K H' a → H' p = some (.tup (bs.map V.bl)) → bs.length = 7 → Q (.ref p) H'
section
variable {P : Program} {w : World} {K : PySem.W.Frag} {mg : Str → Option Value} {base : Heap}
abbrev s__law_any : Stmt := top 119
theorem sc__law_any : FnScope ["_law_state", "_law_many", "_law_often", "_law_at"] ["_law_state"] (fnScope s__law_any) := fnScope_by (by decide +kernel)
theorem ok__law_any {f : Addr} {fd : FuncData} (F : Def K mg "_law_any" s__law_any f fd) (b : Binds K fd ["_law_state"] []) (T : Txt K mg)
    (c__law_drawn : Cal P w K mg base 1 "_law_drawn" (spDrawn K) []) (c__law_number : Cal P w K mg base 2 "_law_number" (spNumber K) []) (c__law_row : Cal P w K mg base 3 "_law_row" (spRow K) []) : Cal P w K mg base 4 "_law_any" (spCells K) [] := by
  refine cal0 F b .nil sc__law_any (fun vs H Q E h => ?_) (fun cdv A outer s H vs Q E hr h => ?_)
  · obtain ⟨a, rfl, _⟩ := h
    rfl
  · obtain ⟨a, rfl, hS, q⟩ := h
    have nd := sc__law_any.nd
    refine ⟨_, (pss_cons (ps_set (i := 1) nd rfl (by first | exact Or.inl rfl | exact Or.inr rfl) (pe_op op_add pe_int (pe_c c__law_drawn hr (by first | decide | omega) (by rfl) (pa_cons (pv 0) (pa_cons pe_int pa_nil)))))
      (pss_cons (ps_set (i := 2) nd rfl (by first | exact Or.inl rfl | exact Or.inr rfl) (pe_op op_add pe_int (pe_c c__law_drawn hr (by first | decide | omega) (by rfl) (pa_cons (pv 0) (pa_cons pe_int pa_nil)))))
      (pss_one (ps_ret (pe_lc (own := [("_law_at", 3)]) (g := gName 3) (by rfl) nd (pi_range1 rfl T.n_range (pa_cons (pv 1) pa_nil)) (blkOk_by (N := ["_law_state", "_law_many", "_law_often", "_law_at"]) (sc := fnScope s__law_any) (by decide +kernel)) (fun _ _ _ _ _ => (pg_name (i := 3) nd rfl (by first | exact Or.inl rfl | exact Or.inr rfl))) (fun _ _ _ _ _ => pts_nil) (fun _ _ _ _ _ => (pe_ifExp (pt_cmpR op_eq (pe_c c__law_drawn hr (by first | decide | omega) (by rfl) (pa_cons (pv 0) (pa_cons (pv 2) pa_nil))) pe_int (nomark _)) (pe_c c__law_number hr (by first | decide | omega) (by rfl) (pa_cons (pv 0) pa_nil)) (pe_c c__law_row hr (by first | decide | omega) (by rfl) (pa_cons (pv 0) (pa_cons pe_int pa_nil)))))))))), ?_⟩
    walk_at "b"
    refine u_drawn hS (by decide) (by decide) fun x H1 x0 x1 f1 S1 => ?_
    walk_at "s"
    refine u_drawn S1 (by decide) (by decide) fun y H2 y0 y1 f2 S2 => ?_
    walk_at "s"
    refine Y.s_lcR (by omega) (by omega) fun D hD => ⟨fun i acc Hx => Fr a H2 Hx ∧ StAt K Hx a ∧ ∃ ts : List Thing, acc = ts.map Thing.v ∧ (Things K) Hx ts ∧ ts.length = i, ?_, ?_, ?_⟩
    · exact ⟨by walk_at "fr", by walk_at "st", [], rfl, fun t m => (nomatch m), rfl⟩
    · rintro i acc Hx hi hl hD2 ⟨fx, Sx, ts, rfl, ht, el⟩
      walk_at "s"
      refine u_drawn Sx (by omega) (by omega) fun z H3 z0 z1 f3 S3 => ?_
      walk_at "s"
      refine Y.s_d2 (fun _ => ?_) (fun _ => ?_)
      · walk_at "s"
        refine u_number S3 fun n H4 hn f4 S4 => ?_
        have t4 : Tu Hx H4 := by walk_at "tu"
        have e4 : H4 D = some (.lst (ts.map Thing.v)) := by walk_at "hp"
        exact Y.s_lcE e4 hl (by omega) ⟨by walk_at "fr", by walk_at "st", ts ++ [.num n], by rw [List.map_append]; rfl, thing_snoc (t := .num n) (ht.tu ((Tu.lst t4 e4))) hn, by rw [List.length_append, el]; rfl⟩
      · walk_at "s"
        refine u_row S3 (by decide) (by decide) fun p r H4 f4 S4 hp4 => ?_
        have t4 : Tu Hx H4 := by walk_at "tu"
        have e4 : H4 D = some (.lst (ts.map Thing.v)) := by walk_at "hp"
        exact Y.s_lcE e4 hl (by omega) ⟨by walk_at "fr", by walk_at "st", ts ++ [.row p r], by rw [List.map_append]; rfl, thing_snoc (t := .row p r) (ht.tu ((Tu.lst t4 e4))) (hp4.tu (Tu.lst (Tu.refl _) e4)), by rw [List.length_append, el]; rfl⟩
    · rintro acc Hx hD2 hl ⟨fx, Sx, ts, rfl, ht, el⟩
      have hn := (f1.trans f2).free hD (ne_of_none S2.spec hD).symm
      walk_at "s"
      exact q D ts Hx hn (by walk_at "fr") Sx ⟨hD2, ht, by omega, by omega⟩
abbrev s__law_ear : Stmt := top 123
theorem sc__law_ear : FnScope ["_law_state", "_law_k"] ["_law_state"] (fnScope s__law_ear) := fnScope_by (by decide +kernel)
theorem ok__law_ear {f : Addr} {fd : FuncData} (F : Def K mg "_law_ear" s__law_ear f fd) (b : Binds K fd ["_law_state"] []) (T : Txt K mg)
    (c__law_drawn : Cal P w K mg base 1 "_law_drawn" (spDrawn K) []) (c__law_number : Cal P w K mg base 2 "_law_number" (spNumber K) []) : Cal P w K mg base 3 "_law_ear" (spEar K) [] := by
  refine cal0 F b .nil sc__law_ear (fun vs H Q E h => ?_) (fun cdv A outer s H vs Q E hr h => ?_)
  · obtain ⟨a, rfl, _⟩ := h
    rfl
  · obtain ⟨a, rfl, hS, q⟩ := h
    have nd := sc__law_ear.nd
    refine ⟨_, (pss_one (ps_ret (pe_lc (own := [("_law_k", 1)]) (g := gName 1) (by rfl) nd (pi_range1 rfl T.n_range (pa_cons (pe_c c__law_drawn hr (by first | decide | omega) (by rfl) (pa_cons (pv 0) (pa_cons (pe_ix ix_list (pe_lst (pa_cons pe_int (pa_cons pe_int pa_nil))) (pe_c c__law_drawn hr (by first | decide | omega) (by rfl) (pa_cons (pv 0) (pa_cons pe_int pa_nil))) (fun _ _ => rfl)) pa_nil))) pa_nil)) (blkOk_by (N := ["_law_state", "_law_k"]) (sc := fnScope s__law_ear) (by decide +kernel)) (fun _ _ _ _ _ => (pg_name (i := 1) nd rfl (by first | exact Or.inl rfl | exact Or.inr rfl))) (fun _ _ _ _ _ => pts_nil) (fun _ _ _ _ _ => (pe_c c__law_number hr (by first | decide | omega) (by rfl) (pa_cons (pv 0) pa_nil)))))), ?_⟩
    walk_at "b"
    refine Y.s_new rfl fun p1 hp1 => ?_
    walk_at "s"
    refine u_drawn (by walk_at "st") (by decide) (by decide) fun x H1 x0 x1 f1 S1 => ?_
    obtain ⟨v, e, k, rfl, k0, k1⟩ := Y.at_all (P := fun v => ∃ k, v = V.int k ∧ 0 < k ∧ k ≤ 21) (xs := [V.int 4, V.int 21]) (i := x) (by
      intro v hv
      simp only [List.mem_cons, List.not_mem_nil, or_false] at hv
      rcases hv with rfl | rfl <;> exact ⟨_, rfl, by decide, by decide⟩) x0 x1
    refine Y.s_ixL' (SqL.of (f1 p1 _ (by walk_at "ne") upd_same)) e ?_
    walk_at "s"
    refine u_drawn S1 k0 (by omega) fun y H2 y0 y1 f2 S2 => ?_
    walk_at "s"
    refine Y.s_lcR y0 (by omega) fun D hD => ⟨fun i acc Hx => Fr a H2 Hx ∧ StAt K Hx a ∧ ∃ ns : List Int, acc = ns.map V.int ∧ (∀ n ∈ ns, Nm n) ∧ ns.length = i, ?_, ?_, ?_⟩
    · exact ⟨by walk_at "fr", by walk_at "st", [], rfl, fun t m => (nomatch m), rfl⟩
    · rintro i acc Hx hi hl hD2 ⟨fx, Sx, ns, rfl, ht, el⟩
      walk_at "s"
      refine u_number Sx fun n H4 hn f4 S4 => ?_
      have e4 : H4 D = some (.lst (ns.map V.int)) := by walk_at "hp"
      refine Y.s_lcE e4 hl (by omega) ⟨by walk_at "fr", by walk_at "st", ns ++ [n], by rw [List.map_append]; rfl, fun m hm => ?_, by rw [List.length_append, el]; rfl⟩
      rcases List.mem_append.mp hm with hm | hm
      · exact ht m hm
      · rw [List.mem_singleton] at hm; rw [hm]; exact hn
    · rintro acc Hx hD2 hl ⟨fx, Sx, ns, rfl, ht, el⟩
      have h1 := (f1.trans f2).free hD (ne_of_none S2.spec hD).symm
      have hn : H D = none := ((Fr.refl a H).new hp1).free h1 (ne_of_none S2.spec hD).symm
      walk_at "s"
      exact q D ns Hx hn (by walk_at "fr") Sx hD2 ht (by omega)
abbrev s__law_kind : Stmt := top 122
theorem sc__law_kind : FnScope ["_law_state", "_law_way", "_law_one", "_law_k"] ["_law_state"] (fnScope s__law_kind) := fnScope_by (by decide +kernel)
theorem ok__law_kind {f : Addr} {fd : FuncData} (F : Def K mg "_law_kind" s__law_kind f fd) (b : Binds K fd ["_law_state"] []) (T : Txt K mg)
    (c__law_drawn : Cal P w K mg base 1 "_law_drawn" (spDrawn K) []) : Cal P w K mg base 2 "_law_kind" (spKind K) [] := by
  refine cal0 F b .nil sc__law_kind (fun vs H Q E h => ?_) (fun cdv A outer s H vs Q E hr h => ?_)
  · obtain ⟨a, rfl, _⟩ := h
    rfl
  · obtain ⟨a, rfl, hS, q⟩ := h
    have nd := sc__law_kind.nd
    refine ⟨_, (pss_cons (ps_set (i := 1) nd rfl (by first | exact Or.inl rfl | exact Or.inr rfl) (pe_c c__law_drawn hr (by first | decide | omega) (by rfl) (pa_cons (pv 0) (pa_cons pe_int pa_nil))))
      (pss_cons (ps_if (pt_cmpR op_eq (pv 1) pe_int (nomark _))
      (pss_one (ps_ret (pe_op op_repT (pe_tup (pa_cons pe_bl pa_nil)) pe_int)))
      pss_nil)
      (pss_cons (ps_set (i := 2) nd rfl (by first | exact Or.inl rfl | exact Or.inr rfl) (pe_c c__law_drawn hr (by first | decide | omega) (by rfl) (pa_cons (pv 0) (pa_cons pe_int pa_nil))))
      (pss_one (ps_ret (pe_callTy Y.cl_tuple (by rfl) T.n_tuple (by decide +kernel) (pa_cons (pe_lc (own := [("_law_k", 3)]) (g := gName 3) (by rfl) nd (pi_range1 rfl T.n_range (pa_cons pe_int pa_nil)) (blkOk_by (N := ["_law_state", "_law_way", "_law_one", "_law_k"]) (sc := fnScope s__law_kind) (by decide +kernel)) (fun _ _ _ _ _ => (pg_name (i := 3) nd rfl (by first | exact Or.inl rfl | exact Or.inr rfl))) (fun _ _ _ _ _ => pts_nil) (fun _ _ _ _ _ => (pe_ifExp (pt_cmpR op_eq (pv 1) pe_int (nomark _)) (pe_cmpR op_eq (pe_c c__law_drawn hr (by first | decide | omega) (by rfl) (pa_cons (pv 0) (pa_cons pe_int pa_nil))) pe_int (nomark _)) (pe_cmpR op_ne (pv 3) (pv 2) (nomark _))))) pa_nil))))))), ?_⟩
    walk_at "b"
    refine u_drawn hS (by decide) (by decide) fun x H1 x0 x1 f1 S1 => ?_
    walk_at "s"
    refine Y.s_d2 (fun _ => ?_) (fun _ => ?_)
    · walk_at "s"
      refine Y.s_new rfl fun p1 hp1 => ?_
      walk_at "s"
      refine Y.s_repT (by walk_at "sq") (by simp) (by decide) (by decide) (by decide) fun p2 hp2 => ?_
      walk_at "s"
      exact q p2 (List.replicate 7 true) _ (by walk_at "fr") (by walk_at "st") upd_same rfl
    · walk_at "s"
      refine u_drawn S1 (by decide) (by decide) fun y H2 y0 y1 f2 S2 => ?_
      walk_at "s"
      refine Y.s_lcR (by decide) (by decide) fun D hD => ⟨fun i acc Hx => Fr a H2 Hx ∧ StAt K Hx a ∧ ∃ bs : List Bool, acc = bs.map V.bl ∧ bs.length = i, ?_, ?_, ?_⟩
      · exact ⟨by walk_at "fr", by walk_at "st", [], rfl, rfl⟩
      · rintro i acc Hx hi hl hD2 ⟨fx, Sx, bs, rfl, el⟩
        walk_at "s"
        refine Y.s_d2 (fun _ => ?_) (fun _ => ?_)
        · walk_at "s"
          refine u_drawn Sx (by decide) (by decide) fun z H3 z0 z1 f3 S3 => ?_
          walk_at "s"
          have e4 : H3 D = some (.lst (bs.map V.bl)) := by walk_at "hp"
          exact Y.s_lcE e4 hl (by omega) ⟨by walk_at "fr", by walk_at "st", bs ++ [_], by rw [List.map_append]; rfl, by rw [List.length_append, el]; rfl⟩
        · walk_at "s"
          exact Y.s_lcE hD2 hl (by omega) ⟨by walk_at "fr", by walk_at "st", bs ++ [_], by rw [List.map_append]; rfl, by rw [List.length_append, el]; rfl⟩
      · rintro acc Hx hD2 hl ⟨fx, Sx, bs, rfl, el⟩
        walk_at "s"
        intro t ht
        exact q t bs _ (by walk_at "fr") (by walk_at "st") upd_same el
end
end G
end
section
namespace G
open PySem L2 C8
variable {K : PySem.W.Frag}
def spLaw (K : PySem.W.Frag) : Sp := fun vs H Q _ => ∃ (a : Addr) (ns : List Int), vs = [.ref a] ∧ Lk K H a (ns.map V.int) ∧ ns.length ≤ 63 ∧ ∀ H', Q (.bl true) H'
theorem seq_cut {ta tb : TS} {D : Ends} {σ : L2.St} {H : Hp} (Inv : L2.St → Hp → Prop) (h2 : ∀ σ H, Inv σ H → tb D σ H) (h1 : (∀ σ H, Inv σ H → tb D σ H) → ta { D with nx := tb D } σ H) : tSeq ta tb D σ H := h1 h2
theorem kind_st {st pk : Addr} {bs : List Bool} {H H' : Hp} (S : StAt K H st) (k : KindAt H pk bs) (f : Fr st H H') : KindAt H' pk bs := ⟨f _ _ (fun z => by obtain ⟨xs, e⟩ := S.lst; have := k.1; rw [z, e] at this; cases this) k.1, k.2⟩
theorem st_frs13 {H H' : Hp} {a : Addr} {S : List Addr} (h : StAt K H a) (n : a ∉ S) (f : FrS S H H') (ks : ∀ p ∈ S, ∀ o xs, H p ≠ some (.frz o (.lst xs))) : StAt K H' a := by
  obtain ⟨p, ns, i, mm, r, e, q, z⟩ := h
  refine ⟨p, ns, i, mm, r, f a _ n e, ?_, z⟩
  rcases q with ⟨o, q⟩ | q
  · exact .inl ⟨o, f p _ (fun hp => ks p hp _ _ q) q⟩
  · exact .inr q
section
variable {H : Hp} {L : Lm} {m : Mc} {A : Adr} {pk : Addr} {Q : VK} {E : XK}
theorem own_some (k : LmAt K H L m) : ∀ a ∈ L.own, ∃ o, H a = some o := fun a ha => by
  rcases Lm.kind k a ha with ⟨_, e⟩ | ⟨_, e⟩ <;> exact ⟨_, e⟩
theorem own_frz (k : LmAt K H L m) {p : Addr} {xs : List V} (e : H p = some (.lst xs)) : ∀ q ∈ p :: L.own, ∀ o ys, H q ≠ some (.frz o (.lst ys)) := fun q hq o ys e2 => by
  rcases List.mem_cons.mp hq with rfl | hq
  · rw [e] at e2; cases e2
  · rcases Lm.kind k q hq with ⟨_, e3⟩ | ⟨_, e3⟩ <;> rw [e3] at e2 <;> cases e2
theorem own_tu (k : LmAt K H L m) {H' : Hp} {p : Addr} {xs : List V} (e : H p = some (.lst xs)) (f : FrS (p :: L.own) H H') : Tu H H' := fun q ys e2 => f q _ (fun hq => by
  rcases List.mem_cons.mp hq with rfl | hq
  · rw [e] at e2; cases e2
  · rcases Lm.kind k q hq with ⟨_, e3⟩ | ⟨_, e3⟩ <;> rw [e3] at e2 <;> cases e2) e2
theorem u_lm13 {pc pe : Addr} {ts : List Thing} {ns : List Int} (hc : CellsAt K H pc ts) (he : H pe = some (.lst (ns.map V.int))) (hn : ∀ n ∈ ns, Nm n) (hl : ns.length ≤ 20) (q : ∀ L H', Same H H' → (∀ a ∈ L.own, H a = none) → LmAt K H' L (Mc.start ts ns) → Q (.ref L.d) H') : spLMachine K ([.ref pc, .ref pe] ++ []) H Q E := ⟨pc, pe, ts, ns, rfl, hc, he, hn, hl, q⟩
theorem u_lb13 (k : LmAt K H L m) (q : ∀ t H', Same H H' → H t = none → BundleAt K H' t m → Q (.ref t) H') : spLBundle K ([.ref L.d] ++ []) H Q E := ⟨L, m, rfl, k, q⟩
theorem u_lg13 {pm : Addr} {wv : V} {n : Nat} (k : LmAt K H L m) (hk : KindAt H pk A.bs) (hw : WayIs A wv) (hi : m.Hi) (np : pm ∉ L.own) (e : H pm = some (.lst (m.gsaid.map V.int))) (h1 : n ≤ 1000) (l1 : m.said.length = 0) (l2 : m.gsaid.length = 0) (q : ∀ H' L', FrS (pm :: L.own) H H' → L'.d = L.d → (∀ a ∈ L'.own, a ∈ L.own ∨ H a = none) → LmAt K H' L' (m.goes A n).1 → Q (.int ((m.goes A n).2 : Nat)) H') : spLGoes K ([.ref L.d, .ref pk, wv, .ref pm, .int (n : Nat)] ++ []) H Q E :=
  ⟨L, m, A, pk, pm, wv, (n : Nat), rfl, k, hk, hw, hi, np, e, by omega, by omega, by rw [l1, Int.toNat_natCast]; omega, by rw [l2, Int.toNat_natCast]; omega, by rw [Int.toNat_natCast]; exact fun H' L' f d g k' _ _ => q H' L' f d g k'⟩
end
theorem made {C x dx : Addr} {H H' : Hp} (hx : H x = none) (hdx : H dx = none) (f : FrS [x] (upd (upd H dx (.own x)) x (.ins C dx [])) H') : Same H H' := fun c o e => f c o (fun m => ne_of_none e hx (List.mem_singleton.mp m)) (by rw [upd_ne (ne_of_none e hx), upd_ne (ne_of_none e hdx)]; exact e)
section
variable {P : Program} {w : World} {K : PySem.W.Frag} {mg : Str → Option Value} {base : Heap} {Z : Zs K} {CU CH CM : Addr}
abbrev s_law : Stmt := top 135
theorem sc_law : FnScope ["_law_script", "_law_state", "_law_turn", "_law_kind_here", "_law_way", "_law_one", "_law_again", "_law_told", "_law_cells_here", "_law_ear_here", "_law_many", "_law_machine_here", "_law_host", "_law_number_here", "_law_other", "_law_k"] ["_law_script"] (fnScope s_law) := fnScope_by (by decide +kernel)
theorem ok_law {f : Addr} {fd : FuncData} (F : Def K mg "law" s_law f fd) (T : Txt K mg)
    (c__law_start : Cal P w K mg base 1 "_law_start" (spStart K) []) (c__law_drawn : Cal P w K mg base 1 "_law_drawn" (spDrawn K) []) (c__law_kind : Cal P w K mg base 2 "_law_kind" (spKind K) []) (c_unlike : Cal P w K mg base 3 "unlike" (spUnlikeX K) [])
    (c__law_machine : Cal P w K mg base 1 "_law_machine" (spLMachine K) []) (c__law_bundle : Cal P w K mg base 1 "_law_bundle" (spLBundle K) []) (c__law_goes : Cal P w K mg base 5 "_law_goes" (spLGoes K) [])
    (m_Ground : Mak P w K mg base 4 "Ground" Z.CG (spGroundInit Z) []) (m_Host : Mak P w K mg base 2 "Host" CH (spHostInit CH) []) (m_Host_come : Met P w K mg base 10 CH "come" (spCome Z CU CH) []) (m_Host_go : Met P w K mg base 15 CH "go" (spHostGo Z CU CH) []) (m_Host_carried : Met P w K mg base 9 CH "carried" (spHostCarried Z CU CH) [])
    (m_Machine : Mak P w K mg base 5 "Machine" CM (spMachInit Z CM) []) (m_Machine_go : Met P w K mg base 15 CM "go" (spMachGo Z CM) []) (m_Machine_carried : Met P w K mg base 9 CM "carried" (spMachCarried Z CM) []) : FnOk P w K mg base C8.CX0 40 f fd ["_law_script"] (spLaw K) := by
  refine fn0 F.fn sc_law (fun vs H Q E h => ?_) (fun cdv A outer s H vs Q E hr h => ?_)
  · obtain ⟨a, ns, rfl, _⟩ := h
    rfl
  · obtain ⟨a, ns, rfl, hs, _, q⟩ := h
    have nd := sc_law.nd
    have hu := hu_of hr
    refine ⟨_, (pss_cons (ps_set (i := 1) nd rfl (by first | exact Or.inl rfl | exact Or.inr rfl) (pe_c c__law_start hr (by first | decide | omega) (by rfl) (pa_cons (pv 0) pa_nil)))
      (pss_cons (ps_for PassesOwn.never rfl (pi_range1 rfl T.n_range (pa_cons pe_int pa_nil)) (pg_name (i := 2) nd rfl (by first | exact Or.inl rfl | exact Or.inr rfl))
      (pss_cons (ps_par (i := 3) (j := 4) (by rfl) nd rfl rfl (by decide) rfl rfl (pa_cons (pe_c c__law_kind hr (by first | decide | omega) (by rfl) (pa_cons (pv 1) pa_nil)) (pa_cons (pe_ix ix_list (pe_lst (pa_cons pe_str (pa_cons pe_str pa_nil))) (pe_c c__law_drawn hr (by first | decide | omega) (by rfl) (pa_cons (pv 1) (pa_cons pe_int pa_nil))) (fun _ _ => rfl)) pa_nil)) (by rfl))
      (pss_cons (ps_if (pt_cmpR op_eq (pe_c c__law_drawn hr (by first | decide | omega) (by rfl) (pa_cons (pv 1) (pa_cons pe_int pa_nil))) pe_int (nomark _))
      (pss_cons (ps_set (i := 5) nd rfl (by first | exact Or.inl rfl | exact Or.inr rfl) (pe_ix ix_list (pe_lst (pa_cons pe_int (pa_cons pe_int (pa_cons pe_int (pa_cons pe_int (pa_cons pe_int (pa_cons pe_int pa_nil))))))) (pe_c c__law_drawn hr (by first | decide | omega) (by rfl) (pa_cons (pv 1) (pa_cons (pe_ix ix_list (pe_lst (pa_cons pe_int (pa_cons pe_int pa_nil))) (pe_callTy Y.cl_int (by rfl) T.n_int (by decide +kernel) (pa_cons (pe_cmpR op_eq (pv 4) pe_str (nomark _)) pa_nil)) (fun _ _ => rfl)) pa_nil))) (fun _ _ => rfl)))
      (pss_one (ps_set (i := 3) nd rfl (by first | exact Or.inl rfl | exact Or.inr rfl) (pe_callTy Y.cl_tuple (by rfl) T.n_tuple (by decide +kernel) (pa_cons (pe_lc (own := [("_law_k", 15)]) (g := gName 15) (by rfl) nd (pi_range1 rfl T.n_range (pa_cons pe_int pa_nil)) (blkOk_by (N := ["_law_script", "_law_state", "_law_turn", "_law_kind_here", "_law_way", "_law_one", "_law_again", "_law_told", "_law_cells_here", "_law_ear_here", "_law_many", "_law_machine_here", "_law_host", "_law_number_here", "_law_other", "_law_k"]) (sc := fnScope s_law) (by decide +kernel)) (fun _ _ _ _ _ => (pg_name (i := 15) nd rfl (by first | exact Or.inl rfl | exact Or.inr rfl))) (fun _ _ _ _ _ => pts_nil) (fun _ _ _ _ _ => (pe_cmpR op_ne (pv 15) (pv 5) (nomark _)))) pa_nil)))))
      pss_nil)
      (pss_one (ps_for PassesOwn.never rfl (pi_range1 rfl T.n_range (pa_cons pe_int pa_nil)) (pg_name (i := 6) nd rfl (by first | exact Or.inl rfl | exact Or.inr rfl))
      (pss_cons (ps_set (i := 7) nd rfl (by first | exact Or.inl rfl | exact Or.inr rfl) (pe_c c_unlike hr (by first | decide | omega) (by rfl) (pa_cons (pv 3) (pa_cons (pv 4) pa_nil))))
      (pss_one (ps_if (pt_cmpR op_notN1 (pv 7) pe_non (nomark _))
      (pss_cons (ps_asg (pv 7) (pg_tup (by rfl) (pgs_cons (pg_name (i := 8) nd rfl (by first | exact Or.inl rfl | exact Or.inr rfl)) (pgs_cons (pg_name (i := 9) nd rfl (by first | exact Or.inl rfl | exact Or.inr rfl)) (pgs_cons (pg_name (i := 10) nd rfl (by first | exact Or.inl rfl | exact Or.inr rfl)) pgs_nil)))))
      (pss_cons (ps_par (i := 11) (j := 12) (by rfl) nd rfl rfl (by decide) rfl rfl (pa_cons (pe_mk m_Machine hr (by first | decide | omega) (by rfl) (pa_cons (pv 3) (pa_cons (pv 8) (pa_cons (pv 9) pa_nil)))) (pa_cons (pe_mk m_Host hr (by first | decide | omega) (by rfl) (pa_cons (pe_mk m_Ground hr (by first | decide | omega) (by rfl) (pa_cons (pv 3) (pa_cons pe_int pa_nil))) (pa_cons (pv 4) pa_nil))) pa_nil)) (by rfl))
      (pss_cons (ps_set (i := 13) nd rfl (by first | exact Or.inl rfl | exact Or.inr rfl) (pe_mt m_Host_come hr (by first | decide | omega) (pv 12) (pa_cons (pv 8) (pa_cons (pv 9) (pa_cons pe_int pa_nil)))))
      (pss_cons (ps_if (PW.pt (pw_or (pt_not (pt_chain op_lt op_le pe_int (pv 10) pe_int)) (pw_or1 (pt_val (pe_callB call_isi (by rfl) T.n_isinstance (by decide +kernel) (pa_cons (pv 10) (pa_cons (Y.pe_bty (T := "bool") (by rfl) T.n_bool (by decide +kernel)) pa_nil)))))))
      (pss_one (ps_ret pe_bl))
      pss_nil)
      (pss_cons (ps_expr (pe_mt m_Machine_go hr (by first | decide | omega) (pv 11) (pa_cons (pv 10) pa_nil)))
      (pss_cons (ps_expr (pe_mt m_Host_go hr (by first | decide | omega) (pv 12) (pa_cons (pv 13) (pa_cons (pv 10) pa_nil))))
      (pss_cons (ps_if (pt_cmpR (op_eqD hr.units) (pe_mt0 m_Machine_carried hr (by first | decide | omega) (pv 11)) (pe_mt m_Host_carried hr (by first | decide | omega) (pv 12) (pa_cons (pv 13) pa_nil)) (nomark _))
      (pss_one (ps_ret pe_bl))
      pss_nil)
      (pss_cons (ps_asg (pe_tup (pa_cons (pe_c c__law_machine hr (by first | decide | omega) (by rfl) (pa_cons (pv 8) (pa_cons (pv 9) pa_nil))) (pa_cons (pe_c c__law_machine hr (by first | decide | omega) (by rfl) (pa_cons (pv 8) (pa_cons (pv 9) pa_nil))) pa_nil))) (pg_tup (by rfl) (pgs_cons (pg_name (i := 5) nd rfl (by first | exact Or.inl rfl | exact Or.inr rfl)) (pgs_cons (pg_name (i := 14) nd rfl (by first | exact Or.inl rfl | exact Or.inr rfl)) pgs_nil))))
      (pss_cons (ps_expr (pe_c c__law_goes hr (by first | decide | omega) (by rfl) (pa_cons (pv 5) (pa_cons (pv 3) (pa_cons pe_non (pa_cons (pe_lst pa_nil) (pa_cons (pv 10) pa_nil)))))))
      (pss_cons (ps_expr (pe_c c__law_goes hr (by first | decide | omega) (by rfl) (pa_cons (pv 14) (pa_cons (pv 3) (pa_cons (pv 4) (pa_cons (pe_lst pa_nil) (pa_cons (pv 10) pa_nil)))))))
      (pss_cons (ps_if (pt_cmpR (op_eqD hr.units) (pe_c c__law_bundle hr (by first | decide | omega) (by rfl) (pa_cons (pv 5) pa_nil)) (pe_c c__law_bundle hr (by first | decide | omega) (by rfl) (pa_cons (pv 14) pa_nil)) (nomark _))
      (pss_one (ps_ret pe_bl))
      pss_nil)
      (pss_cons (ps_expr (pe_bm0 PySem.F.plainAttrs_list PySem.F.slot_list_clear PySem.F.type_list_clear mt_clear (pv 8)))
      (pss_one (ps_expr (pe_bm PySem.F.plainAttrs_list PySem.F.slot_list_append PySem.F.type_list_append mt_append (pv 9) (pa_cons pe_int pa_nil))))))))))))))))
      pss_nil))))))))
      (pss_one (ps_ret pe_bl)))), ?_⟩
    walk_at "b"
    refine ⟨a, ns, rfl, hs, fun st H1 hst s1 S1 => ?_⟩
    walk_at "s"
    refine Y.s_forR (by decide) (by decide) (fun i σ H' => StAt K H' st ∧ ∃ v2 v3 v4 v5 v6 v7 v8 v9 v10 v11 v12 v13 v14, σ = [some (.ref a), some (.ref st), v2, v3, v4, v5, v6, v7, v8, v9, v10, v11, v12, v13, v14, none]) ⟨S1, _, _, _, _, _, _, _, _, _, _, _, _, _, rfl⟩ ?_ ?_
    · rintro i σ H2 hi ⟨S2, v2, v3, v4, v5, v6, v7, v8, v9, v10, v11, v12, v13, v14, rfl⟩
      clear S1 hs s1 hst
      walk_at "s"
      refine s_par2 ?_
      walk_at "s"
      refine ⟨st, rfl, S2, fun pk bs H3 f3 S3 ek lk => ?_⟩
      have kd3 : KindAt H3 pk bs := ⟨ek, lk⟩
      walk_at "s"
      refine Y.s_new rfl fun l1 hl1 => ?_
      walk_at "s"
      refine u_drawn (S3.new hl1) (by decide) (by decide) fun y H4 y0 y1 f4 S4 => ?_
      have kd4 := kind_st (S3.new hl1) (kd3.mono (Y.same_new (o := .lst [V.str "plain", V.str "through"]) hl1 (Same.refl _))) f4
      obtain ⟨v, e4, way, rfl, hw⟩ := Y.at_all (P := fun v => ∃ z, v = V.str z ∧ WayT z) (xs := [V.str "plain", V.str "through"]) (i := y) (by
        intro v hv
        simp only [List.mem_cons, List.not_mem_nil, or_false] at hv
        rcases hv with rfl | rfl
        · exact ⟨_, rfl, .inl rfl⟩
        · exact ⟨_, rfl, .inr rfl⟩) y0 y1
      obtain ⟨thr, rfl⟩ : ∃ b, way = wayS b := by
        rcases hw with rfl | rfl
        · exact ⟨false, rfl⟩
        · exact ⟨true, rfl⟩
      refine Y.s_ixL' (SqL.of (f4 l1 _ (ne_of_none S3.spec hl1).symm upd_same)) e4 ?_
      walk_at "t"
      refine ⟨_, _, rfl, ?_⟩
      walk_at "t"
      clear S3 kd3 f4 f3 hl1 ek lk e4
      with_reducible refine seq_cut (fun σ H' => StAt K H' st ∧ ∃ (pk : Addr) (bs : List Bool) (v2 v5 v6 v7 v8 v9 v10 v11 v12 v13 v14 : Option V), σ = [some (.ref a), some (.ref st), v2, some (.ref pk), some (.str (wayS thr)), v5, v6, v7, v8, v9, v10, v11, v12, v13, v14, none] ∧ KindAt H' pk bs) ?_ ?_
      · clear S4 kd4 S2
        rintro σ Hb ⟨Sb, pk, bs, v2, v5, v6, v7, v8, v9, v10, v11, v12, v13, v14, rfl, kb⟩
        walk_at "s"
        refine Y.s_forR (by decide) (by decide) (fun j σ H' => StAt K H' st ∧ KindAt H' pk bs ∧ ∃ (v5 v6 v7 v8 v9 v10 v11 v12 v13 v14 : Option V), σ = [some (.ref a), some (.ref st), v2, some (.ref pk), some (.str (wayS thr)), v5, v6, v7, v8, v9, v10, v11, v12, v13, v14, none]) ⟨Sb, kb, _, _, _, _, _, _, _, _, _, _, rfl⟩ ?_ ?_
        · clear Sb kb
          rintro j σ H0 hj ⟨S0, k0, v5, v6, v7, v8, v9, v10, v11, v12, v13, v14, rfl⟩
          walk_at "s"
          refine ⟨pk, bs, wayS thr, rfl, k0, hw, fun he H1 s1 => ?_, fun z r ez hz t pc pe ts H1 s1 zt zpc zpe et ec ee npe th td => ?_⟩
          · walk_at "s"
            exact ⟨S0.same s1, k0.mono s1, _, _, _, _, _, _, _, _, _, _, rfl⟩
          · have S1 := S0.same s1
            have k1 := k0.mono s1
            walk_at "s"
            refine Y.s_gTup (SqT.of et) rfl ?_
            refine Y.s_gCons ?_
            walk_at "s"
            refine Y.s_gCons ?_
            walk_at "s"
            refine Y.s_gCons ?_
            walk_at "s"
            refine Y.s_gNil ?_
            walk_at "s"
            have n16 := told_n td
            have tl := told_len (way := wayS thr) (z := z)
            obtain ⟨N, eN⟩ : ∃ N, N = (told (wayS thr) z).length := ⟨_, rfl⟩
            rw [← eN] at tl ⊢
            refine s_par2 ?_
            walk_at "s"
            refine s_make ?_
            walk_at "s"
            refine u_make (b1 := true) (b2 := true) (ns := [2]) k1 ec th (by rw [n16]; decide) (by rw [n16]; decide) ee (fun n m => by rw [List.mem_singleton.mp m]; exact ⟨by decide, by decide⟩) (by decide) fun xa B H2 s2 hxa frB ebB mo => ?_
            have k2 := k1.mono s2
            have S2 := S1.same s2
            have ec2 := s2 _ _ ec
            have ee2 := s2 _ _ ee
            have th2 := th.same s2
            refine Y.s_cons ?_
            refine s_make ?_
            refine Y.s_cons ?_
            refine s_make ?_
            walk_at "s"
            intro x dx hx hdx hne
            have sm2 : Same H2 (upd (upd H2 dx (.own x)) x (.ins Z.CG dx [])) := fun c u hc => by rw [upd_ne (ne_of_none hc hx), upd_ne (ne_of_none hc hdx)]; exact hc
            refine ⟨x, dx, pk, 60, bs, rfl, upd_same, k2.mono sm2, by decide, by decide, fun R pf pgs H3 f3 zr zpf zpt zgs n1 n2 n3 r0 r2 eg er ef et0 es => ⟨rfl, ?_⟩⟩
            have s3 := made hx hdx f3
            walk_at "s"
            intro hx2 hdx2 hhx hhdx hhne
            refine ⟨hx2, hdx2, x, thr, rfl, upd_same, fun pd H4 f4 zpd hs4 => ⟨rfl, ?_⟩⟩
            have s4 := made hhx hhdx f4
            walk_at "s"
            refine ⟨_, _, rfl, ?_⟩
            walk_at "s"
            refine Y.s_meth ?_
            walk_at "s"
            refine Y.s_methI hs4.1 rfl ?_
            walk_at "s"
            have up : ∀ {p : Addr}, (upd (upd H2 dx (.own x)) x (.ins Z.CG dx [])) p = none → H2 p = none := fun {p} z => noneS sm2 z
            have zhx := noneS s3 hhx
            have zhd : H2 pd = none := by
              cases e : H2 pd with
              | none => rfl
              | some o => rw [upd_ne (ne_of_none (s3 _ _ e) hhx), upd_ne (ne_of_none (s3 _ _ e) hhdx), s3 _ _ e] at zpd; cases zpd
            have old : ∀ {a : Addr} {o : HO}, H2 a = some o → a ∉ [hx2, pd, pf, R.pt] := fun {a o} e m => by
              simp only [List.mem_cons, List.not_mem_nil, or_false] at m
              rcases m with rfl | rfl | rfl | rfl
              · rw [zhx] at e; cases e
              · rw [zhd] at e; cases e
              · rw [up zpf] at e; cases e
              · rw [up zpt] at e; cases e
            have nfR : pf ≠ R.pm := fun z => by have h1 := ef; rw [z, er] at h1; cases h1
            have ngR : pgs ≠ R.pm := fun z => by have h1 := es; rw [z, er] at h1; cases h1
            have nfg : pf ≠ x := fun z => by have h1 := ef; rw [z, eg] at h1; cases h1
            have ngg : pgs ≠ x := fun z => by have h1 := es; rw [z, eg] at h1; cases h1
            have nxR : x ≠ R.pm := fun z => by have h1 := upd_same (H := upd H2 dx (.own x)) (a := x) (o := .ins Z.CG dx []); rw [z] at h1; rw [z, h1] at zr; cases zr
            have k4 := ((k2.mono s3).mono s4)
            have S4 := (S2.same s3).same s4
            have ec4 := s4 _ _ (s3 _ _ ec2)
            have ee4 := s4 _ _ (s3 _ _ ee2)
            have th4 := (th2.same s3).same s4
            have mo4 := (mo.same s3).same s4
            have CA : ComeAt Z CH H4 ⟨hx2, hdx2, x, pd, thr, 0, []⟩ dx pk pgs pf 0 R [] [] bs (List.replicate 60 (Thing.num 0)) [] 0 := by
              refine ⟨hs4, by show 0 < 6; decide, rfl, s4 _ _ eg, k4, fun y hy => ?_, by decide, ?_, s4 _ _ ef, fun t mt => ?_, by decide, by rw [r2]; decide, ⟨s4 _ _ et0, fun r m => nomatch m⟩, by decide, s4 _ _ es, ?_, ?_, ?_⟩
              · rw [List.mem_singleton.mp hy]; exact s4 _ _ er
              · show (0 : Int) + R.first = ((0 : Nat) : Int); rw [r0]; rfl
              · rw [List.eq_of_mem_replicate mt]; exact ⟨by decide, by decide⟩
              · refine List.nodup_cons.mpr ⟨fun m => ?_, List.nodup_cons.mpr ⟨fun m => ?_, List.nodup_cons.mpr ⟨fun m => ?_, List.nodup_cons.mpr ⟨List.not_mem_nil, List.nodup_nil⟩⟩⟩⟩
                · simp only [List.map_cons, List.map_nil, List.mem_cons, List.not_mem_nil, or_false] at m
                  rcases m with e | e | e
                  · exact n2 e
                  · exact nfg e
                  · exact nfR e
                · simp only [List.map_cons, List.map_nil, List.mem_cons, List.not_mem_nil, or_false] at m
                  rcases m with e | e
                  · exact ngg e
                  · exact ngR e
                · exact nxR (List.mem_singleton.mp m)
              · intro m
                simp only [List.mem_cons, List.not_mem_nil, or_false] at m
                rcases m with e | e
                · exact n1 e.symm
                · exact n3 e
              · intro m
                simp only [List.map_cons, List.map_nil, List.mem_cons, List.not_mem_nil, or_false] at m
                rcases m with e | e
                · have h1 : hx2 = x := e; rw [h1, eg] at hhx; cases hhx
                · have h1 : hx2 = R.pm := e; rw [h1, er] at hhx; cases hhx
            have nf4 : ∀ {a : Addr}, a ∉ [hx2, pd, pf, R.pt] → a ∉ [pf, R.pt] := fun n m => n (.tail _ (.tail _ m))
            refine ⟨⟨hx2, hdx2, x, pd, thr, 0, []⟩, dx, pk, pgs, pf, pc, pe, 0, 1, R, [], [], bs, List.replicate 60 (Thing.num 0), ts, [], [2], 0, 0, true, true, rfl, by decide, by decide, CA, ec4, th4, by rw [n16]; decide, by rw [n16]; decide, ee4, (fun n m => by rw [List.mem_singleton.mp m]; exact ⟨by decide, by decide⟩), by decide, nf4 (old ec2), nf4 (old ee2), by rw [r2, n16]; decide, rfl, fun f hf => absurd hf (Nat.not_lt_zero f), fun A pu udx H5 f5 fr5 nd5 epk ebs egrd ethr epf erm efi ewi epre epost hs5 ho5 kb5 tk5 tk6 => ?_⟩
            have tu5 : Tu H4 H5 := fun p xs e => f5 p _ (fun m => by
              simp only [List.mem_cons, List.not_mem_nil, or_false] at m
              rcases m with rfl | rfl | rfl | rfl
              · rw [hs4.1] at e; cases e
              · rw [hs4.2] at e; cases e
              · rw [CA.fl] at e; cases e
              · rw [s4 _ _ et0] at e; cases e) e
            have S5 := st_frs13 S4 (old S2.spec) f5 (fun p m o xs e => by
              simp only [List.mem_cons, List.not_mem_nil, or_false] at m
              rcases m with rfl | rfl | rfl | rfl
              · rw [hs4.1] at e; cases e
              · rw [hs4.2] at e; cases e
              · rw [CA.fl] at e; cases e
              · rw [s4 _ _ et0] at e; cases e)
            have k5 : KindAt H5 pk bs := ⟨tu5 _ _ k4.1, k4.2⟩
            have ec5 := f5 _ _ (old ec2) ec4
            have ee5 := f5 _ _ (old ee2) ee4
            have th5 := th4.tu tu5
            have mo5 := mo4.fr f5 (fun a ha => by obtain ⟨o, e⟩ := mach_some mo a ha; exact old e) tu5
            have kb5 : BodyAt Z H5 A (Mc.start ts [2]) := kb5
            have no4 : ∀ {a : Addr}, H4 a = none → H2 a = none := fun z => noneS s3 (noneS s4 z)
            have nA : ∀ a ∈ A.adrs, H2 a = none := fun a ha => by
              unfold Adr.adrs at ha
              rw [egrd, erm, epf] at ha
              have ha2 : a ∈ A.pb :: A.px :: A.ps :: A.pe :: pf :: [pgs, x, A.rm.pm, R.pm] := ha
              simp only [List.mem_cons, List.not_mem_nil, or_false] at ha2
              rcases ha2 with rfl | rfl | rfl | rfl | rfl | rfl | rfl | rfl | rfl
              · exact no4 (fr5 _ (by simp))
              · exact no4 (fr5 _ (by simp))
              · exact no4 (fr5 _ (by simp))
              · exact no4 (fr5 _ (by simp))
              · exact up zpf
              · exact up zgs
              · exact hx
              · exact no4 (fr5 _ (by simp))
              · exact up zr
            have nAo : ∀ a ∈ A.own, H2 a = none := fun a ha => by
              unfold Adr.own at ha
              rw [egrd, epf] at ha
              have ha2 : a ∈ A.pb :: A.px :: A.ps :: A.pe :: pf :: [pgs] := ha
              simp only [List.mem_cons, List.not_mem_nil, or_false] at ha2
              rcases ha2 with rfl | rfl | rfl | rfl | rfl | rfl
              · exact no4 (fr5 _ (by simp))
              · exact no4 (fr5 _ (by simp))
              · exact no4 (fr5 _ (by simp))
              · exact no4 (fr5 _ (by simp))
              · exact up zpf
              · exact up zgs
            have npu : H2 pu = none := no4 (fr5 pu (.head _))
            have gsA : A.grd.isSome = true := by rw [egrd]; rfl
            have ndd : hx2 ≠ pd := fun z => by have h1 := hs4.1; rw [z, hs4.2] at h1; cases h1
            have lk5 : (⟨hx2, hdx2, x, pd, thr, (0 : Int) + 1, [] ++ [((0 : Int), pu)]⟩ : Hs).lk 0 pu := ⟨rfl, by decide, by show (0 : Int) ≤ 0 + 1; decide⟩
            have nhA0 : ∀ a ∈ A.own, a ≠ hx2 ∧ a ≠ pu := fun a ha => by
              unfold Adr.own at ha
              rw [egrd, epf] at ha
              have ha2 : a ∈ A.pb :: A.px :: A.ps :: A.pe :: pf :: [pgs] := ha
              obtain ⟨m1, _⟩ := List.nodup_cons.mp nd5
              have new : ∀ {a : Addr}, H4 a = none → a ≠ hx2 := fun z1 z2 => by rw [z2, hs4.1] at z1; cases z1
              simp only [List.mem_cons, List.not_mem_nil, or_false] at ha2
              rcases ha2 with rfl | rfl | rfl | rfl | rfl | rfl
              · exact ⟨new (fr5 _ (by simp)), fun z => m1 (by rw [← z]; simp)⟩
              · exact ⟨new (fr5 _ (by simp)), fun z => m1 (by rw [← z]; simp)⟩
              · exact ⟨new (fr5 _ (by simp)), fun z => m1 (by rw [← z]; simp)⟩
              · exact ⟨new (fr5 _ (by simp)), fun z => m1 (by rw [← z]; simp)⟩
              · exact ⟨fun z => (by have e := CA.fl; rw [z, hs4.1] at e; cases e), fun z => (by have e := CA.fl; rw [z, fr5 pu (.head _)] at e; cases e)⟩
              · exact ⟨fun z => (by have e := CA.sd; rw [z, hs4.1] at e; cases e), fun z => (by have e := CA.sd; rw [z, fr5 pu (.head _)] at e; cases e)⟩
            clear CA tk5 tk6 epre epost efi ewi f5 tu5 S4 k4 ec4 ee4 th4 mo4 nf4 hs4 f4 f3 s4 s3 nd5
            obtain ⟨h, eh⟩ : ∃ h : Hs, h = ⟨hx2, hdx2, x, pd, thr, (0 : Int) + 1, [] ++ [((0 : Int), pu)]⟩ := ⟨_, rfl⟩
            have ehx : hx2 = h.x := by rw [eh]
            have nhx : H2 h.x = none := by rw [← ehx]; exact zhx
            have nhd : H2 h.pd = none := by rw [eh]; exact zhd
            rw [← eh] at lk5
            have hs5 : HsAt H5 CH h := by rw [eh]; exact hs5
            rw [ehx]
            clear eh
            walk_at "s"
            refine Y.s_chain ?_
            walk_at "s"
            refine Y.s_dT (by omega) ?_
            walk_at "s"
            refine Y.s_dNT (by omega) ?_
            walk_at "s"
            refine Y.s_meth ?_
            walk_at "s"
            obtain ⟨dxa, exa⟩ := mo5.ins
            refine Y.s_methI exa rfl ?_
            walk_at "s"
            refine u_mgo mo5 (by omega) (by omega) (by rw [Int.toNat_natCast]; show 0 + N ≤ 90000; omega) rfl fun H6 f6 mo6 => ?_
            rw [Int.toNat_natCast] at mo6
            have oB : ∀ a ∈ B.own, H1 a = none ∧ ∃ o, H2 a = some o := fun a ha => ⟨frB a (own_sub mo.al a ha), mach_some mo a (.tail _ (own_sub mo.al a ha))⟩
            have nB : ∀ {a : Addr}, H2 a = none → a ∉ B.own := fun z m => by obtain ⟨_, o, e⟩ := oB _ m; rw [z] at e; cases e
            have nB1 : ∀ {a : Addr} {o : HO}, H1 a = some o → a ∉ B.own := fun z m => by rw [(oB _ m).1] at z; cases z
            have tu6 := tu_own mo5.b f6
            have S6 := st_frs13 S5 (nB1 S1.spec) f6 (fun p m o xs e => by
              rcases own_kind mo5.b p m with ⟨ys, e2⟩ | ⟨C, dx, fs, e2⟩ <;> rw [e] at e2 <;> cases e2)
            have k6 : KindAt H6 pk bs := ⟨tu6 _ _ k5.1, k5.2⟩
            have ec6 := f6 _ _ (nB1 ec) ec5
            have ee6 := f6 _ _ (nB1 ee) ee5
            have th6 := th5.tu tu6
            have hs6 := hs5.fr f6 (nB nhx) (nB nhd)
            have ho6 := f6 _ _ (nB npu) ho5
            have kb6 := kb5.fr f6 (fun a ha => nB (nA a ha)) tu6
            clear S5 k5 ec5 ee5 th5 hs5 ho5 kb5 mo5 exa f6 tu6
            walk_at "s"
            refine Y.s_meth ?_
            walk_at "s"
            refine Y.s_methI hs6.1 rfl ?_
            walk_at "s"
            refine ⟨h, 0, 1, pu, udx, A, Mc.start ts [2], (N : Nat), rfl, hs6, lk5, ho6, kb6, by omega, by omega, by rw [Int.toNat_natCast]; show 0 + N ≤ 90000; omega, by rw [Int.toNat_natCast]; show 0 + N ≤ 90000; omega, fun H7 f7 kb7 => ?_⟩
            rw [Int.toNat_natCast] at kb7
            have nA1 : ∀ {a : Addr} {o : HO}, H2 a = some o → a ∉ A.own := fun z m => by rw [nAo _ m] at z; cases z
            have tu7 := tu_own kb6 f7
            have S7 := st_frs13 S6 (nA1 S2.spec) f7 (fun p m o xs e => by
              rcases own_kind kb6 p m with ⟨ys, e2⟩ | ⟨C, dx, fs, e2⟩ <;> rw [e] at e2 <;> cases e2)
            have k7 : KindAt H7 pk bs := ⟨tu7 _ _ k6.1, k6.2⟩
            have ec7 := f7 _ _ (nA1 ec2) ec6
            have ee7 := f7 _ _ (nA1 ee2) ee6
            have th7 := th6.tu tu7
            have nhA : h.x ∉ A.own ∧ h.pd ∉ A.own ∧ pu ∉ A.own := by
              refine ⟨fun m => (nhA0 _ m).1 ehx.symm, fun m => ?_, fun m => (nhA0 _ m).2 rfl⟩
              rcases own_kind kb6 _ m with ⟨ys, e2⟩ | ⟨C, dx, fs, e2⟩ <;> rw [hs6.2] at e2 <;> cases e2
            have hs7 := hs6.fr f7 nhA.1 nhA.2.1
            have ho7 := f7 _ _ nhA.2.2 ho6
            have mo7 := mo6.fr f7 (fun a ha => by obtain ⟨o, e⟩ := mach_some mo a ha; exact nA1 e) tu7
            clear S6 k6 ec6 ee6 th6 hs6 ho6 kb6 mo6 f7 tu7
            walk_at "s"
            refine Y.s_meth ?_
            walk_at "s"
            obtain ⟨dxb, exb⟩ := mo7.ins
            refine Y.s_methI exb rfl ?_
            walk_at "s"
            refine u_mcarried mo7 fun t1 H8 s8 _ b1 => ?_
            walk_at "s"
            refine Y.s_meth ?_
            walk_at "s"
            refine Y.s_methI (s8 _ _ hs7.1) rfl ?_
            walk_at "s"
            refine ⟨h, 0, 1, pu, udx, A, _, rfl, hs7.same s8, lk5, s8 _ _ ho7, kb7.same s8, fun t2 H9 s9 _ b2 => ?_⟩
            have un : Un13 ((Mc.start ts [2]).goes B N).1 ((Mc.start ts [2]).goes A N).1 := by
              rw [eN]
              exact un13 k1.2 hw mo.al.1 ebB ebs gsA (ethr.trans (way_is thr).symm) ez td
            refine s_eqUn (b1.tu fun p xs e => s9 _ _ e) b2 un ?_
            walk_at "s"
            have s79 := s8.trans s9
            have S9 := S7.same s79
            have k9 := k7.mono s79
            have ec9 := s79 _ _ ec7
            have ee9 := s79 _ _ ee7
            have th9 := th7.same s79
            clear S7 k7 ec7 ee7 th7 hs7 ho7 kb7 mo7 b1 b2 s8 s9 s79 exb
            have hn2 : ∀ n ∈ [(2 : Int)], Nm n := fun n m => by rw [List.mem_singleton.mp m]; exact ⟨by decide, by decide⟩
            refine u_lm13 (ns := [2]) (told_cells td ec9 th9) ee9 hn2 (by decide) fun La HA sA frA lka => ?_
            walk_at "s"
            refine u_lm13 (ns := [2]) (told_cells td (sA _ _ ec9) (th9.same sA)) (sA _ _ ee9) hn2 (by decide) fun Lb HB sB frB2 lkb => ?_
            walk_at "s"
            refine ⟨by show 2 ≤ _; decide, fun p2 hp2 => ?_⟩
            refine Y.s_gTup (SqT.of upd_same) rfl ?_
            refine Y.s_gCons ?_
            walk_at "s"
            refine Y.s_gCons ?_
            walk_at "s"
            refine Y.s_gNil ?_
            walk_at "s"
            refine ⟨by show 0 ≤ _; decide, fun pz hpz => ?_⟩
            have sC : Same HB (upd (upd HB p2 (.tup [.ref La.d, .ref Lb.d])) pz (.lst [])) := Y.same_new hpz (Y.same_new hp2 (Same.refl _))
            have zpz : HB pz = none := noneS (Y.same_new hp2 (Same.refl _)) hpz
            have s9B := sA.trans sB
            have epz : upd (upd HB p2 (.tup [.ref La.d, .ref Lb.d])) pz (.lst []) pz = some (.lst []) := upd_same
            generalize upd (upd HB p2 (.tup [.ref La.d, .ref Lb.d])) pz (.lst []) = HC at sC epz ⊢
            have lkaC := (lka.same sB).same sC
            have lkbC := lkb.same sC
            have SC := (S9.same s9B).same sC
            have kC := (k9.mono s9B).mono sC
            have ecC := sC _ _ (s9B _ _ ec9)
            have eeC := sC _ _ (s9B _ _ ee9)
            have n9 : ∀ {a : Addr} {o : HO}, H9 a = some o → a ∉ pz :: La.own := fun e m => by
              rcases List.mem_cons.mp m with rfl | m
              · rw [s9B _ _ e] at zpz; cases zpz
              · rw [frA _ m] at e; cases e
            have nza : pz ∉ La.own := fun m => by obtain ⟨o, e⟩ := own_some (lka.same sB) _ m; rw [zpz] at e; cases e
            have nab : ∀ a ∈ Lb.own, a ∉ pz :: La.own := fun a ha m => by
              rcases List.mem_cons.mp m with rfl | m
              · obtain ⟨o, e⟩ := own_some lkb _ ha; rw [zpz] at e; cases e
              · obtain ⟨o, e⟩ := own_some lka _ m; rw [frB2 _ ha] at e; cases e
            walk_at "s"
            refine u_lg13 (A := B) lkaC (by rw [ebB]; exact kC) (.inl ⟨rfl, mo.al.1⟩) (fun _ => rfl) nza epz (by omega) rfl rfl fun HD La2 fD dD gD lkD => ?_
            have tuD := own_tu lkaC epz fD
            have SD := st_frs13 SC (n9 S9.spec) fD (own_frz lkaC epz)
            have kD : KindAt HD pk bs := ⟨tuD _ _ kC.1, kC.2⟩
            have ecD := fD _ _ (n9 ec9) ecC
            have eeD := fD _ _ (n9 ee9) eeC
            have lkbD := lkbC.fr fD nab tuD
            walk_at "s"
            refine ⟨by show 0 ≤ _; decide, fun py hpy => ?_⟩
            have sE : Same HD (upd HD py (.lst [])) := Y.same_new hpy (Same.refl _)
            have epy : upd HD py (.lst []) py = some (.lst []) := upd_same
            generalize upd HD py (.lst []) = HE at sE epy ⊢
            have lkaE := lkD.same sE
            have lkbE := lkbD.same sE
            have SE := SD.same sE
            have kE := kD.mono sE
            have ecE := sE _ _ ecD
            have eeE := sE _ _ eeD
            have nD : ∀ {a : Addr} {o : HO}, HD a = some o → a ≠ py := fun e => ne_of_none e hpy
            have nyb : py ∉ Lb.own := fun m => by obtain ⟨o, e⟩ := own_some lkbD _ m; exact nD e rfl
            have n9b : ∀ {a : Addr} {o p : HO}, H9 a = some o → HD a = some p → a ∉ py :: Lb.own := fun e e2 m => by
              rcases List.mem_cons.mp m with rfl | m
              · exact nD e2 rfl
              · have := frB2 _ m; rw [sA _ _ e] at this; cases this
            have wA : WayIs A (.str (wayS thr)) := by
              cases thr with
              | false => exact .inr (.inl ⟨rfl, gsA, ethr⟩)
              | true => exact .inr (.inr ⟨rfl, gsA, ethr⟩)
            walk_at "s"
            refine u_lg13 (A := A) lkbE (by rw [ebs]; exact kE) wA (fun _ => rfl) nyb epy (by omega) rfl rfl fun HF Lb2 fF dF gF lkF => ?_
            have tuF := own_tu lkbE epy fF
            have SF := st_frs13 SE (n9b S9.spec SD.spec) fF (own_frz lkbE epy)
            have kF : KindAt HF pk bs := ⟨tuF _ _ kE.1, kE.2⟩
            have ecF := fF _ _ (n9b ec9 ecD) ecE
            have eeF := fF _ _ (n9b ee9 eeD) eeE
            have lkaF := lkaE.fr fF (fun a ha m => by
              rcases List.mem_cons.mp m with rfl | m
              · obtain ⟨o, e⟩ := own_some lkD _ ha; exact nD e rfl
              · rcases gD a ha with h1 | h1
                · exact nab a m (.tail _ h1)
                · obtain ⟨o, e⟩ := own_some lkbC _ m; rw [h1] at e; cases e) tuF
            walk_at "s"
            rw [← dD, ← dF]
            refine u_lb13 lkaF fun t3 HG sG _ b3 => ?_
            walk_at "s"
            refine u_lb13 (lkF.same sG) fun t4 HH sH _ b4 => ?_
            refine s_eqUn (b3.tu fun p xs e => sH _ _ e) b4 un ?_
            walk_at "s"
            have sGH := sG.trans sH
            have ecH := sGH _ _ ecF
            have eeH := sGH _ _ eeF
            refine s_bm0 ?_
            walk_at "s"
            refine s_bm0L (xs := ts.map Thing.v) (SqL.of ecH) ?_
            refine ⟨pc, ts.map Thing.v, rfl, rfl, ecH, ?_⟩
            walk_at "s"
            have npp : pe ≠ pc := npe.symm
            refine s_bm ?_
            walk_at "s"
            refine s_bmL (xs := [.int 2]) (SqL.of ((upd_ne npp).trans eeH)) ?_
            walk_at "s"
            refine s_append ((upd_ne npp).trans eeH) (by show 1 < _; decide) ?_
            walk_at "s"
            have SH := SF.same sGH
            have kH := kF.mono sGH
            have ns1 : st ≠ pc := ne_of_none S0.spec zpc
            have ns2 : st ≠ pe := ne_of_none S0.spec zpe
            have tuH : Tu HH (upd (upd HH pc (.lst [])) pe (.lst ([.int 2] ++ [.int 0]))) := ((Tu.refl HH).lst ecH).lst ((upd_ne npp).trans eeH)
            exact ⟨(SH.own ecH ns1).own ((upd_ne npp).trans eeH) ns2, ⟨tuH _ _ kH.1, kH.2⟩, _, _, _, _, _, _, _, _, _, _, rfl⟩
        · rintro σ H0 ⟨S0, k0, v5, v6, v7, v8, v9, v10, v11, v12, v13, v14, rfl⟩
          walk_at "s"
          exact ⟨S0, _, _, _, _, _, _, _, _, _, _, _, _, _, rfl⟩
      · intro rest
        walk_at "s"
        refine u_drawn S4 (by decide) (by decide) fun x H5 x0 x1 f5 S5 => ?_
        have kd5 := kind_st S4 kd4 f5
        walk_at "s"
        refine Y.s_d2 (fun hx => ?_) (fun hx => ?_)
        · walk_at "s"
          refine Y.s_new rfl fun l2 hl2 => ?_
          walk_at "s"
          refine Y.s_new rfl fun l3 hl3 => ?_
          walk_at "s"
          cases thr
          all_goals
            walk_at "s"
            refine u_drawn ((S5.new hl2).new hl3) (by decide) (by decide) fun y2 H6 z0 z1 f6 S6 => ?_
            have nl2 : l2 ≠ st := (ne_of_none S5.spec hl2).symm
            have kd6 := kind_st ((S5.new hl2).new hl3) ((kd5.mono (Y.same_new (o := .lst [V.int 0, V.int 1, V.int 2, V.int 4, V.int 5, V.int 6]) hl2 (Same.refl _))).mono (Y.same_new (o := .lst [V.int 6, V.int 2]) hl3 (Same.refl _))) f6
            obtain ⟨v, e7, c, rfl⟩ := Y.at_all (P := fun v => ∃ c, v = V.int c) (xs := [V.int 0, V.int 1, V.int 2, V.int 4, V.int 5, V.int 6]) (i := y2) (by
              intro v hv
              simp only [List.mem_cons, List.not_mem_nil, or_false] at hv
              rcases hv with rfl | rfl | rfl | rfl | rfl | rfl <;> exact ⟨_, rfl⟩) z0 (Int.lt_of_lt_of_le z1 (by decide))
            have e8 : H6 l2 = some (.lst [V.int 0, V.int 1, V.int 2, V.int 4, V.int 5, V.int 6]) := f6 _ _ nl2 ((upd_ne (fun z => by rw [z, upd_same] at hl3; cases hl3)).trans upd_same)
            refine Y.s_ixL' (SqL.of e8) e7 ?_
            clear hl2 hl3 f6 e8 e7 S5 kd5 f5 S4 kd4
            walk_at "s"
            refine Y.s_lcR (by decide) (by decide) fun D hD => ⟨fun i acc Hx => Same H6 Hx ∧ ∃ bs : List Bool, acc = bs.map V.bl ∧ bs.length = i, ?_, ?_, ?_⟩
            · exact ⟨Y.same_new hD (Same.refl _), [], rfl, rfl⟩
            · rintro i acc Hx hi hl2 hD2 ⟨sx, cs, rfl, el⟩
              walk_at "s"
              exact Y.s_lcE hD2 hl2 (by omega) ⟨Y.same_own hD sx, cs ++ [_], by rw [List.map_append]; rfl, by rw [List.length_append, el]; rfl⟩
            · rintro acc H7 hD7 hl7 ⟨s7, cs, rfl, el⟩
              walk_at "s"
              intro kp hkp
              exact rest _ _ ⟨(S6.same s7).new hkp, kp, cs, _, _, _, _, _, _, _, _, _, _, _, rfl, upd_same, el⟩
        · exact rest _ _ ⟨S5, pk, bs, _, _, _, _, _, _, _, _, _, _, _, rfl, kd5⟩
    · rintro σ H2 ⟨S2, v2, v3, v4, v5, v6, v7, v8, v9, v10, v11, v12, v13, v14, rfl⟩
      walk_at "s"
      exact q _
end
end G
end
section
namespace G
open PySem L2 C8
theorem facts {P : Program} {w : World} {K : PySem.W.Frag} {h : Heap} {mg : Str → Option Value} {f : Addr} (X : K.In h) (G : h.Ns mainGlobals mg) (hlaw : mg ("law" : Str) = some (.ref f)) (cE : SaysE hfa hfn htab hex w K) :
    ∃ fd : FuncData, (∀ (s : Shared) (v : Value), BindsTo s fd ⟨[v], []⟩ [("_law_script", v)]) ∧ ∀ base : Heap, K.In base → base.Ns mainGlobals mg → FnOk P w K mg base C8.CX0 40 f fd ["_law_script"] (spLaw K) := by
  have c := cE.t.d
  have ce := cE.ex
  obtain ⟨t_LAST_NUMBER, k_LAST_NUMBER⟩ := He.int_ok X G (c.fact 95 (f := .int "LAST_NUMBER" 999) rfl)
  have v_LAST_NUMBER : IntG mg "LAST_NUMBER" 999 := ⟨_, k_LAST_NUMBER, t_LAST_NUMBER, rfl⟩
  obtain ⟨t_FEWEST_CELLS_checks, k_FEWEST_CELLS_checks⟩ := He.int_ok X G (c.fact 98 (f := .int "FEWEST_CELLS_checks" 16) rfl)
  have v_FEWEST_CELLS : IntG mg "FEWEST_CELLS_checks" 16 := ⟨_, k_FEWEST_CELLS_checks, t_FEWEST_CELLS_checks, rfl⟩
  obtain ⟨t_MOST_CELLS_checks, k_MOST_CELLS_checks⟩ := He.int_ok X G (c.fact 99 (f := .int "MOST_CELLS_checks" 40) rfl)
  have v_MOST_CELLS : IntG mg "MOST_CELLS_checks" 40 := ⟨_, k_MOST_CELLS_checks, t_MOST_CELLS_checks, rfl⟩
  obtain ⟨t_LONGEST_EAR, k_LONGEST_EAR⟩ := He.int_ok X G (c.fact 100 (f := .int "LONGEST_EAR" 20) rfl)
  have v_LONGEST_EAR : IntG mg "LONGEST_EAR" 20 := ⟨_, k_LONGEST_EAR, t_LONGEST_EAR, rfl⟩
  obtain ⟨t_MOST_STEPS, k_MOST_STEPS⟩ := He.int_ok X G (c.fact 101 (f := .int "MOST_STEPS" 400) rfl)
  have v_MOST_STEPS : IntG mg "MOST_STEPS" 400 := ⟨_, k_MOST_STEPS, t_MOST_STEPS, rfl⟩
  obtain ⟨t_MOST_SHARE, k_MOST_SHARE⟩ := He.int_ok X G (c.fact 102 (f := .int "MOST_SHARE" 9) rfl)
  have v_MOST_SHARE : IntG mg "MOST_SHARE" 9 := ⟨_, k_MOST_SHARE, t_MOST_SHARE, rfl⟩
  obtain ⟨t_PLAIN, k_PLAIN⟩ := He.str_ok X G (c.fact 103 (f := .str "PLAIN" "plain") rfl)
  have v_PLAIN : StrG mg "PLAIN" "plain" := ⟨_, k_PLAIN, t_PLAIN, rfl⟩
  obtain ⟨t_THROUGH, k_THROUGH⟩ := He.str_ok X G (c.fact 104 (f := .str "THROUGH" "through") rfl)
  have v_THROUGH : StrG mg "THROUGH" "through" := ⟨_, k_THROUGH, t_THROUGH, rfl⟩
  obtain ⟨t_MANY_CELLS, k_MANY_CELLS⟩ := He.int_ok X G (c.fact 109 (f := .int "MANY_CELLS" 16) rfl)
  have v_MANY_CELLS : IntG mg "MANY_CELLS" 16 := ⟨_, k_MANY_CELLS, t_MANY_CELLS, rfl⟩
  obtain ⟨t_FEWEST_CELLS_ground, k_FEWEST_CELLS_ground⟩ := He.int_ok X G (c.fact 110 (f := .int "FEWEST_CELLS_ground" 16) rfl)
  have v_FEWEST_CELLS_ground : IntG mg "FEWEST_CELLS_ground" 16 := ⟨_, k_FEWEST_CELLS_ground, t_FEWEST_CELLS_ground, rfl⟩
  obtain ⟨t_MOST_CELLS_ground, k_MOST_CELLS_ground⟩ := He.int_ok X G (c.fact 111 (f := .int "MOST_CELLS_ground" 200) rfl)
  have v_MOST_CELLS_ground : IntG mg "MOST_CELLS_ground" 200 := ⟨_, k_MOST_CELLS_ground, t_MOST_CELLS_ground, rfl⟩
  obtain ⟨t_NOTHING, k_NOTHING⟩ := He.int_ok X G (c.fact 112 (f := .int "NOTHING" 0) rfl)
  have v_NOTHING : IntG mg "NOTHING" 0 := ⟨_, k_NOTHING, t_NOTHING, rfl⟩
  obtain ⟨t_OWN_ROW, k_OWN_ROW⟩ := He.int_ok X G (c.fact 113 (f := .int "OWN_ROW" 1) rfl)
  have v_OWN_ROW : IntG mg "OWN_ROW" 1 := ⟨_, k_OWN_ROW, t_OWN_ROW, rfl⟩
  obtain ⟨t_BEYOND, k_BEYOND⟩ := He.int_ok X G (c.fact 114 (f := .int "BEYOND" 2) rfl)
  have v_BEYOND : IntG mg "BEYOND" 2 := ⟨_, k_BEYOND, t_BEYOND, rfl⟩
  obtain ⟨t_NO_ROW, k_NO_ROW⟩ := He.int_ok X G (c.fact 115 (f := .int "NO_ROW" 3) rfl)
  have v_NO_ROW : IntG mg "NO_ROW" 3 := ⟨_, k_NO_ROW, t_NO_ROW, rfl⟩
  obtain ⟨t_ALARM, k_ALARM⟩ := He.int_ok X G (c.fact 116 (f := .int "ALARM" 4) rfl)
  have v_ALARM : IntG mg "ALARM" 4 := ⟨_, k_ALARM, t_ALARM, rfl⟩
  obtain ⟨t_CALL, k_CALL⟩ := He.int_ok X G (c.fact 117 (f := .int "CALL" 5) rfl)
  have v_CALL : IntG mg "CALL" 5 := ⟨_, k_CALL, t_CALL, rfl⟩
  obtain ⟨t_MOST_GUESTS, k_MOST_GUESTS⟩ := He.int_ok X G (c.fact 123 (f := .int "MOST_GUESTS" 6) rfl)
  have v_MOST_GUESTS : IntG mg "MOST_GUESTS" 6 := ⟨_, k_MOST_GUESTS, t_MOST_GUESTS, rfl⟩
  have q_LIMITS := dictAt_of (x := "LIMITS") (kvs := ([("put", .adr (valAt "LIMITS" "put")), ("add", .adr (valAt "LIMITS" "add")), ("less", .adr (valAt "LIMITS" "less")), ("load", .adr (valAt "LIMITS" "load")), ("store", .adr (valAt "LIMITS" "store")), ("zero", .adr (valAt "LIMITS" "zero")), ("go", .adr (valAt "LIMITS" "go")), ("call", .adr (valAt "LIMITS" "call")), ("say", .adr (valAt "LIMITS" "say")), ("hear", .adr (valAt "LIMITS" "hear")), ("which", .adr (valAt "LIMITS" "which")), ("room", .adr (valAt "LIMITS" "room")), ("enter", .adr (valAt "LIMITS" "enter")), ("alarm", .adr (valAt "LIMITS" "alarm")), ("stop", .adr (valAt "LIMITS" "stop"))] : List (PySem.Str × He.Dv))) (cE.t.tab 0 (t := (fun K => He.ga K "LIMITS", _)) rfl) (ex_at 5 ce rfl) (ex_at 6 ce rfl)
  have v_LIMITS : ∃ u, mg "LIMITS" = some u ∧ RelV (.ref (He.ga K "LIMITS")) u := ⟨_, He.glo_ok X G (c.fact 96 (f := .glo "LIMITS") rfl), rfl⟩
  have t_LIMITS_put := fun H => tupP_ok (K := K) (p := valAt "LIMITS" "put") (vs := [.int 3, .int 999]) (ex_at 7 ce rfl) H
  have t_LIMITS_add := fun H => tupP_ok (K := K) (p := valAt "LIMITS" "add") (vs := [.int 3, .int 3, .int 3]) (ex_at 8 ce rfl) H
  have t_LIMITS_less := fun H => tupP_ok (K := K) (p := valAt "LIMITS" "less") (vs := [.int 3, .int 3, .int 3]) (ex_at 9 ce rfl) H
  have t_LIMITS_load := fun H => tupP_ok (K := K) (p := valAt "LIMITS" "load") (vs := [.int 3, .int 3]) (ex_at 10 ce rfl) H
  have t_LIMITS_store := fun H => tupP_ok (K := K) (p := valAt "LIMITS" "store") (vs := [.int 3, .int 3]) (ex_at 11 ce rfl) H
  have t_LIMITS_zero := fun H => tupP_ok (K := K) (p := valAt "LIMITS" "zero") (vs := [.int 3, .int 999]) (ex_at 12 ce rfl) H
  have t_LIMITS_go := fun H => tupP_ok (K := K) (p := valAt "LIMITS" "go") (vs := [.int 999]) (ex_at 13 ce rfl) H
  have t_LIMITS_call := fun H => tupP_ok (K := K) (p := valAt "LIMITS" "call") (vs := [.int 999]) (ex_at 14 ce rfl) H
  have t_LIMITS_say := fun H => tupP_ok (K := K) (p := valAt "LIMITS" "say") (vs := [.int 3]) (ex_at 15 ce rfl) H
  have t_LIMITS_hear := fun H => tupP_ok (K := K) (p := valAt "LIMITS" "hear") (vs := [.int 3]) (ex_at 16 ce rfl) H
  have t_LIMITS_which := fun H => tupP_ok (K := K) (p := valAt "LIMITS" "which") (vs := [.int 3]) (ex_at 17 ce rfl) H
  have t_LIMITS_room := fun H => tupP_ok (K := K) (p := valAt "LIMITS" "room") (vs := [.int 3]) (ex_at 18 ce rfl) H
  have t_LIMITS_enter := fun H => tupP_ok (K := K) (p := valAt "LIMITS" "enter") (vs := [.int 1]) (ex_at 19 ce rfl) H
  have t_LIMITS_alarm := fun H => tupP_ok (K := K) (p := valAt "LIMITS" "alarm") (vs := [.int 3]) (ex_at 20 ce rfl) H
  have t_LIMITS_stop := fun H => tupP_ok (K := K) (p := valAt "LIMITS" "stop") (vs := []) (ex_at 21 ce rfl) H
  have q_ACTIONS := dictAt_of (x := "ACTIONS") (kvs := ([("put", .glo "do_put"), ("add", .glo "do_add"), ("less", .glo "do_less"), ("load", .glo "do_load"), ("store", .glo "do_store"), ("zero", .glo "do_zero"), ("go", .glo "do_go"), ("call", .glo "do_nothing")] : List (PySem.Str × He.Dv))) (cE.t.tab 1 (t := (fun K => He.ga K "ACTIONS", _)) rfl) (ex_at 22 ce rfl) (ex_at 23 ce rfl)
  have v_ACTIONS : ∃ u, mg "ACTIONS" = some u ∧ RelV (.ref (He.ga K "ACTIONS")) u := ⟨_, He.glo_ok X G (c.fact 119 (f := .glo "ACTIONS") rfl), rfl⟩
  have q_OWN_IN_HIGH := dictAt_of (x := "OWN_IN_HIGH") (kvs := ([("say", .glo "do_say"), ("hear", .glo "do_hear"), ("which", .glo "do_which_in_high"), ("room", .glo "do_room"), ("enter", .glo "do_enter"), ("alarm", .glo "do_alarm"), ("stop", .glo "do_stop")] : List (PySem.Str × He.Dv))) (cE.t.tab 2 (t := (fun K => He.ga K "OWN_IN_HIGH", _)) rfl) (ex_at 24 ce rfl) (ex_at 25 ce rfl)
  have v_OWN_IN_HIGH : ∃ u, mg "OWN_IN_HIGH" = some u ∧ RelV (.ref (He.ga K "OWN_IN_HIGH")) u := ⟨_, He.glo_ok X G (c.fact 120 (f := .glo "OWN_IN_HIGH") rfl), rfl⟩
  have q_OWN_IN_LOW := dictAt_of (x := "OWN_IN_LOW") (kvs := ([("say", .glo "do_say"), ("hear", .glo "do_hear"), ("which", .glo "do_which_in_low"), ("room", .glo "do_room"), ("enter", .glo "do_nothing"), ("alarm", .glo "do_nothing"), ("stop", .glo "do_nothing")] : List (PySem.Str × He.Dv))) (cE.t.tab 3 (t := (fun K => He.ga K "OWN_IN_LOW", _)) rfl) (ex_at 26 ce rfl) (ex_at 27 ce rfl)
  have v_OWN_IN_LOW : ∃ u, mg "OWN_IN_LOW" = some u ∧ RelV (.ref (He.ga K "OWN_IN_LOW")) u := ⟨_, He.glo_ok X G (c.fact 121 (f := .glo "OWN_IN_LOW") rfl), rfl⟩
  have q_OWN_BY_GROUND := dictAt_of (x := "OWN_BY_GROUND") (kvs := ([("say", .glo "do_say_to_ground"), ("hear", .glo "do_hear_nothing")] : List (PySem.Str × He.Dv))) (cE.t.tab 4 (t := (fun K => He.ga K "OWN_BY_GROUND", _)) rfl) (ex_at 28 ce rfl) (ex_at 29 ce rfl)
  have v_OWN_BY_GROUND : ∃ u, mg "OWN_BY_GROUND" = some u ∧ RelV (.ref (He.ga K "OWN_BY_GROUND")) u := ⟨_, He.glo_ok X G (c.fact 122 (f := .glo "OWN_BY_GROUND") rfl), rfl⟩
  have q_WHYS := idicB_ok (x := "WHYS") (kvs := ([(2, .str "beyond"), (3, .str "no row")] : List (Int × He.Dv))) (ex_at 30 ce rfl)
  have v_WHYS : ∃ u, mg "WHYS" = some u ∧ RelV (.ref (He.ga K "WHYS")) u := ⟨_, He.glo_ok X G (c.fact 118 (f := .glo "WHYS") rfl), rfl⟩
  have t_WAY_IN_HIGH_0 := fun H => tupP_ok (K := K) (p := itemAt "WAY_IN_HIGH" 0) (vs := [.str "put", .int 0, .int 1]) (ex_at 31 ce rfl) H
  have t_WAY_INTO_LOW_0 := fun H => tupP_ok (K := K) (p := itemAt "WAY_INTO_LOW" 0) (vs := [.str "put", .int 1, .int 16]) (ex_at 32 ce rfl) H
  have t_WAY_INTO_LOW_1 := fun H => tupP_ok (K := K) (p := itemAt "WAY_INTO_LOW" 1) (vs := [.str "put", .int 2, .int 3]) (ex_at 33 ce rfl) H
  have t_WAY_INTO_LOW_2 := fun H => tupP_ok (K := K) (p := itemAt "WAY_INTO_LOW" 2) (vs := [.str "enter", .int 0]) (ex_at 34 ce rfl) H
  have t_OWN : TupG K mg "OWN" _ := ⟨_, ⟨_, He.glo_ok X G (c.fact 97 (f := .glo "OWN") rfl), rfl⟩, He.tupB_ok (x := "OWN") (vs := [.str "say", .str "hear", .str "which", .str "room", .str "enter", .str "alarm", .str "stop"]) (ex_at 0 ce rfl)⟩
  have t_NEEDED_BY_PLAIN : TupG K mg "NEEDED_BY_PLAIN" _ := ⟨_, ⟨_, He.glo_ok X G (c.fact 105 (f := .glo "NEEDED_BY_PLAIN") rfl), rfl⟩, He.tupB_ok (x := "NEEDED_BY_PLAIN") (vs := [.str "say", .str "hear", .str "which", .str "enter", .str "alarm", .str "stop"]) (ex_at 1 ce rfl)⟩
  have t_NEEDED_BY_THROUGH : TupG K mg "NEEDED_BY_THROUGH" _ := ⟨_, ⟨_, He.glo_ok X G (c.fact 106 (f := .glo "NEEDED_BY_THROUGH") rfl), rfl⟩, He.tupB_ok (x := "NEEDED_BY_THROUGH") (vs := [.str "say", .str "hear"]) (ex_at 2 ce rfl)⟩
  have t_WAY_IN_HIGH : TupG K mg "WAY_IN_HIGH" _ := ⟨_, ⟨_, He.glo_ok X G (c.fact 107 (f := .glo "WAY_IN_HIGH") rfl), rfl⟩, He.tupB_ok (x := "WAY_IN_HIGH") (vs := [.adr (itemAt "WAY_IN_HIGH" 0)]) (ex_at 3 ce rfl)⟩
  have t_WAY_INTO_LOW : TupG K mg "WAY_INTO_LOW" _ := ⟨_, ⟨_, He.glo_ok X G (c.fact 108 (f := .glo "WAY_INTO_LOW") rfl), rfl⟩, He.tupB_ok (x := "WAY_INTO_LOW") (vs := [.adr (itemAt "WAY_INTO_LOW" 0), .adr (itemAt "WAY_INTO_LOW" 1), .adr (itemAt "WAY_INTO_LOW" 2)]) (ex_at 4 ce rfl)⟩
  have z_Room : Cz K (He.ga K "Room") ["floor", "beneath", "first", "wide", "taken"] := ⟨He.cls_ok (c.fact 124 (f := .cls "Room") rfl), List.forall_mem_cons.mpr ⟨He.noat_ok (c.fact 125 (f := .noat "Room" "floor") rfl), List.forall_mem_cons.mpr ⟨He.noat_ok (c.fact 126 (f := .noat "Room" "beneath") rfl), List.forall_mem_cons.mpr ⟨He.noat_ok (c.fact 127 (f := .noat "Room" "first") rfl), List.forall_mem_cons.mpr ⟨He.noat_ok (c.fact 128 (f := .noat "Room" "wide") rfl), List.forall_mem_cons.mpr ⟨He.noat_ok (c.fact 129 (f := .noat "Room" "taken") rfl), fun _ m => nomatch m⟩⟩⟩⟩⟩⟩
  have z_Ground : Cz K (He.ga K "Ground") ["kind", "room", "spoken", "hosts_beneath"] := ⟨He.cls_ok (c.fact 135 (f := .cls "Ground") rfl), List.forall_mem_cons.mpr ⟨He.noat_ok (c.fact 136 (f := .noat "Ground" "kind") rfl), List.forall_mem_cons.mpr ⟨He.noat_ok (c.fact 137 (f := .noat "Ground" "room") rfl), List.forall_mem_cons.mpr ⟨He.noat_ok (c.fact 138 (f := .noat "Ground" "spoken") rfl), List.forall_mem_cons.mpr ⟨He.noat_ok (c.fact 139 (f := .noat "Ground" "hosts_beneath") rfl), fun _ m => nomatch m⟩⟩⟩⟩⟩
  have z_Body : Cz K (He.ga K "Body") ["kind", "room", "ground", "through", "boxes", "place", "high", "window", "alarm", "spoken", "ear", "why", "steps"] := ⟨He.cls_ok (c.fact 143 (f := .cls "Body") rfl), List.forall_mem_cons.mpr ⟨He.noat_ok (c.fact 144 (f := .noat "Body" "kind") rfl), List.forall_mem_cons.mpr ⟨He.noat_ok (c.fact 145 (f := .noat "Body" "room") rfl), List.forall_mem_cons.mpr ⟨He.noat_ok (c.fact 146 (f := .noat "Body" "ground") rfl), List.forall_mem_cons.mpr ⟨He.noat_ok (c.fact 147 (f := .noat "Body" "through") rfl), List.forall_mem_cons.mpr ⟨He.noat_ok (c.fact 148 (f := .noat "Body" "boxes") rfl), List.forall_mem_cons.mpr ⟨He.noat_ok (c.fact 149 (f := .noat "Body" "place") rfl), List.forall_mem_cons.mpr ⟨He.noat_ok (c.fact 150 (f := .noat "Body" "high") rfl), List.forall_mem_cons.mpr ⟨He.noat_ok (c.fact 151 (f := .noat "Body" "window") rfl), List.forall_mem_cons.mpr ⟨He.noat_ok (c.fact 152 (f := .noat "Body" "alarm") rfl), List.forall_mem_cons.mpr ⟨He.noat_ok (c.fact 153 (f := .noat "Body" "spoken") rfl), List.forall_mem_cons.mpr ⟨He.noat_ok (c.fact 154 (f := .noat "Body" "ear") rfl), List.forall_mem_cons.mpr ⟨He.noat_ok (c.fact 155 (f := .noat "Body" "why") rfl), List.forall_mem_cons.mpr ⟨He.noat_ok (c.fact 156 (f := .noat "Body" "steps") rfl), fun _ m => nomatch m⟩⟩⟩⟩⟩⟩⟩⟩⟩⟩⟩⟩⟩⟩
  have z_Guest : Cz K (He.ga K "Guest") ["body", "share", "busy"] := ⟨He.cls_ok (c.fact 158 (f := .cls "Guest") rfl), List.forall_mem_cons.mpr ⟨He.noat_ok (c.fact 159 (f := .noat "Guest" "body") rfl), List.forall_mem_cons.mpr ⟨He.noat_ok (c.fact 160 (f := .noat "Guest" "share") rfl), List.forall_mem_cons.mpr ⟨He.noat_ok (c.fact 161 (f := .noat "Guest" "busy") rfl), fun _ m => nomatch m⟩⟩⟩⟩
  have z_Host : Cz K (He.ga K "Host") ["ground", "way", "guests", "next_number"] := ⟨He.cls_ok (c.fact 163 (f := .cls "Host") rfl), List.forall_mem_cons.mpr ⟨He.noat_ok (c.fact 164 (f := .noat "Host" "ground") rfl), List.forall_mem_cons.mpr ⟨He.noat_ok (c.fact 165 (f := .noat "Host" "way") rfl), List.forall_mem_cons.mpr ⟨He.noat_ok (c.fact 166 (f := .noat "Host" "guests") rfl), List.forall_mem_cons.mpr ⟨He.noat_ok (c.fact 167 (f := .noat "Host" "next_number") rfl), fun _ m => nomatch m⟩⟩⟩⟩⟩
  have z_Machine : Cz K (He.ga K "Machine") ["body"] := ⟨He.cls_ok (c.fact 183 (f := .cls "Machine") rfl), List.forall_mem_cons.mpr ⟨He.noat_ok (c.fact 184 (f := .noat "Machine" "body") rfl), fun _ m => nomatch m⟩⟩
  have e_Room_start := He.meth_ok (c.fact 130 (f := .meth "Room" "start") rfl)
  have e_Room_thing_at := He.meth_ok (c.fact 131 (f := .meth "Room" "thing_at") rfl)
  have e_Room_all_things := He.meth_ok (c.fact 132 (f := .meth "Room" "all_things") rfl)
  have e_Room_put_things := He.meth_ok (c.fact 133 (f := .meth "Room" "put_things") rfl)
  have M_Room := He.mkr_ok (c.fact 134 (f := .mkr "Room") rfl)
  have g_Room := He.glo_ok X G (c.fact 27 (f := .glo "Room") rfl)
  have e_Ground_all_cells := He.meth_ok (c.fact 140 (f := .meth "Ground" "all_cells") rfl)
  have e_Ground_said := He.meth_ok (c.fact 141 (f := .meth "Ground" "said") rfl)
  have M_Ground := He.mkr_ok (c.fact 142 (f := .mkr "Ground") rfl)
  have g_Ground := He.glo_ok X G (c.fact 32 (f := .glo "Ground") rfl)
  have M_Body := He.mkr_ok (c.fact 157 (f := .mkr "Body") rfl)
  have g_Body := He.glo_ok X G (c.fact 33 (f := .glo "Body") rfl)
  have M_Guest := He.mkr_ok (c.fact 162 (f := .mkr "Guest") rfl)
  have g_Guest := He.glo_ok X G (c.fact 36 (f := .glo "Guest") rfl)
  have e_Host_come := He.meth_ok (c.fact 168 (f := .meth "Host" "come") rfl)
  have e_Host_lay := He.meth_ok (c.fact 169 (f := .meth "Host" "lay") rfl)
  have e_Host_bring := He.meth_ok (c.fact 170 (f := .meth "Host" "bring") rfl)
  have e_Host_leave := He.meth_ok (c.fact 171 (f := .meth "Host" "leave") rfl)
  have e_Host_rooms := He.meth_ok (c.fact 172 (f := .meth "Host" "rooms") rfl)
  have e_Host_move := He.meth_ok (c.fact 173 (f := .meth "Host" "move") rfl)
  have e_Host_close_up := He.meth_ok (c.fact 174 (f := .meth "Host" "close_up") rfl)
  have e_Host_go := He.meth_ok (c.fact 175 (f := .meth "Host" "go") rfl)
  have e_Host_carried := He.meth_ok (c.fact 176 (f := .meth "Host" "carried") rfl)
  have e_Host_turn := He.meth_ok (c.fact 177 (f := .meth "Host" "turn") rfl)
  have e_Host_next_in_turn := He.meth_ok (c.fact 178 (f := .meth "Host" "next_in_turn") rfl)
  have e_Host_inner := He.meth_ok (c.fact 179 (f := .meth "Host" "inner") rfl)
  have e_Host_any_guest := He.meth_ok (c.fact 180 (f := .meth "Host" "any_guest") rfl)
  have e_Host_idle_guest := He.meth_ok (c.fact 181 (f := .meth "Host" "idle_guest") rfl)
  have M_Host := He.mkr_ok (c.fact 182 (f := .mkr "Host") rfl)
  have g_Host := He.glo_ok X G (c.fact 71 (f := .glo "Host") rfl)
  have e_Machine_go := He.meth_ok (c.fact 185 (f := .meth "Machine" "go") rfl)
  have e_Machine_said := He.meth_ok (c.fact 186 (f := .meth "Machine" "said") rfl)
  have e_Machine_carried := He.meth_ok (c.fact 187 (f := .meth "Machine" "carried") rfl)
  have M_Machine := He.mkr_ok (c.fact 188 (f := .mkr "Machine") rfl)
  have g_Machine := He.glo_ok X G (c.fact 72 (f := .glo "Machine") rfl)
  have tab_ACTIONS := tabF_of (w := w) (x := "ACTIONS") (t := [("put", "do_put"), ("add", "do_add"), ("less", "do_less"), ("load", "do_load"), ("store", "do_store"), ("zero", "do_zero"), ("go", "do_go"), ("call", "do_nothing")]) v_ACTIONS q_ACTIONS
  have tab_OWN_IN_HIGH := tabF_of (w := w) (x := "OWN_IN_HIGH") (t := [("say", "do_say"), ("hear", "do_hear"), ("which", "do_which_in_high"), ("room", "do_room"), ("enter", "do_enter"), ("alarm", "do_alarm"), ("stop", "do_stop")]) v_OWN_IN_HIGH q_OWN_IN_HIGH
  have tab_OWN_IN_LOW := tabF_of (w := w) (x := "OWN_IN_LOW") (t := [("say", "do_say"), ("hear", "do_hear"), ("which", "do_which_in_low"), ("room", "do_room"), ("enter", "do_nothing"), ("alarm", "do_nothing"), ("stop", "do_nothing")]) v_OWN_IN_LOW q_OWN_IN_LOW
  have tab_OWN_BY_GROUND := tabF_of (w := w) (x := "OWN_BY_GROUND") (t := [("say", "do_say_to_ground"), ("hear", "do_hear_nothing")]) v_OWN_BY_GROUND q_OWN_BY_GROUND
  obtain ⟨fd__wall, F__wall⟩ := c.def_ 0 (d := d__wall) rfl
  have g__wall := He.glo_ok X G (c.fact 0 (f := .glo "_wall") rfl)
  have D__wall := def_of (x := "_wall") (st := top 0) F__wall g__wall
  have b__wall : Binds K fd__wall ["k"] [] := F__wall.bindsN fun _ _ _ _ _ _ us hl => match us, hl with | [_], _ => rfl
  obtain ⟨fd_is_number, F_is_number⟩ := c.def_ 1 (d := d_is_number) rfl
  have g_is_number := He.glo_ok X G (c.fact 12 (f := .glo "is_number") rfl)
  have D_is_number := def_of (x := "is_number") (st := top 17) F_is_number g_is_number
  have b_is_number : Binds K fd_is_number ["value", "least", "most"] [] := F_is_number.bindsN fun _ _ _ _ _ _ us hl => match us, hl with | [_, _, _], _ => rfl
  obtain ⟨fd_is_row, F_is_row⟩ := c.def_ 2 (d := d_is_row) rfl
  have g_is_row := He.glo_ok X G (c.fact 13 (f := .glo "is_row") rfl)
  have D_is_row := def_of (x := "is_row") (st := top 18) F_is_row g_is_row
  have b_is_row : Binds K fd_is_row ["value"] [] := F_is_row.bindsN fun _ _ _ _ _ _ us hl => match us, hl with | [_], _ => rfl
  obtain ⟨fd_is_thing, F_is_thing⟩ := c.def_ 3 (d := d_is_thing) rfl
  have g_is_thing := He.glo_ok X G (c.fact 14 (f := .glo "is_thing") rfl)
  have D_is_thing := def_of (x := "is_thing") (st := top 19) F_is_thing g_is_thing
  have b_is_thing : Binds K fd_is_thing ["value"] [] := F_is_thing.bindsN fun _ _ _ _ _ _ us hl => match us, hl with | [_], _ => rfl
  obtain ⟨fd_worth, F_worth⟩ := c.def_ 4 (d := d_worth) rfl
  have g_worth := He.glo_ok X G (c.fact 15 (f := .glo "worth") rfl)
  have D_worth := def_of (x := "worth") (st := top 20) F_worth g_worth
  have b_worth : Binds K fd_worth ["thing"] [] := F_worth.bindsN fun _ _ _ _ _ _ us hl => match us, hl with | [_], _ => rfl
  obtain ⟨fd_check_kind, F_check_kind⟩ := c.def_ 5 (d := d_check_kind) rfl
  have g_check_kind := He.glo_ok X G (c.fact 16 (f := .glo "check_kind") rfl)
  have D_check_kind := def_of (x := "check_kind") (st := top 29) F_check_kind g_check_kind
  have b_check_kind : Binds K fd_check_kind ["kind"] [] := F_check_kind.bindsN fun _ _ _ _ _ _ us hl => match us, hl with | [_], _ => rfl
  obtain ⟨fd_check_cells, F_check_cells⟩ := c.def_ 6 (d := d_check_cells) rfl
  have g_check_cells := He.glo_ok X G (c.fact 17 (f := .glo "check_cells") rfl)
  have D_check_cells := def_of (x := "check_cells") (st := top 30) F_check_cells g_check_cells
  have b_check_cells : Binds K fd_check_cells ["cells"] [] := F_check_cells.bindsN fun _ _ _ _ _ _ us hl => match us, hl with | [_], _ => rfl
  obtain ⟨fd_check_ear, F_check_ear⟩ := c.def_ 7 (d := d_check_ear) rfl
  have g_check_ear := He.glo_ok X G (c.fact 18 (f := .glo "check_ear") rfl)
  have D_check_ear := def_of (x := "check_ear") (st := top 31) F_check_ear g_check_ear
  have b_check_ear : Binds K fd_check_ear ["ear"] [] := F_check_ear.bindsN fun _ _ _ _ _ _ us hl => match us, hl with | [_], _ => rfl
  obtain ⟨fd_check_count, F_check_count⟩ := c.def_ 8 (d := d_check_count) rfl
  have g_check_count := He.glo_ok X G (c.fact 19 (f := .glo "check_count") rfl)
  have D_check_count := def_of (x := "check_count") (st := top 32) F_check_count g_check_count
  have b_check_count : Binds K fd_check_count ["count", "least", "most"] [] := F_check_count.bindsN fun _ _ _ _ _ _ us hl => match us, hl with | [_, _, _], _ => rfl
  obtain ⟨fd_check_steps, F_check_steps⟩ := c.def_ 9 (d := d_check_steps) rfl
  have g_check_steps := He.glo_ok X G (c.fact 20 (f := .glo "check_steps") rfl)
  have D_check_steps := def_of (x := "check_steps") (st := top 33) F_check_steps g_check_steps
  have b_check_steps : Binds K fd_check_steps ["many"] [] := F_check_steps.bindsN fun _ _ _ _ _ _ us hl => match us, hl with | [_], _ => rfl
  obtain ⟨fd_check_way, F_check_way⟩ := c.def_ 10 (d := d_check_way) rfl
  have g_check_way := He.glo_ok X G (c.fact 21 (f := .glo "check_way") rfl)
  have D_check_way := def_of (x := "check_way") (st := top 34) F_check_way g_check_way
  have b_check_way : Binds K fd_check_way ["way"] [] := F_check_way.bindsN fun _ _ _ _ _ _ us hl => match us, hl with | [_], _ => rfl
  obtain ⟨fd_check_share, F_check_share⟩ := c.def_ 11 (d := d_check_share) rfl
  have g_check_share := He.glo_ok X G (c.fact 22 (f := .glo "check_share") rfl)
  have D_check_share := def_of (x := "check_share") (st := top 35) F_check_share g_check_share
  have b_check_share : Binds K fd_check_share ["share"] [] := F_check_share.bindsN fun _ _ _ _ _ _ us hl => match us, hl with | [_], _ => rfl
  obtain ⟨fd_holds, F_holds⟩ := c.def_ 12 (d := d_holds) rfl
  have g_holds := He.glo_ok X G (c.fact 23 (f := .glo "holds") rfl)
  have D_holds := def_of (x := "holds") (st := top 42) F_holds g_holds
  have b_holds : Binds K fd_holds ["kind", "way"] [] := F_holds.bindsN fun _ _ _ _ _ _ us hl => match us, hl with | [_, _], _ => rfl
  obtain ⟨fd_unlike, F_unlike⟩ := c.def_ 13 (d := d_unlike) rfl
  have g_unlike := He.glo_ok X G (c.fact 24 (f := .glo "unlike") rfl)
  have D_unlike := def_of (x := "unlike") (st := top 43) F_unlike g_unlike
  have b_unlike : Binds K fd_unlike ["kind", "way"] [] := F_unlike.bindsN fun _ _ _ _ _ _ us hl => match us, hl with | [_, _], _ => rfl
  obtain ⟨fd_lacking, F_lacking⟩ := c.def_ 14 (d := d_lacking) rfl
  have g_lacking := He.glo_ok X G (c.fact 25 (f := .glo "lacking") rfl)
  have D_lacking := def_of (x := "lacking") (st := top 44) F_lacking g_lacking
  have b_lacking : Binds K fd_lacking ["kind", "way"] [] := F_lacking.bindsN fun _ _ _ _ _ _ us hl => match us, hl with | [_, _], _ => rfl
  obtain ⟨fd_own_row, F_own_row⟩ := c.def_ 15 (d := d_own_row) rfl
  have g_own_row := He.glo_ok X G (c.fact 26 (f := .glo "own_row") rfl)
  have D_own_row := def_of (x := "own_row") (st := top 45) F_own_row g_own_row
  have b_own_row : Binds K fd_own_row ["word"] [] := F_own_row.bindsN fun _ _ _ _ _ _ us hl => match us, hl with | [_], _ => rfl
  obtain ⟨fd_Room_init, F_Room_init⟩ := c.def_ 16 (d := d_Room_init) rfl
  have U_Room_init := fun_of (st := inClass (top 47) 0) F_Room_init
  have b_Room_init : Binds K fd_Room_init ["self", "floor", "beneath", "first", "wide"] [] := F_Room_init.bindsN fun _ _ _ _ _ _ us hl => match us, hl with | [_, _, _, _, _], _ => rfl
  obtain ⟨fd_Room_start, F_Room_start⟩ := c.def_ 17 (d := d_Room_start) rfl
  have U_Room_start := fun_of (st := inClass (top 47) 1) F_Room_start
  have b_Room_start : Binds K fd_Room_start ["self"] [] := F_Room_start.bindsN fun _ _ _ _ _ _ us hl => match us, hl with | [_], _ => rfl
  obtain ⟨fd_Room_thing_at, F_Room_thing_at⟩ := c.def_ 18 (d := d_Room_thing_at) rfl
  have U_Room_thing_at := fun_of (st := inClass (top 47) 2) F_Room_thing_at
  have b_Room_thing_at : Binds K fd_Room_thing_at ["self", "cell"] [] := F_Room_thing_at.bindsN fun _ _ _ _ _ _ us hl => match us, hl with | [_, _], _ => rfl
  obtain ⟨fd_Room_all_things, F_Room_all_things⟩ := c.def_ 19 (d := d_Room_all_things) rfl
  have U_Room_all_things := fun_of (st := inClass (top 47) 3) F_Room_all_things
  have b_Room_all_things : Binds K fd_Room_all_things ["self"] [] := F_Room_all_things.bindsN fun _ _ _ _ _ _ us hl => match us, hl with | [_], _ => rfl
  obtain ⟨fd_Room_put_things, F_Room_put_things⟩ := c.def_ 20 (d := d_Room_put_things) rfl
  have U_Room_put_things := fun_of (st := inClass (top 47) 4) F_Room_put_things
  have b_Room_put_things : Binds K fd_Room_put_things ["self", "cell", "things"] [] := F_Room_put_things.bindsN fun _ _ _ _ _ _ us hl => match us, hl with | [_, _, _], _ => rfl
  obtain ⟨fd_room_alone, F_room_alone⟩ := c.def_ 21 (d := d_room_alone) rfl
  have g_room_alone := He.glo_ok X G (c.fact 28 (f := .glo "room_alone") rfl)
  have D_room_alone := def_of (x := "room_alone") (st := top 48) F_room_alone g_room_alone
  have b_room_alone : Binds K fd_room_alone ["things"] [] := F_room_alone.bindsN fun _ _ _ _ _ _ us hl => match us, hl with | [_], _ => rfl
  obtain ⟨fd_take_room, F_take_room⟩ := c.def_ 22 (d := d_take_room) rfl
  have g_take_room := He.glo_ok X G (c.fact 29 (f := .glo "take_room") rfl)
  have D_take_room := def_of (x := "take_room") (st := top 49) F_take_room g_take_room
  have b_take_room : Binds K fd_take_room ["room", "things"] [] := F_take_room.bindsN fun _ _ _ _ _ _ us hl => match us, hl with | [_, _], _ => rfl
  obtain ⟨fd_first_free, F_first_free⟩ := c.def_ 23 (d := d_first_free) rfl
  have g_first_free := He.glo_ok X G (c.fact 30 (f := .glo "first_free") rfl)
  have D_first_free := def_of (x := "first_free") (st := top 50) F_first_free g_first_free
  have b_first_free : Binds K fd_first_free ["room", "wide"] [] := F_first_free.bindsN fun _ _ _ _ _ _ us hl => match us, hl with | [_, _], _ => rfl
  obtain ⟨fd_is_free, F_is_free⟩ := c.def_ 24 (d := d_is_free) rfl
  have g_is_free := He.glo_ok X G (c.fact 31 (f := .glo "is_free") rfl)
  have D_is_free := def_of (x := "is_free") (st := top 51) F_is_free g_is_free
  have b_is_free : Binds K fd_is_free ["first", "wide", "others"] [] := F_is_free.bindsN fun _ _ _ _ _ _ us hl => match us, hl with | [_, _, _], _ => rfl
  obtain ⟨fd_Ground_init, F_Ground_init⟩ := c.def_ 25 (d := d_Ground_init) rfl
  have U_Ground_init := fun_of (st := inClass (top 55) 0) F_Ground_init
  have b_Ground_init : Binds K fd_Ground_init ["self", "kind", "wide"] [] := F_Ground_init.bindsN fun _ _ _ _ _ _ us hl => match us, hl with | [_, _, _], _ => rfl
  obtain ⟨fd_Ground_all_cells, F_Ground_all_cells⟩ := c.def_ 26 (d := d_Ground_all_cells) rfl
  have U_Ground_all_cells := fun_of (st := inClass (top 55) 1) F_Ground_all_cells
  have b_Ground_all_cells : Binds K fd_Ground_all_cells ["self"] [] := F_Ground_all_cells.bindsN fun _ _ _ _ _ _ us hl => match us, hl with | [_], _ => rfl
  obtain ⟨fd_Ground_said, F_Ground_said⟩ := c.def_ 27 (d := d_Ground_said) rfl
  have U_Ground_said := fun_of (st := inClass (top 55) 2) F_Ground_said
  have b_Ground_said : Binds K fd_Ground_said ["self"] [] := F_Ground_said.bindsN fun _ _ _ _ _ _ us hl => match us, hl with | [_], _ => rfl
  obtain ⟨fd_Body_init, F_Body_init⟩ := c.def_ 28 (d := d_Body_init) rfl
  have U_Body_init := fun_of (st := inClass (top 57) 0) F_Body_init
  have b_Body_init : Binds K fd_Body_init ["self", "kind", "room", "ear"] [] := F_Body_init.bindsN fun _ _ _ _ _ _ us hl => match us, hl with | [_, _, _, _], _ => rfl
  obtain ⟨fd_bundled, F_bundled⟩ := c.def_ 29 (d := d_bundled) rfl
  have g_bundled := He.glo_ok X G (c.fact 34 (f := .glo "bundled") rfl)
  have D_bundled := def_of (x := "bundled") (st := top 58) F_bundled g_bundled
  have b_bundled : Binds K fd_bundled ["body"] [] := F_bundled.bindsN fun _ _ _ _ _ _ us hl => match us, hl with | [_], _ => rfl
  obtain ⟨fd_take_up, F_take_up⟩ := c.def_ 30 (d := d_take_up) rfl
  have g_take_up := He.glo_ok X G (c.fact 35 (f := .glo "take_up") rfl)
  have D_take_up := def_of (x := "take_up") (st := top 59) F_take_up g_take_up
  have b_take_up : Binds K fd_take_up ["body", "bundle"] [] := F_take_up.bindsN fun _ _ _ _ _ _ us hl => match us, hl with | [_, _], _ => rfl
  obtain ⟨fd_Guest_init, F_Guest_init⟩ := c.def_ 31 (d := d_Guest_init) rfl
  have U_Guest_init := fun_of (st := inClass (top 61) 0) F_Guest_init
  have b_Guest_init : Binds K fd_Guest_init ["self", "body", "share"] [] := F_Guest_init.bindsN fun _ _ _ _ _ _ us hl => match us, hl with | [_, _, _], _ => rfl
  obtain ⟨fd_let_go, F_let_go⟩ := c.def_ 32 (d := d_let_go) rfl
  have g_let_go := He.glo_ok X G (c.fact 37 (f := .glo "let_go") rfl)
  have D_let_go := def_of (x := "let_go") (st := top 70) F_let_go g_let_go
  have b_let_go : Binds K fd_let_go ["body", "many"] [] := F_let_go.bindsN fun _ _ _ _ _ _ us hl => match us, hl with | [_, _], _ => rfl
  obtain ⟨fd_do_step, F_do_step⟩ := c.def_ 33 (d := d_do_step) rfl
  have g_do_step := He.glo_ok X G (c.fact 38 (f := .glo "do_step") rfl)
  have D_do_step := def_of (x := "do_step") (st := top 71) F_do_step g_do_step
  have b_do_step : Binds K fd_do_step ["body"] [] := F_do_step.bindsN fun _ _ _ _ _ _ us hl => match us, hl with | [_], _ => rfl
  obtain ⟨fd_box_worth, F_box_worth⟩ := c.def_ 34 (d := d_box_worth) rfl
  have g_box_worth := He.glo_ok X G (c.fact 39 (f := .glo "box_worth") rfl)
  have D_box_worth := def_of (x := "box_worth") (st := top 72) F_box_worth g_box_worth
  have b_box_worth : Binds K fd_box_worth ["body", "box"] [] := F_box_worth.bindsN fun _ _ _ _ _ _ us hl => match us, hl with | [_, _], _ => rfl
  obtain ⟨fd_is_beyond, F_is_beyond⟩ := c.def_ 35 (d := d_is_beyond) rfl
  have g_is_beyond := He.glo_ok X G (c.fact 40 (f := .glo "is_beyond") rfl)
  have D_is_beyond := def_of (x := "is_beyond") (st := top 73) F_is_beyond g_is_beyond
  have b_is_beyond : Binds K fd_is_beyond ["body", "address"] [] := F_is_beyond.bindsN fun _ _ _ _ _ _ us hl => match us, hl with | [_, _], _ => rfl
  obtain ⟨fd_cell_of, F_cell_of⟩ := c.def_ 36 (d := d_cell_of) rfl
  have g_cell_of := He.glo_ok X G (c.fact 41 (f := .glo "cell_of") rfl)
  have D_cell_of := def_of (x := "cell_of") (st := top 74) F_cell_of g_cell_of
  have b_cell_of : Binds K fd_cell_of ["body", "address"] [] := F_cell_of.bindsN fun _ _ _ _ _ _ us hl => match us, hl with | [_, _], _ => rfl
  obtain ⟨fd_row_at_place, F_row_at_place⟩ := c.def_ 37 (d := d_row_at_place) rfl
  have g_row_at_place := He.glo_ok X G (c.fact 42 (f := .glo "row_at_place") rfl)
  have D_row_at_place := def_of (x := "row_at_place") (st := top 75) F_row_at_place g_row_at_place
  have b_row_at_place : Binds K fd_row_at_place ["body"] [] := F_row_at_place.bindsN fun _ _ _ _ _ _ us hl => match us, hl with | [_], _ => rfl
  obtain ⟨fd_caught_at_place, F_caught_at_place⟩ := c.def_ 38 (d := d_caught_at_place) rfl
  have g_caught_at_place := He.glo_ok X G (c.fact 43 (f := .glo "caught_at_place") rfl)
  have D_caught_at_place := def_of (x := "caught_at_place") (st := top 76) F_caught_at_place g_caught_at_place
  have b_caught_at_place : Binds K fd_caught_at_place ["body"] [] := F_caught_at_place.bindsN fun _ _ _ _ _ _ us hl => match us, hl with | [_], _ => rfl
  obtain ⟨fd_reaches_beyond, F_reaches_beyond⟩ := c.def_ 39 (d := d_reaches_beyond) rfl
  have g_reaches_beyond := He.glo_ok X G (c.fact 44 (f := .glo "reaches_beyond") rfl)
  have D_reaches_beyond := def_of (x := "reaches_beyond") (st := top 77) F_reaches_beyond g_reaches_beyond
  have b_reaches_beyond : Binds K fd_reaches_beyond ["body", "row"] [] := F_reaches_beyond.bindsN fun _ _ _ _ _ _ us hl => match us, hl with | [_, _], _ => rfl
  obtain ⟨fd_caught_in_low, F_caught_in_low⟩ := c.def_ 40 (d := d_caught_in_low) rfl
  have g_caught_in_low := He.glo_ok X G (c.fact 45 (f := .glo "caught_in_low") rfl)
  have D_caught_in_low := def_of (x := "caught_in_low") (st := top 78) F_caught_in_low g_caught_in_low
  have b_caught_in_low : Binds K fd_caught_in_low ["kind", "word"] [] := F_caught_in_low.bindsN fun _ _ _ _ _ _ us hl => match us, hl with | [_, _], _ => rfl
  obtain ⟨fd_catch, F_catch⟩ := c.def_ 41 (d := d_catch) rfl
  have g_catch := He.glo_ok X G (c.fact 46 (f := .glo "catch") rfl)
  have D_catch := def_of (x := "catch") (st := top 79) F_catch g_catch
  have b_catch : Binds K fd_catch ["body", "number"] [] := F_catch.bindsN fun _ _ _ _ _ _ us hl => match us, hl with | [_, _], _ => rfl
  obtain ⟨fd_make_high, F_make_high⟩ := c.def_ 42 (d := d_make_high) rfl
  have g_make_high := He.glo_ok X G (c.fact 47 (f := .glo "make_high") rfl)
  have D_make_high := def_of (x := "make_high") (st := top 80) F_make_high g_make_high
  have b_make_high : Binds K fd_make_high ["body", "number", "called"] [] := F_make_high.bindsN fun _ _ _ _ _ _ us hl => match us, hl with | [_, _, _], _ => rfl
  obtain ⟨fd_do_row, F_do_row⟩ := c.def_ 43 (d := d_do_row) rfl
  have g_do_row := He.glo_ok X G (c.fact 48 (f := .glo "do_row") rfl)
  have D_do_row := def_of (x := "do_row") (st := top 81) F_do_row g_do_row
  have b_do_row : Binds K fd_do_row ["body", "row"] [] := F_do_row.bindsN fun _ _ _ _ _ _ us hl => match us, hl with | [_, _], _ => rfl
  obtain ⟨fd_lessen_alarm, F_lessen_alarm⟩ := c.def_ 44 (d := d_lessen_alarm) rfl
  have g_lessen_alarm := He.glo_ok X G (c.fact 49 (f := .glo "lessen_alarm") rfl)
  have D_lessen_alarm := def_of (x := "lessen_alarm") (st := top 82) F_lessen_alarm g_lessen_alarm
  have b_lessen_alarm : Binds K fd_lessen_alarm ["body"] [] := F_lessen_alarm.bindsN fun _ _ _ _ _ _ us hl => match us, hl with | [_], _ => rfl
  obtain ⟨fd_do_put, F_do_put⟩ := c.def_ 45 (d := d_do_put) rfl
  have g_do_put := He.glo_ok X G (c.fact 50 (f := .glo "do_put") rfl)
  have D_do_put := def_of (x := "do_put") (st := top 83) F_do_put g_do_put
  have b_do_put : Binds K fd_do_put ["body", "box", "number"] [] := F_do_put.bindsN fun _ _ _ _ _ _ us hl => match us, hl with | [_, _, _], _ => rfl
  obtain ⟨fd_do_add, F_do_add⟩ := c.def_ 46 (d := d_do_add) rfl
  have g_do_add := He.glo_ok X G (c.fact 51 (f := .glo "do_add") rfl)
  have D_do_add := def_of (x := "do_add") (st := top 84) F_do_add g_do_add
  have b_do_add : Binds K fd_do_add ["body", "box", "one", "other"] [] := F_do_add.bindsN fun _ _ _ _ _ _ us hl => match us, hl with | [_, _, _, _], _ => rfl
  obtain ⟨fd_do_less, F_do_less⟩ := c.def_ 47 (d := d_do_less) rfl
  have g_do_less := He.glo_ok X G (c.fact 52 (f := .glo "do_less") rfl)
  have D_do_less := def_of (x := "do_less") (st := top 85) F_do_less g_do_less
  have b_do_less : Binds K fd_do_less ["body", "box", "one", "other"] [] := F_do_less.bindsN fun _ _ _ _ _ _ us hl => match us, hl with | [_, _, _, _], _ => rfl
  obtain ⟨fd_do_load, F_do_load⟩ := c.def_ 48 (d := d_do_load) rfl
  have g_do_load := He.glo_ok X G (c.fact 53 (f := .glo "do_load") rfl)
  have D_do_load := def_of (x := "do_load") (st := top 86) F_do_load g_do_load
  have b_do_load : Binds K fd_do_load ["body", "box", "pointer"] [] := F_do_load.bindsN fun _ _ _ _ _ _ us hl => match us, hl with | [_, _, _], _ => rfl
  obtain ⟨fd_do_store, F_do_store⟩ := c.def_ 49 (d := d_do_store) rfl
  have g_do_store := He.glo_ok X G (c.fact 54 (f := .glo "do_store") rfl)
  have D_do_store := def_of (x := "do_store") (st := top 87) F_do_store g_do_store
  have b_do_store : Binds K fd_do_store ["body", "pointer", "box"] [] := F_do_store.bindsN fun _ _ _ _ _ _ us hl => match us, hl with | [_, _, _], _ => rfl
  obtain ⟨fd_do_zero, F_do_zero⟩ := c.def_ 50 (d := d_do_zero) rfl
  have g_do_zero := He.glo_ok X G (c.fact 55 (f := .glo "do_zero") rfl)
  have D_do_zero := def_of (x := "do_zero") (st := top 88) F_do_zero g_do_zero
  have b_do_zero : Binds K fd_do_zero ["body", "box", "place"] [] := F_do_zero.bindsN fun _ _ _ _ _ _ us hl => match us, hl with | [_, _, _], _ => rfl
  obtain ⟨fd_do_go, F_do_go⟩ := c.def_ 51 (d := d_do_go) rfl
  have g_do_go := He.glo_ok X G (c.fact 56 (f := .glo "do_go") rfl)
  have D_do_go := def_of (x := "do_go") (st := top 89) F_do_go g_do_go
  have b_do_go : Binds K fd_do_go ["body", "place"] [] := F_do_go.bindsN fun _ _ _ _ _ _ us hl => match us, hl with | [_, _], _ => rfl
  obtain ⟨fd_do_nothing, F_do_nothing⟩ := c.def_ 52 (d := d_do_nothing) rfl
  obtain ⟨fd_do_say, F_do_say⟩ := c.def_ 53 (d := d_do_say) rfl
  have g_do_say := He.glo_ok X G (c.fact 58 (f := .glo "do_say") rfl)
  have D_do_say := def_of (x := "do_say") (st := top 91) F_do_say g_do_say
  have b_do_say : Binds K fd_do_say ["body", "box"] [] := F_do_say.bindsN fun _ _ _ _ _ _ us hl => match us, hl with | [_, _], _ => rfl
  obtain ⟨fd_do_hear, F_do_hear⟩ := c.def_ 54 (d := d_do_hear) rfl
  have g_do_hear := He.glo_ok X G (c.fact 59 (f := .glo "do_hear") rfl)
  have D_do_hear := def_of (x := "do_hear") (st := top 92) F_do_hear g_do_hear
  have b_do_hear : Binds K fd_do_hear ["body", "box"] [] := F_do_hear.bindsN fun _ _ _ _ _ _ us hl => match us, hl with | [_, _], _ => rfl
  obtain ⟨fd_do_which_in_high, F_do_which_in_high⟩ := c.def_ 55 (d := d_do_which_in_high) rfl
  have g_do_which_in_high := He.glo_ok X G (c.fact 60 (f := .glo "do_which_in_high") rfl)
  have D_do_which_in_high := def_of (x := "do_which_in_high") (st := top 93) F_do_which_in_high g_do_which_in_high
  have b_do_which_in_high : Binds K fd_do_which_in_high ["body", "box"] [] := F_do_which_in_high.bindsN fun _ _ _ _ _ _ us hl => match us, hl with | [_, _], _ => rfl
  obtain ⟨fd_do_which_in_low, F_do_which_in_low⟩ := c.def_ 56 (d := d_do_which_in_low) rfl
  have g_do_which_in_low := He.glo_ok X G (c.fact 61 (f := .glo "do_which_in_low") rfl)
  have D_do_which_in_low := def_of (x := "do_which_in_low") (st := top 94) F_do_which_in_low g_do_which_in_low
  have b_do_which_in_low : Binds K fd_do_which_in_low ["body", "box"] [] := F_do_which_in_low.bindsN fun _ _ _ _ _ _ us hl => match us, hl with | [_, _], _ => rfl
  obtain ⟨fd_do_room, F_do_room⟩ := c.def_ 57 (d := d_do_room) rfl
  have g_do_room := He.glo_ok X G (c.fact 62 (f := .glo "do_room") rfl)
  have D_do_room := def_of (x := "do_room") (st := top 95) F_do_room g_do_room
  have b_do_room : Binds K fd_do_room ["body", "box"] [] := F_do_room.bindsN fun _ _ _ _ _ _ us hl => match us, hl with | [_, _], _ => rfl
  obtain ⟨fd_do_enter, F_do_enter⟩ := c.def_ 58 (d := d_do_enter) rfl
  have g_do_enter := He.glo_ok X G (c.fact 63 (f := .glo "do_enter") rfl)
  have D_do_enter := def_of (x := "do_enter") (st := top 96) F_do_enter g_do_enter
  have b_do_enter : Binds K fd_do_enter ["body", "box"] [] := F_do_enter.bindsN fun _ _ _ _ _ _ us hl => match us, hl with | [_, _], _ => rfl
  obtain ⟨fd_do_alarm, F_do_alarm⟩ := c.def_ 59 (d := d_do_alarm) rfl
  have g_do_alarm := He.glo_ok X G (c.fact 64 (f := .glo "do_alarm") rfl)
  have D_do_alarm := def_of (x := "do_alarm") (st := top 97) F_do_alarm g_do_alarm
  have b_do_alarm : Binds K fd_do_alarm ["body", "box"] [] := F_do_alarm.bindsN fun _ _ _ _ _ _ us hl => match us, hl with | [_, _], _ => rfl
  obtain ⟨fd_do_stop, F_do_stop⟩ := c.def_ 60 (d := d_do_stop) rfl
  have g_do_stop := He.glo_ok X G (c.fact 65 (f := .glo "do_stop") rfl)
  have D_do_stop := def_of (x := "do_stop") (st := top 98) F_do_stop g_do_stop
  have b_do_stop : Binds K fd_do_stop ["body"] [] := F_do_stop.bindsN fun _ _ _ _ _ _ us hl => match us, hl with | [_], _ => rfl
  obtain ⟨fd_do_say_to_ground, F_do_say_to_ground⟩ := c.def_ 61 (d := d_do_say_to_ground) rfl
  have g_do_say_to_ground := He.glo_ok X G (c.fact 66 (f := .glo "do_say_to_ground") rfl)
  have D_do_say_to_ground := def_of (x := "do_say_to_ground") (st := top 99) F_do_say_to_ground g_do_say_to_ground
  have b_do_say_to_ground : Binds K fd_do_say_to_ground ["body", "box"] [] := F_do_say_to_ground.bindsN fun _ _ _ _ _ _ us hl => match us, hl with | [_, _], _ => rfl
  obtain ⟨fd_do_hear_nothing, F_do_hear_nothing⟩ := c.def_ 62 (d := d_do_hear_nothing) rfl
  have g_do_hear_nothing := He.glo_ok X G (c.fact 67 (f := .glo "do_hear_nothing") rfl)
  have D_do_hear_nothing := def_of (x := "do_hear_nothing") (st := top 100) F_do_hear_nothing g_do_hear_nothing
  have b_do_hear_nothing : Binds K fd_do_hear_nothing ["body", "box"] [] := F_do_hear_nothing.bindsN fun _ _ _ _ _ _ us hl => match us, hl with | [_, _], _ => rfl
  obtain ⟨fd_act, F_act⟩ := c.def_ 63 (d := d_act) rfl
  have g_act := He.glo_ok X G (c.fact 68 (f := .glo "act") rfl)
  have D_act := def_of (x := "act") (st := top 105) F_act g_act
  have b_act : Binds K fd_act ["body", "row"] [] := F_act.bindsN fun _ _ _ _ _ _ us hl => match us, hl with | [_, _], _ => rfl
  obtain ⟨fd_own_action, F_own_action⟩ := c.def_ 64 (d := d_own_action) rfl
  have g_own_action := He.glo_ok X G (c.fact 69 (f := .glo "own_action") rfl)
  have D_own_action := def_of (x := "own_action") (st := top 106) F_own_action g_own_action
  have b_own_action : Binds K fd_own_action ["body", "word"] [] := F_own_action.bindsN fun _ _ _ _ _ _ us hl => match us, hl with | [_, _], _ => rfl
  obtain ⟨fd_is_done_by_ground, F_is_done_by_ground⟩ := c.def_ 65 (d := d_is_done_by_ground) rfl
  have g_is_done_by_ground := He.glo_ok X G (c.fact 70 (f := .glo "is_done_by_ground") rfl)
  have D_is_done_by_ground := def_of (x := "is_done_by_ground") (st := top 107) F_is_done_by_ground g_is_done_by_ground
  have b_is_done_by_ground : Binds K fd_is_done_by_ground ["body", "word"] [] := F_is_done_by_ground.bindsN fun _ _ _ _ _ _ us hl => match us, hl with | [_, _], _ => rfl
  obtain ⟨fd_Host_init, F_Host_init⟩ := c.def_ 66 (d := d_Host_init) rfl
  have U_Host_init := fun_of (st := inClass (top 110) 0) F_Host_init
  have b_Host_init : Binds K fd_Host_init ["self", "ground", "way"] [] := F_Host_init.bindsN fun _ _ _ _ _ _ us hl => match us, hl with | [_, _, _], _ => rfl
  obtain ⟨fd_Host_come, F_Host_come⟩ := c.def_ 67 (d := d_Host_come) rfl
  have U_Host_come := fun_of (st := inClass (top 110) 1) F_Host_come
  have b_Host_come : Binds K fd_Host_come ["self", "cells", "ear", "share"] [] := F_Host_come.bindsN fun _ _ _ _ _ _ us hl => match us, hl with | [_, _, _, _], _ => rfl
  obtain ⟨fd_Host_lay, F_Host_lay⟩ := c.def_ 68 (d := d_Host_lay) rfl
  have U_Host_lay := fun_of (st := inClass (top 110) 2) F_Host_lay
  have b_Host_lay : Binds K fd_Host_lay ["self", "bundle", "share"] [] := F_Host_lay.bindsN fun _ _ _ _ _ _ us hl => match us, hl with | [_, _, _], _ => rfl
  obtain ⟨fd_Host_bring, F_Host_bring⟩ := c.def_ 69 (d := d_Host_bring) rfl
  have U_Host_bring := fun_of (st := inClass (top 110) 3) F_Host_bring
  have b_Host_bring : Binds K fd_Host_bring ["self", "cells", "ear", "share"] [] := F_Host_bring.bindsN fun _ _ _ _ _ _ us hl => match us, hl with | [_, _, _, _], _ => rfl
  obtain ⟨fd_Host_leave, F_Host_leave⟩ := c.def_ 70 (d := d_Host_leave) rfl
  have U_Host_leave := fun_of (st := inClass (top 110) 4) F_Host_leave
  have b_Host_leave : Binds K fd_Host_leave ["self", "number"] [] := F_Host_leave.bindsN fun _ _ _ _ _ _ us hl => match us, hl with | [_, _], _ => rfl
  obtain ⟨fd_Host_rooms, F_Host_rooms⟩ := c.def_ 71 (d := d_Host_rooms) rfl
  have U_Host_rooms := fun_of (st := inClass (top 110) 5) F_Host_rooms
  have b_Host_rooms : Binds K fd_Host_rooms ["self"] [] := F_Host_rooms.bindsN fun _ _ _ _ _ _ us hl => match us, hl with | [_], _ => rfl
  obtain ⟨fd_Host_move, F_Host_move⟩ := c.def_ 72 (d := d_Host_move) rfl
  have U_Host_move := fun_of (st := inClass (top 110) 6) F_Host_move
  have b_Host_move : Binds K fd_Host_move ["self", "number", "first"] [] := F_Host_move.bindsN fun _ _ _ _ _ _ us hl => match us, hl with | [_, _, _], _ => rfl
  obtain ⟨fd_Host_close_up, F_Host_close_up⟩ := c.def_ 73 (d := d_Host_close_up) rfl
  have U_Host_close_up := fun_of (st := inClass (top 110) 7) F_Host_close_up
  have b_Host_close_up : Binds K fd_Host_close_up ["self"] [] := F_Host_close_up.bindsN fun _ _ _ _ _ _ us hl => match us, hl with | [_], _ => rfl
  obtain ⟨fd_Host_go, F_Host_go⟩ := c.def_ 74 (d := d_Host_go) rfl
  have U_Host_go := fun_of (st := inClass (top 110) 8) F_Host_go
  have b_Host_go : Binds K fd_Host_go ["self", "number", "many"] [] := F_Host_go.bindsN fun _ _ _ _ _ _ us hl => match us, hl with | [_, _, _], _ => rfl
  obtain ⟨fd_Host_carried, F_Host_carried⟩ := c.def_ 75 (d := d_Host_carried) rfl
  have U_Host_carried := fun_of (st := inClass (top 110) 9) F_Host_carried
  have b_Host_carried : Binds K fd_Host_carried ["self", "number"] [] := F_Host_carried.bindsN fun _ _ _ _ _ _ us hl => match us, hl with | [_, _], _ => rfl
  obtain ⟨fd_Host_turn, F_Host_turn⟩ := c.def_ 76 (d := d_Host_turn) rfl
  have U_Host_turn := fun_of (st := inClass (top 110) 10) F_Host_turn
  have b_Host_turn : Binds K fd_Host_turn ["self", "many", "each"] [] := F_Host_turn.bindsN fun _ _ _ _ _ _ us hl => match us, hl with | [_, _, _], _ => rfl
  obtain ⟨fd_Host_next_in_turn, F_Host_next_in_turn⟩ := c.def_ 77 (d := d_Host_next_in_turn) rfl
  have U_Host_next_in_turn := fun_of (st := inClass (top 110) 11) F_Host_next_in_turn
  have b_Host_next_in_turn : Binds K fd_Host_next_in_turn ["self"] [] := F_Host_next_in_turn.bindsN fun _ _ _ _ _ _ us hl => match us, hl with | [_], _ => rfl
  obtain ⟨fd_Host_inner, F_Host_inner⟩ := c.def_ 78 (d := d_Host_inner) rfl
  have U_Host_inner := fun_of (st := inClass (top 110) 12) F_Host_inner
  have b_Host_inner : Binds K fd_Host_inner ["self", "number"] [] := F_Host_inner.bindsN fun _ _ _ _ _ _ us hl => match us, hl with | [_, _], _ => rfl
  obtain ⟨fd_Host_any_guest, F_Host_any_guest⟩ := c.def_ 79 (d := d_Host_any_guest) rfl
  have U_Host_any_guest := fun_of (st := inClass (top 110) 13) F_Host_any_guest
  have b_Host_any_guest : Binds K fd_Host_any_guest ["self", "number"] [] := F_Host_any_guest.bindsN fun _ _ _ _ _ _ us hl => match us, hl with | [_, _], _ => rfl
  obtain ⟨fd_Host_idle_guest, F_Host_idle_guest⟩ := c.def_ 80 (d := d_Host_idle_guest) rfl
  have U_Host_idle_guest := fun_of (st := inClass (top 110) 14) F_Host_idle_guest
  have b_Host_idle_guest : Binds K fd_Host_idle_guest ["self", "number"] [] := F_Host_idle_guest.bindsN fun _ _ _ _ _ _ us hl => match us, hl with | [_, _], _ => rfl
  obtain ⟨fd_Machine_init, F_Machine_init⟩ := c.def_ 81 (d := d_Machine_init) rfl
  have U_Machine_init := fun_of (st := inClass (top 112) 0) F_Machine_init
  have b_Machine_init : Binds K fd_Machine_init ["self", "kind", "cells", "ear"] [] := F_Machine_init.bindsN fun _ _ _ _ _ _ us hl => match us, hl with | [_, _, _, _], _ => rfl
  obtain ⟨fd_Machine_go, F_Machine_go⟩ := c.def_ 82 (d := d_Machine_go) rfl
  have U_Machine_go := fun_of (st := inClass (top 112) 1) F_Machine_go
  have b_Machine_go : Binds K fd_Machine_go ["self", "many"] [] := F_Machine_go.bindsN fun _ _ _ _ _ _ us hl => match us, hl with | [_, _], _ => rfl
  obtain ⟨fd_Machine_said, F_Machine_said⟩ := c.def_ 83 (d := d_Machine_said) rfl
  have U_Machine_said := fun_of (st := inClass (top 112) 2) F_Machine_said
  have b_Machine_said : Binds K fd_Machine_said ["self"] [] := F_Machine_said.bindsN fun _ _ _ _ _ _ us hl => match us, hl with | [_], _ => rfl
  obtain ⟨fd_Machine_carried, F_Machine_carried⟩ := c.def_ 84 (d := d_Machine_carried) rfl
  have U_Machine_carried := fun_of (st := inClass (top 112) 3) F_Machine_carried
  have b_Machine_carried : Binds K fd_Machine_carried ["self"] [] := F_Machine_carried.bindsN fun _ _ _ _ _ _ us hl => match us, hl with | [_], _ => rfl
  obtain ⟨fd__law_start, F__law_start⟩ := c.def_ 85 (d := d__law_start) rfl
  have g__law_start := He.glo_ok X G (c.fact 73 (f := .glo "_law_start") rfl)
  have D__law_start := def_of (x := "_law_start") (st := top 114) F__law_start g__law_start
  have b__law_start : Binds K fd__law_start ["_law_script"] [] := F__law_start.bindsN fun _ _ _ _ _ _ us hl => match us, hl with | [_], _ => rfl
  obtain ⟨fd__law_drawn, F__law_drawn⟩ := c.def_ 86 (d := d__law_drawn) rfl
  have g__law_drawn := He.glo_ok X G (c.fact 74 (f := .glo "_law_drawn") rfl)
  have D__law_drawn := def_of (x := "_law_drawn") (st := top 115) F__law_drawn g__law_drawn
  have b__law_drawn : Binds K fd__law_drawn ["_law_state", "_law_many"] [] := F__law_drawn.bindsN fun _ _ _ _ _ _ us hl => match us, hl with | [_, _], _ => rfl
  obtain ⟨fd__law_same, F__law_same⟩ := c.def_ 87 (d := d__law_same) rfl
  have g__law_same := He.glo_ok X G (c.fact 75 (f := .glo "_law_same") rfl)
  have D__law_same := def_of (x := "_law_same") (st := top 116) F__law_same g__law_same
  have b__law_same : Binds K fd__law_same ["_law_found", "_law_due"] [] := F__law_same.bindsN fun _ _ _ _ _ _ us hl => match us, hl with | [_, _], _ => rfl
  obtain ⟨fd__law_number, F__law_number⟩ := c.def_ 88 (d := d__law_number) rfl
  have g__law_number := He.glo_ok X G (c.fact 76 (f := .glo "_law_number") rfl)
  have D__law_number := def_of (x := "_law_number") (st := top 117) F__law_number g__law_number
  have b__law_number : Binds K fd__law_number ["_law_state"] [] := F__law_number.bindsN fun _ _ _ _ _ _ us hl => match us, hl with | [_], _ => rfl
  obtain ⟨fd__law_row, F__law_row⟩ := c.def_ 89 (d := d__law_row) rfl
  have g__law_row := He.glo_ok X G (c.fact 77 (f := .glo "_law_row") rfl)
  have D__law_row := def_of (x := "_law_row") (st := top 118) F__law_row g__law_row
  have b__law_row : Binds K fd__law_row ["_law_state", "_law_low_here"] [] := F__law_row.bindsN fun _ _ _ _ _ _ us hl => match us, hl with | [_, _], _ => rfl
  obtain ⟨fd__law_any, F__law_any⟩ := c.def_ 90 (d := d__law_any) rfl
  have g__law_any := He.glo_ok X G (c.fact 78 (f := .glo "_law_any") rfl)
  have D__law_any := def_of (x := "_law_any") (st := top 119) F__law_any g__law_any
  have b__law_any : Binds K fd__law_any ["_law_state"] [] := F__law_any.bindsN fun _ _ _ _ _ _ us hl => match us, hl with | [_], _ => rfl
  obtain ⟨fd__law_ruler, F__law_ruler⟩ := c.def_ 91 (d := d__law_ruler) rfl
  have g__law_ruler := He.glo_ok X G (c.fact 79 (f := .glo "_law_ruler") rfl)
  have D__law_ruler := def_of (x := "_law_ruler") (st := top 120) F__law_ruler g__law_ruler
  have b__law_ruler : Binds K fd__law_ruler ["_law_state"] [] := F__law_ruler.bindsN fun _ _ _ _ _ _ us hl => match us, hl with | [_], _ => rfl
  obtain ⟨fd__law_cells, F__law_cells⟩ := c.def_ 92 (d := d__law_cells) rfl
  have g__law_cells := He.glo_ok X G (c.fact 80 (f := .glo "_law_cells") rfl)
  have D__law_cells := def_of (x := "_law_cells") (st := top 121) F__law_cells g__law_cells
  have b__law_cells : Binds K fd__law_cells ["_law_state"] [] := F__law_cells.bindsN fun _ _ _ _ _ _ us hl => match us, hl with | [_], _ => rfl
  obtain ⟨fd__law_kind, F__law_kind⟩ := c.def_ 93 (d := d__law_kind) rfl
  have g__law_kind := He.glo_ok X G (c.fact 81 (f := .glo "_law_kind") rfl)
  have D__law_kind := def_of (x := "_law_kind") (st := top 122) F__law_kind g__law_kind
  have b__law_kind : Binds K fd__law_kind ["_law_state"] [] := F__law_kind.bindsN fun _ _ _ _ _ _ us hl => match us, hl with | [_], _ => rfl
  obtain ⟨fd__law_ear, F__law_ear⟩ := c.def_ 94 (d := d__law_ear) rfl
  have g__law_ear := He.glo_ok X G (c.fact 82 (f := .glo "_law_ear") rfl)
  have D__law_ear := def_of (x := "_law_ear") (st := top 123) F__law_ear g__law_ear
  have b__law_ear : Binds K fd__law_ear ["_law_state"] [] := F__law_ear.bindsN fun _ _ _ _ _ _ us hl => match us, hl with | [_], _ => rfl
  obtain ⟨fd__law_machine, F__law_machine⟩ := c.def_ 95 (d := d__law_machine) rfl
  have g__law_machine := He.glo_ok X G (c.fact 83 (f := .glo "_law_machine") rfl)
  have D__law_machine := def_of (x := "_law_machine") (st := top 124) F__law_machine g__law_machine
  have b__law_machine : Binds K fd__law_machine ["_law_cells_here", "_law_ear_here"] [] := F__law_machine.bindsN fun _ _ _ _ _ _ us hl => match us, hl with | [_, _], _ => rfl
  obtain ⟨fd__law_bundle, F__law_bundle⟩ := c.def_ 96 (d := d__law_bundle) rfl
  have g__law_bundle := He.glo_ok X G (c.fact 84 (f := .glo "_law_bundle") rfl)
  have D__law_bundle := def_of (x := "_law_bundle") (st := top 125) F__law_bundle g__law_bundle
  have b__law_bundle : Binds K fd__law_bundle ["_law_m"] [] := F__law_bundle.bindsN fun _ _ _ _ _ _ us hl => match us, hl with | [_], _ => rfl
  obtain ⟨fd__law_worth, F__law_worth⟩ := c.def_ 97 (d := d__law_worth) rfl
  have g__law_worth := He.glo_ok X G (c.fact 85 (f := .glo "_law_worth") rfl)
  have D__law_worth := def_of (x := "_law_worth") (st := top 126) F__law_worth g__law_worth
  have b__law_worth : Binds K fd__law_worth ["_law_thing"] [] := F__law_worth.bindsN fun _ _ _ _ _ _ us hl => match us, hl with | [_], _ => rfl
  obtain ⟨fd__law_caught, F__law_caught⟩ := c.def_ 98 (d := d__law_caught) rfl
  have g__law_caught := He.glo_ok X G (c.fact 86 (f := .glo "_law_caught") rfl)
  have D__law_caught := def_of (x := "_law_caught") (st := top 127) F__law_caught g__law_caught
  have b__law_caught : Binds K fd__law_caught ["_law_m", "_law_number_here", "_law_more"] [] := F__law_caught.bindsN fun _ _ _ _ _ _ us hl => match us, hl with | [_, _, _], _ => rfl
  obtain ⟨fd__law_plain, F__law_plain⟩ := c.def_ 99 (d := d__law_plain) rfl
  have g__law_plain := He.glo_ok X G (c.fact 87 (f := .glo "_law_plain") rfl)
  have D__law_plain := def_of (x := "_law_plain") (st := top 128) F__law_plain g__law_plain
  have b__law_plain : Binds K fd__law_plain ["_law_m", "_law_row_here"] [] := F__law_plain.bindsN fun _ _ _ _ _ _ us hl => match us, hl with | [_, _], _ => rfl
  obtain ⟨fd__law_high, F__law_high⟩ := c.def_ 100 (d := d__law_high) rfl
  have g__law_high := He.glo_ok X G (c.fact 88 (f := .glo "_law_high") rfl)
  have D__law_high := def_of (x := "_law_high") (st := top 129) F__law_high g__law_high
  have b__law_high : Binds K fd__law_high ["_law_m", "_law_row_here"] [] := F__law_high.bindsN fun _ _ _ _ _ _ us hl => match us, hl with | [_, _], _ => rfl
  obtain ⟨fd__law_low, F__law_low⟩ := c.def_ 101 (d := d__law_low) rfl
  have g__law_low := He.glo_ok X G (c.fact 89 (f := .glo "_law_low") rfl)
  have D__law_low := def_of (x := "_law_low") (st := top 130) F__law_low g__law_low
  have b__law_low : Binds K fd__law_low ["_law_m", "_law_row_here", "_law_mouth", "_law_ear_here"] [] := F__law_low.bindsN fun _ _ _ _ _ _ us hl => match us, hl with | [_, _, _, _], _ => rfl
  obtain ⟨fd__law_counts, F__law_counts⟩ := c.def_ 102 (d := d__law_counts) rfl
  have g__law_counts := He.glo_ok X G (c.fact 90 (f := .glo "_law_counts") rfl)
  have D__law_counts := def_of (x := "_law_counts") (st := top 131) F__law_counts g__law_counts
  have b__law_counts : Binds K fd__law_counts ["_law_m"] [] := F__law_counts.bindsN fun _ _ _ _ _ _ us hl => match us, hl with | [_], _ => rfl
  obtain ⟨fd__law_own, F__law_own⟩ := c.def_ 103 (d := d__law_own) rfl
  have g__law_own := He.glo_ok X G (c.fact 91 (f := .glo "_law_own") rfl)
  have D__law_own := def_of (x := "_law_own") (st := top 132) F__law_own g__law_own
  have b__law_own : Binds K fd__law_own ["_law_kind_here", "_law_word"] [] := F__law_own.bindsN fun _ _ _ _ _ _ us hl => match us, hl with | [_, _], _ => rfl
  obtain ⟨fd__law_step, F__law_step⟩ := c.def_ 104 (d := d__law_step) rfl
  have g__law_step := He.glo_ok X G (c.fact 92 (f := .glo "_law_step") rfl)
  have D__law_step := def_of (x := "_law_step") (st := top 133) F__law_step g__law_step
  have b__law_step : Binds K fd__law_step ["_law_m", "_law_kind_here", "_law_way", "_law_mouth"] [] := F__law_step.bindsN fun _ _ _ _ _ _ us hl => match us, hl with | [_, _, _, _], _ => rfl
  obtain ⟨fd__law_goes, F__law_goes⟩ := c.def_ 105 (d := d__law_goes) rfl
  have g__law_goes := He.glo_ok X G (c.fact 93 (f := .glo "_law_goes") rfl)
  have D__law_goes := def_of (x := "_law_goes") (st := top 134) F__law_goes g__law_goes
  have b__law_goes : Binds K fd__law_goes ["_law_m", "_law_kind_here", "_law_way", "_law_mouth", "_law_many"] [] := F__law_goes.bindsN fun _ _ _ _ _ _ us hl => match us, hl with | [_, _, _, _, _], _ => rfl
  obtain ⟨fd_law, F_law⟩ := c.def_ 106 (d := d_law) rfl
  have g_law := He.glo_ok X G (c.fact 94 (f := .glo "law") rfl)
  have D_law := def_of (x := "law") (st := top 135) F_law g_law
  have b_law : Binds K fd_law ["_law_script"] [] := F_law.bindsN fun _ _ _ _ _ _ us hl => match us, hl with | [_], _ => rfl
  have T : Txt K mg := ⟨He.free_ok X G (c.fact 189 (f := .free "all") rfl), He.free_ok X G (c.fact 190 (f := .free "any") rfl), He.free_ok X G (c.fact 191 (f := .free "bool") rfl), He.free_ok X G (c.fact 192 (f := .free "enumerate") rfl), He.free_ok X G (c.fact 193 (f := .free "int") rfl), He.free_ok X G (c.fact 194 (f := .free "isinstance") rfl), He.free_ok X G (c.fact 195 (f := .free "len") rfl), He.free_ok X G (c.fact 196 (f := .free "list") rfl), He.free_ok X G (c.fact 197 (f := .free "range") rfl), He.free_ok X G (c.fact 198 (f := .free "str") rfl), He.free_ok X G (c.fact 199 (f := .free "tuple") rfl), He.free_ok X G (c.fact 200 (f := .free "zip") rfl)⟩
  have e := hlaw.symm.trans g_law
  cases e
  have b := FunD.bindsA (ps := ["_law_script"]) F_law fun _ _ _ _ _ _ us hl => match us, hl with | [_], _ => rfl
  refine ⟨fd_law, fun s v => b s [v] rfl, fun base _ _ => ?_⟩
  have L : LimG K w mg := ⟨_, _, v_LIMITS, limAt_of q_LIMITS [("put", [3, 999], valAt "LIMITS" "put" K), ("add", [3, 3, 3], valAt "LIMITS" "add" K), ("less", [3, 3, 3], valAt "LIMITS" "less" K), ("load", [3, 3], valAt "LIMITS" "load" K), ("store", [3, 3], valAt "LIMITS" "store" K), ("zero", [3, 999], valAt "LIMITS" "zero" K), ("go", [999], valAt "LIMITS" "go" K), ("call", [999], valAt "LIMITS" "call" K), ("say", [3], valAt "LIMITS" "say" K), ("hear", [3], valAt "LIMITS" "hear" K), ("which", [3], valAt "LIMITS" "which" K), ("room", [3], valAt "LIMITS" "room" K), ("enter", [1], valAt "LIMITS" "enter" K), ("alarm", [3], valAt "LIMITS" "alarm" K), ("stop", [], valAt "LIMITS" "stop" K)] rfl rfl (List.forall_mem_cons.mpr ⟨t_LIMITS_put, List.forall_mem_cons.mpr ⟨t_LIMITS_add, List.forall_mem_cons.mpr ⟨t_LIMITS_less, List.forall_mem_cons.mpr ⟨t_LIMITS_load, List.forall_mem_cons.mpr ⟨t_LIMITS_store, List.forall_mem_cons.mpr ⟨t_LIMITS_zero, List.forall_mem_cons.mpr ⟨t_LIMITS_go, List.forall_mem_cons.mpr ⟨t_LIMITS_call, List.forall_mem_cons.mpr ⟨t_LIMITS_say, List.forall_mem_cons.mpr ⟨t_LIMITS_hear, List.forall_mem_cons.mpr ⟨t_LIMITS_which, List.forall_mem_cons.mpr ⟨t_LIMITS_room, List.forall_mem_cons.mpr ⟨t_LIMITS_enter, List.forall_mem_cons.mpr ⟨t_LIMITS_alarm, List.forall_mem_cons.mpr ⟨t_LIMITS_stop, fun _ m => nomatch m⟩⟩⟩⟩⟩⟩⟩⟩⟩⟩⟩⟩⟩⟩⟩)⟩
  have td_OWN : TupGD K mg "OWN" (ownW.map V.str) := ⟨He.ga K "OWN", ⟨_, He.glo_ok X G (c.fact 97 (f := .glo "OWN") rfl), rfl⟩, He.tupB_ok (x := "OWN") (vs := [.str "say", .str "hear", .str "which", .str "room", .str "enter", .str "alarm", .str "stop"]) (ex_at 0 ce rfl), noDict_ok (ex_at 35 ce rfl)⟩
  let Z : Zs K := ⟨He.ga K "Body", He.ga K "Room", He.ga K "Ground", z_Body, z_Room, z_Ground⟩
  have cu := z_Guest
  have ch := z_Host
  have c__law_drawn := ok__law_drawn (P := P) (w := w) (base := base) D__law_drawn b__law_drawn T
  have c__law_start := ok__law_start (P := P) (w := w) (base := base) D__law_start b__law_start T
  have c_check_kind := ok_check_kind (P := P) (w := w) (base := base) D_check_kind b_check_kind T t_OWN
  have c_check_way := ok_check_way (P := P) (w := w) (base := base) D_check_way b_check_way T v_PLAIN v_THROUGH
  have c__law_same := ok__law_same (P := P) (w := w) (base := base) D__law_same b__law_same T 2
  have c_lacking := ok_lacking (P := P) (w := w) (base := base) D_lacking b_lacking T v_PLAIN t_OWN t_NEEDED_BY_PLAIN t_NEEDED_BY_THROUGH
  have c_holds := ok_holds (P := P) (w := w) (base := base) D_holds b_holds T c_check_kind c_check_way c_lacking
  have c_own_row := ok_own_row (P := P) (w := w) (base := base) D_own_row b_own_row T
  have c_unlike := ok_unlike (P := P) (w := w) (base := base) D_unlike b_unlike T v_PLAIN v_MANY_CELLS t_WAY_IN_HIGH t_WAY_INTO_LOW t_WAY_IN_HIGH_0 t_WAY_INTO_LOW_0 t_WAY_INTO_LOW_1 t_WAY_INTO_LOW_2 c_holds c_own_row c_lacking
  have c_is_number := ok_is_number (P := P) (w := w) (base := base) D_is_number b_is_number T
  have c_is_row := ok_is_row (P := P) (w := w) (base := base) D_is_row b_is_row T L c_is_number
  have c_is_thing := ok_is_thing (P := P) (w := w) (base := base) D_is_thing b_is_thing T v_LAST_NUMBER c_is_number c_is_row
  have c_check_cells := ok_check_cells (P := P) (w := w) (base := base) D_check_cells b_check_cells T v_MOST_CELLS v_FEWEST_CELLS c_is_thing
  have m_Room_start := ok_Room_start (P := P) (w := w) (base := base) (Z := Z) e_Room_start U_Room_start b_Room_start T 5
  have m_Room_thing_at := ok_Room_thing_at (P := P) (w := w) (base := base) (Z := Z) e_Room_thing_at U_Room_thing_at b_Room_thing_at T m_Room_start
  have m_Room_all_things := ok_Room_all_things (P := P) (w := w) (base := base) (Z := Z) e_Room_all_things U_Room_all_things b_Room_all_things T m_Room_start
  have m_Room_put_things := ok_Room_put_things (P := P) (w := w) (base := base) (Z := Z) e_Room_put_things U_Room_put_things b_Room_put_things T m_Room_start
  have c_worth := ok_worth (P := P) (w := w) (base := base) D_worth b_worth T
  have c_box_worth := ok_box_worth (P := P) (w := w) (base := base) (Z := Z) D_box_worth b_box_worth T c_worth
  have c_is_beyond := ok_is_beyond (P := P) (w := w) (base := base) (Z := Z) D_is_beyond b_is_beyond T
  have c_cell_of := ok_cell_of (P := P) (w := w) (base := base) (Z := Z) D_cell_of b_cell_of T
  have c_row_at_place := ok_row_at_place (P := P) (w := w) (base := base) (Z := Z) D_row_at_place b_row_at_place T c_cell_of m_Room_thing_at
  have c_reaches_beyond := ok_reaches_beyond (P := P) (w := w) (base := base) (Z := Z) D_reaches_beyond b_reaches_beyond T c_is_beyond c_box_worth
  have c_caught_in_low := ok_caught_in_low (P := P) (w := w) (base := base) D_caught_in_low b_caught_in_low T td_OWN v_CALL v_OWN_ROW v_NOTHING
  have c_caught_at_place := ok_caught_at_place (P := P) (w := w) (base := base) (Z := Z) D_caught_at_place b_caught_at_place T v_BEYOND v_NO_ROW v_NOTHING c_is_beyond c_row_at_place c_reaches_beyond c_caught_in_low
  have c_make_high := ok_make_high (P := P) (w := w) (base := base) (Z := Z) D_make_high b_make_high T c_worth m_Room_put_things m_Room_thing_at
  have c_catch := ok_catch (P := P) (w := w) (base := base) (Z := Z) D_catch b_catch T v_CALL v_WHYS q_WHYS c_row_at_place c_make_high
  have c_do_put := ok_do_put (P := P) (w := w) (base := base) (Z := Z) D_do_put b_do_put T
  have c_do_add := ok_do_add (P := P) (w := w) (base := base) (Z := Z) D_do_add b_do_add T c_box_worth
  have c_do_less := ok_do_less (P := P) (w := w) (base := base) (Z := Z) D_do_less b_do_less T c_box_worth
  have c_do_load := ok_do_load (P := P) (w := w) (base := base) (Z := Z) D_do_load b_do_load T c_box_worth c_cell_of m_Room_thing_at
  have c_do_store := ok_do_store (P := P) (w := w) (base := base) (Z := Z) D_do_store b_do_store T c_box_worth c_cell_of m_Room_put_things
  have c_do_zero := ok_do_zero (P := P) (w := w) (base := base) (Z := Z) D_do_zero b_do_zero T c_box_worth
  have c_do_go := ok_do_go (P := P) (w := w) (base := base) (Z := Z) D_do_go b_do_go T
  have c_do_which_in_high := ok_do_which_in_high (P := P) (w := w) (base := base) (Z := Z) D_do_which_in_high b_do_which_in_high T
  have c_do_which_in_low := ok_do_which_in_low (P := P) (w := w) (base := base) (Z := Z) D_do_which_in_low b_do_which_in_low T
  have c_do_hear_nothing := ok_do_hear_nothing (P := P) (w := w) (base := base) (Z := Z) D_do_hear_nothing b_do_hear_nothing T
  have c_do_room := ok_do_room (P := P) (w := w) (base := base) (Z := Z) D_do_room b_do_room T
  have c_do_alarm := ok_do_alarm (P := P) (w := w) (base := base) (Z := Z) D_do_alarm b_do_alarm T c_box_worth
  have c_do_stop := ok_do_stop (P := P) (w := w) (base := base) (Z := Z) D_do_stop b_do_stop T
  have c_do_say := ok_do_say (P := P) (w := w) (base := base) (Z := Z) D_do_say b_do_say T c_box_worth
  have c_do_say_to_ground := ok_do_say_to_ground (P := P) (w := w) (base := base) (Z := Z) D_do_say_to_ground b_do_say_to_ground T c_box_worth
  have c_do_hear := ok_do_hear (P := P) (w := w) (base := base) (Z := Z) D_do_hear b_do_hear T
  have c_do_enter := ok_do_enter (P := P) (w := w) (base := base) (Z := Z) D_do_enter b_do_enter T c_box_worth
  have c_lessen_alarm := ok_lessen_alarm (P := P) (w := w) (base := base) (Z := Z) D_lessen_alarm b_lessen_alarm T v_ALARM c_catch
  have fr_do_nothing := ok_do_nothing (P := P) (w := w) (base := base) (Z := Z) F_do_nothing T
  have c_is_done_by_ground := ok_is_done_by_ground (P := P) (w := w) (base := base) (Z := Z) D_is_done_by_ground b_is_done_by_ground T v_OWN_ROW c_caught_in_low
  have c_own_action := ok_own_action (P := P) (w := w) (base := base) (Z := Z) D_own_action b_own_action T tab_OWN_BY_GROUND tab_OWN_IN_LOW tab_OWN_IN_HIGH c_is_done_by_ground
  have hact : ∀ n sp, ActP Z n sp → FnR P w K mg base C8.CX0 10 (He.ga K n) sp ∧ PySem.W.keepIn K (.ref (He.ga K n)) = true := by
    have up : ∀ {k : Nat} {x : Str} {sp : Sp} (c : Cal P w K mg base k x sp []) (g : mg x = some (.ref (He.ga K x))) (hk : k ≤ 10), FnR P w K mg base C8.CX0 10 (He.ga K x) sp ∧ PySem.W.keepIn K (.ref (He.ga K x)) = true := fun c g hk => ⟨(cal_fnr c g).1.mono hk, (cal_fnr c g).2⟩
    intro n sp h
    cases h with
    | put => exact up c_do_put g_do_put (by decide)
    | add => exact up c_do_add g_do_add (by decide)
    | less => exact up c_do_less g_do_less (by decide)
    | load => exact up c_do_load g_do_load (by decide)
    | store => exact up c_do_store g_do_store (by decide)
    | zero => exact up c_do_zero g_do_zero (by decide)
    | go => exact up c_do_go g_do_go (by decide)
    | nothing => exact ⟨fr_do_nothing.mono (by decide), F_do_nothing.kp⟩
    | say => exact up c_do_say g_do_say (by decide)
    | hear => exact up c_do_hear g_do_hear (by decide)
    | whichH => exact up c_do_which_in_high g_do_which_in_high (by decide)
    | whichL => exact up c_do_which_in_low g_do_which_in_low (by decide)
    | room => exact up c_do_room g_do_room (by decide)
    | enter => exact up c_do_enter g_do_enter (by decide)
    | alarm => exact up c_do_alarm g_do_alarm (by decide)
    | stop => exact up c_do_stop g_do_stop (by decide)
    | sayG => exact up c_do_say_to_ground g_do_say_to_ground (by decide)
    | hearN => exact up c_do_hear_nothing g_do_hear_nothing (by decide)
  have c_act := ok_act (P := P) (w := w) (base := base) (Z := Z) D_act b_act T tab_ACTIONS hact c_own_action
  have c_do_row := ok_do_row (P := P) (w := w) (base := base) (Z := Z) D_do_row b_do_row T c_act c_lessen_alarm
  have c_do_step := ok_do_step (P := P) (w := w) (base := base) (Z := Z) D_do_step b_do_step T v_NOTHING c_caught_at_place c_row_at_place c_do_row c_catch
  have c_let_go := ok_let_go (P := P) (w := w) (base := base) (Z := Z) D_let_go b_let_go T c_do_step
  have c_check_ear := ok_check_ear (P := P) (w := w) (base := base) D_check_ear b_check_ear T v_LONGEST_EAR v_LAST_NUMBER c_is_number
  have c_check_count := ok_check_count (P := P) (w := w) (base := base) D_check_count b_check_count T c_is_number
  have c_check_steps := ok_check_steps (P := P) (w := w) (base := base) D_check_steps b_check_steps T v_MOST_STEPS c_check_count
  have c_check_cells2 := ok_check_cells2 (P := P) (w := w) (base := base) D_check_cells b_check_cells T v_MOST_CELLS v_FEWEST_CELLS c_is_thing
  have c_check_cells := c_check_cells2
  have c_check_ear2 := ok_check_ear2 (P := P) (w := w) (base := base) D_check_ear b_check_ear T v_LONGEST_EAR v_LAST_NUMBER c_is_number
  have c_check_ear := c_check_ear2
  have m_Room := ok_Room_init (P := P) (w := w) (base := base) (Z := Z) M_Room g_Room U_Room_init b_Room_init T
  have c_room_alone := ok_room_alone (P := P) (w := w) (base := base) (Z := Z) D_room_alone b_room_alone T m_Room
  have m_Body := ok_Body_init (P := P) (w := w) (base := base) (Z := Z) M_Body g_Body U_Body_init b_Body_init T
  have c_bundled := ok_bundled (P := P) (w := w) (base := base) (Z := Z) D_bundled b_bundled T m_Room_all_things
  have m_Machine := ok_Machine_init (P := P) (w := w) (base := base) (Z := Z) (CM := He.ga K "Machine") z_Machine M_Machine g_Machine U_Machine_init b_Machine_init T c_check_kind c_check_cells c_check_ear c_room_alone m_Body
  have m_Machine_go := ok_Machine_go (P := P) (w := w) (base := base) (Z := Z) (CM := He.ga K "Machine") z_Machine e_Machine_go U_Machine_go b_Machine_go T c_check_steps c_let_go
  have m_Machine_said := ok_Machine_said (P := P) (w := w) (base := base) (Z := Z) (CM := He.ga K "Machine") z_Machine e_Machine_said U_Machine_said b_Machine_said T
  have m_Machine_carried := ok_Machine_carried (P := P) (w := w) (base := base) (Z := Z) (CM := He.ga K "Machine") z_Machine e_Machine_carried U_Machine_carried b_Machine_carried T c_bundled
  have c__law_worth := ok__law_worth (P := P) (w := w) (base := base) D__law_worth b__law_worth T
  have c__law_caught := ok__law_caught (P := P) (w := w) (base := base) D__law_caught b__law_caught T c__law_worth
  have c__law_plain := ok__law_plain (P := P) (w := w) (base := base) D__law_plain b__law_plain T c__law_worth c__law_caught
  have c__law_high := ok__law_high (P := P) (w := w) (base := base) D__law_high b__law_high T c__law_worth
  have c__law_counts := ok__law_counts (P := P) (w := w) (base := base) D__law_counts b__law_counts T c__law_caught
  have c__law_own := ok__law_own (P := P) (w := w) (base := base) D__law_own b__law_own T
  have c__law_low := ok__law_low (P := P) (w := w) (base := base) D__law_low b__law_low T c__law_worth
  have c__law_step := ok__law_step (P := P) (w := w) (base := base) D__law_step b__law_step T c__law_caught c__law_plain c__law_high c__law_low c__law_counts c__law_own
  have c__law_goes := ok__law_goes (P := P) (w := w) (base := base) D__law_goes b__law_goes T c__law_step
  have c__law_bundle := ok__law_bundle (P := P) (w := w) (base := base) D__law_bundle b__law_bundle T
  have c__law_machine := ok__law_machine (P := P) (w := w) (base := base) D__law_machine b__law_machine T
  have c_is_free := ok_is_free (P := P) (w := w) (base := base) (Z := Z) D_is_free b_is_free T
  have m_Room_put2 := ok_Room_put2 (P := P) (w := w) (base := base) (Z := Z) e_Room_put_things U_Room_put_things b_Room_put_things T m_Room_start
  have c_first_free := ok_first_free (P := P) (w := w) (base := base) (Z := Z) D_first_free b_first_free T c_is_free
  have c_take_room := ok_take_room (P := P) (w := w) (base := base) (Z := Z) D_take_room b_take_room T c_first_free m_Room m_Room_put2
  have m_Guest := ok_Guest_init (P := P) (w := w) (base := base) cu M_Guest g_Guest U_Guest_init b_Guest_init T
  have c_room_alone2 := ok_room_alone2 (P := P) (w := w) (base := base) (Z := Z) D_room_alone b_room_alone T m_Room
  have m_Ground := ok_Ground_init (P := P) (w := w) (base := base) (Z := Z) M_Ground g_Ground U_Ground_init b_Ground_init T v_FEWEST_CELLS_ground v_MOST_CELLS_ground c_check_kind c_check_count c_room_alone2
  have m_Host := ok_Host_init (P := P) (w := w) (base := base) ch M_Host g_Host U_Host_init b_Host_init T c_check_way
  have m_Host_any_guest := ok_Host_any_guest (P := P) (w := w) (base := base) ch e_Host_any_guest U_Host_any_guest b_Host_any_guest T c_is_number
  have m_Host_idle_guest := ok_Host_idle_guest (P := P) (w := w) (base := base) cu ch e_Host_idle_guest U_Host_idle_guest b_Host_idle_guest T m_Host_any_guest
  have m_Host_go := ok_Host_go (P := P) (w := w) (base := base) (Z := Z) cu ch e_Host_go U_Host_go b_Host_go T c_check_steps c_let_go m_Host_idle_guest
  have m_Host_carried := ok_Host_carried (P := P) (w := w) (base := base) (Z := Z) cu ch e_Host_carried U_Host_carried b_Host_carried T c_bundled m_Host_idle_guest
  have m_Host_bring := ok_Host_bring (P := P) (w := w) (base := base) (Z := Z) cu ch e_Host_bring U_Host_bring b_Host_bring T v_MOST_GUESTS v_THROUGH c_take_room m_Body m_Guest
  have c_check_share := ok_check_share (P := P) (w := w) (base := base) D_check_share b_check_share T v_MOST_SHARE c_is_number
  have m_Host_come := ok_Host_come (P := P) (w := w) (base := base) (Z := Z) ch e_Host_come U_Host_come b_Host_come T c_check_cells c_check_ear c_check_share m_Host_bring
  have c__law_number := ok__law_number (P := P) (w := w) (base := base) D__law_number b__law_number T c__law_drawn
  have c__law_row := ok__law_row (P := P) (w := w) (base := base) D__law_row b__law_row T c__law_drawn c__law_number
  have c__law_any := ok__law_any (P := P) (w := w) (base := base) D__law_any b__law_any T c__law_drawn c__law_number c__law_row
  have c__law_ear := ok__law_ear (P := P) (w := w) (base := base) D__law_ear b__law_ear T c__law_drawn c__law_number
  have c__law_kind := ok__law_kind (P := P) (w := w) (base := base) D__law_kind b__law_kind T c__law_drawn
  exact ok_law (P := P) (w := w) (base := base) D_law T c__law_start c__law_drawn c__law_kind c_unlike c__law_machine c__law_bundle c__law_goes m_Ground m_Host m_Host_come m_Host_go m_Host_carried m_Machine m_Machine_go m_Machine_carried
end G
open PySem PySem.W PySem.Calls PyProof.Rows
set_option maxHeartbeats 0 in
theorem PySem.Challenge.cw_guestworlds_k13_whole_the_unlike_guest_holds : PySem.Challenge.rw_guestworlds_k13_whole_the_unlike_guest.Holds := by
  w_on; o_law
  refine HandSHeadRun.head_any (r := OpenLaw.row PySem.Challenge.rw_guestworlds_k13_whole_the_unlike_guest) (q := view (OpenLaw.row PySem.Challenge.rw_guestworlds_k13_whole_the_unlike_guest).prog [135]) (H := G.hk) (ob := G.ob) (M := 8000) (loose := G.loose) (d := HandSHeadRun.topDef (OpenLaw.row PySem.Challenge.rw_guestworlds_k13_whole_the_unlike_guest).prog 135) (kwd := []) G.ob_eq
    (by kernel_rfl) (fun s => by kernel_rfl) G.run (by kernel_rfl) (by kernel_rfl) (by kernel_rfl) (by rfl) (by first | assumption | decide +kernel) (by decide +kernel) ⟨rfl, rfl, rfl, rfl, rfl, by decide +kernel⟩ ?hw ?hc
  case hw => w_witness2
  case hc =>
    refine L2.walk_ofE (l := PySem.Challenge.rw_guestworlds_k13_whole_the_unlike_guest) (n := 63) (k := 40) (x := "_law_script") (CX := C8.CX0) rfl (by decide) (by kernel_rfl) ⟨rfl, by decide, by decide⟩ ?F (fun _ _ _ _ z => z)
    intro w mg fa h Y N hmg0
    obtain ⟨K, KX, c⟩ := Y
    have hmg : mg ("law" : PySem.Str) = some (.ref fa) := by
      have e : (HandSHeadRun.topDef (OpenLaw.row PySem.Challenge.rw_guestworlds_k13_whole_the_unlike_guest).prog 135).name = ("law" : PySem.Str) := by kernel_rfl
      rw [← e]
      exact hmg0
    obtain ⟨fd, hb, hF⟩ := G.facts (P := (PySem.Challenge.rw_guestworlds_k13_whole_the_unlike_guest).prog) (w := w) KX N hmg c
    refine ⟨K, fd, G.spLaw K, KX, hb, fun H a ns hl hO hS => ⟨a, ns, rfl, ?_, hl, fun _ => rfl⟩, hF⟩
    rcases hS with (h1 | ⟨o, h1⟩) | h1
    · rcases hO a with h2 | ⟨o, ys, h2⟩
      · rw [h1] at h2; cases h2
      · rw [h1] at h2; cases h2
    · exact .inl ⟨o, h1⟩
    · exact .inr fun _ => .inr h1
end
