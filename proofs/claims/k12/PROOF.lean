import PyProof.Rows.All
import Wide.All
import OpenK.AllK
import Wide.FinOn
import HandS.ForMost
import HandS.Codes
import HandS.Star
import HandS.IsInst
import HandS.TupMul
import HandS.TupAny
import HandS.NoneIn
import HandS.Conv
import HandS.Flow
import HandS.Style
import HandS.Deep
import HandS.Steps
import KE.KStateDown
import HandS.More
import HandS.Defaults
import HandS.Head0
import HandS.Head1
import HandS.Head2
import HandS.HeadEnd
import HandS.HeadHook1
import HandS.HeadHook2
import HandS.HeadHook3
import HandS.Zip
import HandS.Walk
import PySem.Challenge.RW_guestworlds_k12_which_kinds_hold
set_option linter.all false
set_option Elab.async false
set_option maxRecDepth 100000
set_option maxHeartbeats 3000000
/-! ### steps: a reading goes on by one word -/
namespace Y
open PySem L2 C8
section
variable {σ : L2.St} {H : Hp} {Q : VK} {v x y : V} {i j : Int} {n k : Nat} {ta tb tc te tv : TE} {t u : TT} {A : TA} {s1 s2 : TS} {D : Ends} {r : R2}
theorem s_var (h : σ[n]? = some (some v)) (q : Q v H) : tVar n σ H Q := ⟨v, h, q⟩
theorem s_c (q : Q v H) : tC v σ H Q := q
theorem s_op (q : ta σ H fun x H1 => tb σ H1 fun y H2 => r x y H2 Q) : tOp r ta tb σ H Q := q
theorem s_un {r : V → Hp → VK → Prop} (q : ta σ H fun x H1 => r x H1 Q) : tUn r ta σ H Q := q
theorem s_rI0 {g : Int → Int → V} (q : Q (g i j) H) : rI0 g (.int i) (.int j) H Q := ⟨i, j, rfl, rfl, q⟩
theorem s_rI {C : Int → Int → Prop} {g : Int → Int → V} (c : C i j) (q : Q (g i j) H) : rI C g (.int i) (.int j) H Q := ⟨i, j, rfl, rfl, c, q⟩
theorem s_rU {g : Int → V} (q : Q (g i) H) : rU g (.int i) H Q := ⟨i, rfl, q⟩
theorem s_eq (h : scal x y = true) (q : Q (.bl (decide (x = y))) H) : rEq x y H Q := ⟨h, q⟩
theorem s_ne (h : scal x y = true) (q : Q (.bl (!decide (x = y))) H) : rNe x y H Q := ⟨h, q⟩
theorem s_eqI (q : Q (.bl (decide (i = j))) H) : rEq (.int i) (.int j) H Q := ⟨rfl, by
  have e : decide (V.int i = V.int j) = decide (i = j) := by
    by_cases h : i = j
    · subst h; simp
    · rw [decide_eq_false h, decide_eq_false (fun z => h (V.int.inj z))]
  rw [e]; exact q⟩
theorem s_neI (q : Q (.bl (!decide (i = j))) H) : rNe (.int i) (.int j) H Q := ⟨rfl, by
  have e : decide (V.int i = V.int j) = decide (i = j) := by
    by_cases h : i = j
    · subst h; simp
    · rw [decide_eq_false h, decide_eq_false (fun z => h (V.int.inj z))]
  rw [e]; exact q⟩
theorem s_eqS {a b : Str} (q : Q (.bl (decide (a = b))) H) : rEq (.str a) (.str b) H Q := ⟨rfl, by
  have e : decide (V.str a = V.str b) = decide (a = b) := by
    by_cases h : a = b
    · subst h; simp
    · rw [decide_eq_false h, decide_eq_false (fun z => h (V.str.inj z))]
  rw [e]; exact q⟩
theorem s_neS {a b : Str} (q : Q (.bl (!decide (a = b))) H) : rNe (.str a) (.str b) H Q := ⟨rfl, by
  have e : decide (V.str a = V.str b) = decide (a = b) := by
    by_cases h : a = b
    · subst h; simp
    · rw [decide_eq_false h, decide_eq_false (fun z => h (V.str.inj z))]
  rw [e]; exact q⟩
theorem s_test {Q : Bool → Hp → Prop} (q : te σ H fun x H' => ∃ k, x = .bl k ∧ Q k H') : tTest te σ H Q := q
theorem s_tB {Q : Bool → Hp → Prop} (q : te σ H fun x H' => ∃ k, x = .bl k ∧ Q k H') : tB te σ H Q := q
theorem s_bl {b : Bool} {Q : Bool → Prop} (q : Q b) : ∃ k, V.bl b = V.bl k ∧ Q k := ⟨b, rfl, q⟩
theorem s_and {Q : Bool → Hp → Prop} (q : t σ H fun c H1 => if c = true then u σ H1 Q else Q false H1) : tAnd t u σ H Q := q
theorem s_or {Q : Bool → Hp → Prop} (q : t σ H fun c H1 => if c = true then Q true H1 else u σ H1 Q) : tOr t u σ H Q := q
theorem s_not {Q : Bool → Hp → Prop} (q : t σ H fun c H1 => Q (!c) H1) : tNot t σ H Q := q
theorem s_if (q : t σ H fun c H1 => if c = true then ta σ H1 Q else tb σ H1 Q) : tIf t ta tb σ H Q := q
theorem s_andV (q : ta σ H fun x H1 => ∃ c, x = .bl c ∧ if c = true then tb σ H1 Q else Q (.bl false) H1) : tAndV ta tb σ H Q := q
theorem s_orV (q : ta σ H fun x H1 => ∃ c, x = .bl c ∧ if c = true then Q (.bl true) H1 else tb σ H1 Q) : tOrV ta tb σ H Q := q
theorem s_notV (q : ta σ H fun x H1 => ∃ c, x = .bl c ∧ Q (.bl (!c)) H1) : tNotV ta σ H Q := q
theorem s_nil {Q : List V → Hp → Prop} (q : Q [] H) : tNil σ H Q := q
theorem s_cons {Q : List V → Hp → Prop} (q : ta σ H fun x H1 => A σ H1 fun xs H2 => Q (x :: xs) H2) : tCons ta A σ H Q := q
theorem s_cb {r : List V → Hp → VK → Prop} (q : A σ H fun vs H1 => r vs H1 Q) : tCB r A σ H Q := q
theorem s_call {sp : Sp} {dvs : List V} {E : XK} (q : A σ H fun vs H1 => sp (vs ++ dvs) H1 Q E) : tCall sp dvs E A σ H Q := q
theorem s_tup (q : A σ H fun xs H1 => xs.length ≤ sizeLine ∧ ∀ p, H1 p = none → Q (.ref p) (upd H1 p (.tup xs))) : tTup A σ H Q := q
theorem s_lst (q : A σ H fun xs H1 => xs.length ≤ sizeLine ∧ ∀ p, H1 p = none → Q (.ref p) (upd H1 p (.lst xs))) : tLst A σ H Q := q
theorem s_seq (q : s1 { D with nx := s2 D } σ H) : tSeq s1 s2 D σ H := q
theorem s_asg {g : TG} (q : te σ H fun x H1 => g x σ H1 D.nx) : tAsg te g D σ H := q
theorem s_gName {Q : L2.St → Hp → Prop} (q : Q (σ.set n (some v)) H) : gName n v σ H Q := q
theorem s_gSub {Q : L2.St → Hp → Prop} {ts : TSet} (q : ta σ H fun o H1 => tb σ H1 fun i H2 => ts o i v H2 fun H3 => Q σ H3) : gSub ta tb ts v σ H Q := q
theorem s_drop (q : te σ H fun _ H1 => D.nx σ H1) : tDrop te D σ H := q
theorem s_ret (q : te σ H D.rt) : tRet te D σ H := q
theorem s_retN (q : D.rt .non H) : tRetN D σ H := q
theorem s_ifS (q : t σ H fun b H1 => if b = true then s1 D σ H1 else s2 D σ H1) : tIfS t s1 s2 D σ H := q
theorem s_next (q : D.nx σ H) : tNext D σ H := q
theorem s_nx {n : L2.St → Hp → Prop} {r : VK} {b c : L2.St → Hp → Prop} (q : n σ H) : Ends.nx { nx := n, rt := r, bk := b, ct := c } σ H := q
theorem s_rt {n : L2.St → Hp → Prop} {r : VK} {b c : L2.St → Hp → Prop} (q : r v H) : Ends.rt { nx := n, rt := r, bk := b, ct := c } v H := q
theorem s_nxq (q : D.nx σ H) : D.nx σ H := q
theorem s_rtq (q : D.rt v H) : D.rt v H := q
theorem s_T {a b : Prop} (q : a) : if true = true then a else b := by rw [if_pos rfl]; exact q
theorem s_F {a b : Prop} (q : b) : if false = true then a else b := by rw [if_neg Bool.false_ne_true]; exact q
theorem s_NT {a b : Prop} (q : b) : if (!true) = true then a else b := s_F q
theorem s_NF {a b : Prop} (q : a) : if (!false) = true then a else b := s_T q
theorem s_dT {p a b : Prop} [Decidable p] (h : p) (q : a) : if decide p = true then a else b := by rw [decide_eq_true h]; exact s_T q
theorem s_dF {p a b : Prop} [Decidable p] (h : ¬ p) (q : b) : if decide p = true then a else b := by rw [decide_eq_false h]; exact s_F q
theorem s_dNT {p a b : Prop} [Decidable p] (h : p) (q : b) : if (!decide p) = true then a else b := by rw [decide_eq_true h]; exact s_F q
theorem s_dNF {p a b : Prop} [Decidable p] (h : ¬ p) (q : a) : if (!decide p) = true then a else b := by rw [decide_eq_false h]; exact s_T q
theorem s_d2 {p a b : Prop} [Decidable p] (h1 : p → a) (h2 : ¬ p → b) : if decide p = true then a else b := by
  by_cases h : p
  · exact s_dT h (h1 h)
  · exact s_dF h (h2 h)
theorem s_dN2 {p a b : Prop} [Decidable p] (h1 : p → b) (h2 : ¬ p → a) : if (!decide p) = true then a else b := by
  by_cases h : p
  · exact s_dNT h (h1 h)
  · exact s_dNF h (h2 h)
/-- an item of a list, a tuple -/
theorem s_ixL {K : PySem.W.Frag} {p : Addr} {xs : List V} {w : V} (h : SqL K H p xs) (e : atI xs i = some w) (q : Q w H) : rIx K (.ref p) (.int i) H Q := .inl ⟨p, xs, i, w, rfl, rfl, h, e, q⟩
theorem s_ixT {K : PySem.W.Frag} {p : Addr} {xs : List V} {w : V} (h : SqT K H p xs) (e : atI xs i = some w) (q : Q w H) : rIx K (.ref p) (.int i) H Q := .inr (.inl ⟨p, xs, i, w, rfl, rfl, h, e, q⟩)
theorem s_ixL' {K : PySem.W.Frag} {p : Addr} {xs : List V} {w : V} (h : SqL K H p xs) (e : atI xs i = some w) (q : Q w H) : rIxL K (.ref p) (.int i) H Q := ⟨p, xs, i, w, rfl, rfl, h, e, q⟩
theorem s_ixT' {K : PySem.W.Frag} {p : Addr} {xs : List V} {w : V} (h : SqT K H p xs) (e : atI xs i = some w) (q : Q w H) : rIxT K (.ref p) (.int i) H Q := ⟨p, xs, i, w, rfl, rfl, h, e, q⟩
theorem s_setL {p : Addr} {xs : List V} {Q : Hp → Prop} (h : H p = some (.lst xs)) (e : ixN xs.length i = some k) (q : Q (upd H p (.lst (xs.set k v)))) : rSetL (.ref p) (.int i) v H Q := ⟨p, xs, i, k, rfl, rfl, h, e, q⟩
/-! named readings -/
def rLen (K : PySem.W.Frag) : List V → Hp → VK → Prop := fun xs H Q => ∃ p ys, xs = [V.ref p] ∧ (SqL K H p ys ∨ SqT K H p ys) ∧ Q (.int ys.length) H
theorem cl_len {X : Cx} : CallR X (.builtin "len") (rLen X.K) := call_len_seq
def rListOf (K : PySem.W.Frag) : List V → Hp → VK → Prop := fun xs H Q => ∃ p ys, xs = [V.ref p] ∧ (SqL K H p ys ∨ SqT K H p ys) ∧ ∀ l, H l = none → Q (.ref l) (upd H l (.lst ys))
theorem cl_list {X : Cx} : CallR X (.type "list") (rListOf X.K) := call_list_of
def rTupleOf (K : PySem.W.Frag) : List V → Hp → VK → Prop := fun xs H Q => ∃ p ys, xs = [V.ref p] ∧ ((SqL K H p ys ∧ ∀ l, H l = none → Q (.ref l) (upd H l (.tup ys))) ∨ (SqT K H p ys ∧ Q (.ref p) H))
theorem cl_tuple {X : Cx} : CallR X (.type "tuple") (rTupleOf X.K) := call_tuple_of
def rInt1 : List V → Hp → VK → Prop := fun xs H Q => (∃ i, xs = [V.int i] ∧ Q (.int i) H) ∨ ∃ k, xs = [V.bl k] ∧ Q (.int (if k then 1 else 0)) H
theorem cl_int {X : Cx} : CallR X (.type "int") rInt1 := call_int1
theorem s_lenL {K : PySem.W.Frag} {p : Addr} {xs : List V} (h : SqL K H p xs) (q : Q (.int xs.length) H) : rLen K [.ref p] H Q := ⟨p, xs, rfl, .inl h, q⟩
theorem s_lenT {K : PySem.W.Frag} {p : Addr} {xs : List V} (h : SqT K H p xs) (q : Q (.int xs.length) H) : rLen K [.ref p] H Q := ⟨p, xs, rfl, .inr h, q⟩
theorem s_listL {K : PySem.W.Frag} {p : Addr} {xs : List V} (h : SqL K H p xs) (q : ∀ l, H l = none → Q (.ref l) (upd H l (.lst xs))) : rListOf K [.ref p] H Q := ⟨p, xs, rfl, .inl h, q⟩
theorem s_listT {K : PySem.W.Frag} {p : Addr} {xs : List V} (h : SqT K H p xs) (q : ∀ l, H l = none → Q (.ref l) (upd H l (.lst xs))) : rListOf K [.ref p] H Q := ⟨p, xs, rfl, .inr h, q⟩
theorem s_tupleL {K : PySem.W.Frag} {p : Addr} {xs : List V} (h : SqL K H p xs) (q : ∀ l, H l = none → Q (.ref l) (upd H l (.tup xs))) : rTupleOf K [.ref p] H Q := ⟨p, xs, rfl, .inl ⟨h, q⟩⟩
theorem s_tupleT {K : PySem.W.Frag} {p : Addr} {xs : List V} (h : SqT K H p xs) (q : Q (.ref p) H) : rTupleOf K [.ref p] H Q := ⟨p, xs, rfl, .inr ⟨h, q⟩⟩
theorem s_intI (q : Q (.int i) H) : rInt1 [.int i] H Q := .inl ⟨i, rfl, q⟩
theorem s_intB {b : Bool} (q : Q (.int (if b then 1 else 0)) H) : rInt1 [.bl b] H Q := .inr ⟨b, rfl, q⟩
theorem s_new {xs : List V} {R : Addr → Prop} (h : Nat.ble xs.length 1000 = true) (q : ∀ p, H p = none → R p) : xs.length ≤ sizeLine ∧ ∀ p, H p = none → R p :=
  ⟨Nat.le_trans (Nat.le_of_ble_eq_true h) (by decide), q⟩
end
end Y
namespace Y
open PySem L2 C8
theorem at_all {xs : List V} {P : V → Prop} {i : Int} (h : ∀ v ∈ xs, P v) (h0 : 0 ≤ i) (h1 : i < xs.length) : ∃ v, atI xs i = some v ∧ P v := by
  have e : xs[i.toNat]? = some xs[i.toNat] := List.getElem?_eq_getElem (by omega)
  exact ⟨_, at_of (by omega) e, h _ (List.getElem_mem _)⟩
end Y
namespace Y
open PySem L2 C8
section
variable {σ : L2.St} {H : Hp} {Q : VK} {v x y : V} {i j : Int} {n k : Nat} {ta tb tc te tv td ty tx : TE} {A : TA} {K : PySem.W.Frag} {p : Addr} {xs : List V}
theorem s_inT {b : Bool} (h : SqT K H p xs) (hx : flatV x = true) (hs : xs.all flatV = true) (hb : inV x xs = b) (q : Q (.bl b) H) : rIn K false x (.ref p) H Q := ⟨p, xs, rfl, .inr h, hx, hs, by rw [hb]; exact q⟩
theorem s_inL {b : Bool} (h : SqL K H p xs) (hx : flatV x = true) (hs : xs.all flatV = true) (hb : inV x xs = b) (q : Q (.bl b) H) : rIn K false x (.ref p) H Q := ⟨p, xs, rfl, .inl h, hx, hs, by rw [hb]; exact q⟩
theorem s_pnil {Q : List (V × V) → Hp → Prop} (q : Q [] H) : tPairs [] σ H Q := q
theorem s_pcons {Q : List (V × V) → Hp → Prop} {r : List (TE × TE)} (q : ta σ H fun x H1 => tb σ H1 fun y H2 => tPairs r σ H2 fun ps H3 => Q ((x, y) :: ps) H3) : tPairs ((ta, tb) :: r) σ H Q := q
def DRest (Q : VK) (p : Addr) : List (V × V) → Hp → Prop := fun ps H2 => H2 p = some (.dK []) ∧ ∃ kvs : List (Key × V), ps = kvs.map (fun kv => (kV kv.1, kv.2)) ∧ kvs.length ≤ 15 ∧ Q (.ref p) (upd H2 p (.dK (mergeK [] kvs)))
theorem s_disp {trs : List (TE × TE)} (q : ∀ p, H p = none → tPairs trs σ (upd H p (.dK [])) (DRest Q p)) : tDisp trs σ H Q := q
theorem merge_nd : ∀ (kvs acc : List (Key × V)), (kvs.map (·.1)).Nodup → (∀ kv ∈ kvs, valV acc kv.1 = none) → mergeK acc kvs = acc ++ kvs
  | [], acc, _, _ => by show acc = acc ++ []; rw [List.append_nil]
  | kv :: r, acc, nd, h => by
    have n1 := List.nodup_cons.mp (show (kv.1 :: r.map (·.1)).Nodup from nd)
    show mergeK (putK acc kv.1 kv.2) r = _
    rw [putK_new _ (h kv (List.mem_cons_self ..)), merge_nd r _ n1.2 (fun z hz => ?_)]
    · rw [List.append_assoc]; rfl
    · rw [valV_snoc _ _ _ _ (h kv (List.mem_cons_self ..)), if_neg (fun e => n1.1 (by rw [← show z.1 = kv.1 from e]; exact List.mem_map_of_mem hz))]
      exact h z (List.mem_cons_of_mem _ hz)
/-- the end of a written dict: its keys are ks, all texts -/
theorem s_dend {ps : List (V × V)} {p : Addr} (ks : List Str) (vs : List V) (e : H p = some (.dK [])) (hp : ps = (ks.zip vs).map fun kv => (V.str kv.1, kv.2)) (nd : decide ks.Nodup = true) (hl : Nat.ble vs.length 15 = true)
    (q : Q (.ref p) (upd H p (.dK ((ks.zip vs).map fun kv => ((Sum.inr kv.1 : Key), kv.2))))) : DRest Q p ps H := by
  refine ⟨e, (ks.zip vs).map fun kv => ((Sum.inr kv.1 : Key), kv.2), ?_, ?_, ?_⟩
  · rw [hp, List.map_map]; rfl
  · rw [List.length_map, List.length_zip]
    have := Nat.le_of_ble_eq_true hl
    omega
  · rw [merge_nd _ [] ?_ (fun _ _ => rfl), List.nil_append]
    · exact q
    · have h1 := of_decide_eq_true nd
      rw [List.map_map]
      have e1 : ((fun kv : Key × V => kv.1) ∘ fun kv : Str × V => ((Sum.inr kv.1 : Key), kv.2)) = fun kv => Sum.inr kv.1 := rfl
      rw [e1]
      have h2 : ∀ (ks : List Str) (vs : List V), ks.Nodup → ((ks.zip vs).map fun kv => (Sum.inr kv.1 : Key)).Nodup := by
        intro ks
        induction ks with
        | nil => intro vs _; exact List.nodup_nil
        | cons a r ih =>
          intro vs h
          cases vs with
          | nil => exact List.nodup_nil
          | cons b t =>
            have h' := List.nodup_cons.mp h
            refine List.nodup_cons.mpr ⟨fun m => ?_, ih t h'.2⟩
            obtain ⟨z, hz, e⟩ := List.mem_map.mp m
            exact h'.1 (by rw [← show z.1 = a from Sum.inr.inj e]; exact (List.of_mem_zip hz).1)
      exact h2 ks vs h1
theorem s_dget2 (q : td σ H fun x H1 => ∃ a, x = .ref a ∧ IsD H1 a ∧ ty σ H1 fun y H2 => tx σ H2 fun z H3 => ∃ o, DGet H3 a y o ∧ Q (o.getD z) H3) : tDGet2 td ty tx σ H Q := q
theorem s_isD {p : Addr} {kvs : List (Key × V)} {R : Addr → Prop} (h : H p = some (.dK kvs)) (q : R p) : ∃ a, V.ref p = .ref a ∧ IsD H a ∧ R a := ⟨p, rfl, .inl ⟨kvs, .inl h⟩, q⟩
theorem s_dgS {p : Addr} {kvs : List (Key × V)} {R : Option V → Prop} {z : Str} {o : Option V} (h : H p = some (.dK kvs)) (e : valV kvs (Sum.inr z) = o) (q : R o) : ∃ o, DGet H p (.str z) o ∧ R o := ⟨o, by rw [← e]; exact DGet.k (k := Sum.inr z) h, q⟩
def DgR (Q : VK) : V → V → Hp → Prop := fun x y H2 => ∃ a v, x = .ref a ∧ DGet H2 a y (some v) ∧ Q v H2
theorem s_dgetq (q : td σ H fun x H1 => ty σ H1 fun y H2 => DgR Q x y H2) : tDGet td ty σ H Q := q
theorem s_dgetS {p : Addr} {kvs : List (Key × V)} {z : Str} {w : V} (h : H p = some (.dK kvs)) (e : valV kvs (Sum.inr z) = some w) (q : Q w H) : DgR Q (.ref p) (.str z) H := ⟨p, w, rfl, by rw [← e]; exact DGet.k (k := Sum.inr z) h, q⟩
theorem s_modP {a b : Int} (h : 0 < b) (q : Q (.int (a % b)) H) : rI (fun _ j => 0 < j) (fun i j => .int (i % j)) (.int a) (.int b) H Q := ⟨a, b, rfl, rfl, h, q⟩
theorem s_fdv {a b : Int} (h : b ≠ 0 ∧ b.natAbs < 1073741824) (q : Q (.int (a.fdiv b)) H) : rI CDivN (fun i j => .int (i.fdiv j)) (.int a) (.int b) H Q := ⟨a, b, rfl, rfl, h, q⟩
theorem s_cat {p1 p2 : Addr} {xs ys : List V} (h1 : H p1 = some (.lst xs)) (h2 : H p2 = some (.lst ys)) (hl : xs.length + ys.length ≤ sizeLine) (q : ∀ p, H p = none → Q (.ref p) (upd H p (.lst (xs ++ ys)))) : rCat (.ref p1) (.ref p2) H Q := ⟨p1, p2, xs, ys, rfl, rfl, h1, h2, hl, q⟩
end
end Y
namespace Y
open PySem L2 C8
section
variable {σ : L2.St} {H : Hp} {Q : VK} {v x y : V} {n k : Nat} {ta te : TE} {tt : TT} {A : TA} {K : PySem.W.Frag}
theorem s_yes {Q : Bool → Hp → Prop} (q : Q true H) : tYes σ H Q := q
/-- what a comprehension has made so far stands at D -/
def LcP (D : Addr) (Inv : Nat → List V → Hp → Prop) (i : Nat) (H : Hp) : Prop := ∃ acc, H D = some (.lst acc) ∧ acc.length ≤ i ∧ Inv i acc H
theorem s_lcE {D : Addr} {Inv : Nat → List V → Hp → Prop} {i : Nat} {acc : List V} (h : H D = some (.lst acc)) (hl : acc.length ≤ i) (hi : (i : Int) < 100000) (inv : Inv (i + 1) (acc ++ [y]) (upd H D (.lst (acc ++ [y])))) :
    ∃ acc, H D = some (.lst acc) ∧ acc.length < sizeLine ∧ LcP D Inv (i + 1) (upd H D (.lst (acc ++ [y]))) :=
  ⟨acc, h, Nat.lt_of_lt_of_le (show acc.length < 100001 by omega) (by decide), acc ++ [y], upd_same, by rw [List.length_append, List.length_singleton]; omega, inv⟩
theorem s_lcN {D : Addr} {Inv : Nat → List V → Hp → Prop} {i : Nat} {acc : List V} (h : H D = some (.lst acc)) (hl : acc.length ≤ i) (inv : Inv (i + 1) acc H) : LcP D Inv (i + 1) H := ⟨acc, h, Nat.le_succ_of_le hl, inv⟩
/-- a comprehension behind its walk's making -/
def LcRest (g : TG) (tt : TT) (te : TE) (vs : List Nat) (σ : L2.St) (Q : VK) : It → Hp → Prop := fun J H1 => ∀ D, H1 D = none → ∃ W : Nat → Nat → Hp → Prop, (∃ m, W 0 m (upd H1 D (.lst []))) ∧ ∀ i m H, W i m H →
  (J.stop i H ∧ Q (.ref D) H) ∨ (J.go i H ∧ ∃ Nx : Hp → Prop, (∀ H', Nx H' → ∃ m', m' < m ∧ W (i + 1) m' H') ∧ ∀ x H', J.yld i H x H' → g x (wipe σ vs) H' fun σ2 H2 => wipe σ2 vs = wipe σ vs ∧ tt σ2 H2 fun b H3 =>
    if b = true then te σ2 H3 fun y H4 => ∃ acc, H4 D = some (.lst acc) ∧ acc.length < sizeLine ∧ Nx (upd H4 D (.lst (acc ++ [y]))) else Nx H3)
/-- a for behind its walk's making -/
def ForRest (g : TG) (tb : TS) (D : Ends) (σ : L2.St) : It → Hp → Prop := fun J H1 => ∃ W : Nat → Nat → L2.St → Hp → Prop, (∃ m, W 0 m σ H1) ∧ ∀ i m σ H, W i m σ H →
  (J.stop i H ∧ D.nx σ H) ∨ (J.go i H ∧ ∃ N : L2.St → Hp → Prop, (∀ σ' H', N σ' H' → ∃ m', m' < m ∧ W (i + 1) m' σ' H') ∧ ∀ x H', J.yld i H x H' → g x σ H' fun σ2 H2 => tb { D with nx := N, ct := N, bk := D.nx } σ2 H2)
def RngRest (R : It → Hp → Prop) : List V → Hp → Prop := fun vs H1 => ∃ j : Int, vs = [.int j] ∧ -(2 ^ 62) ≤ j ∧ j < 2 ^ 62 ∧ R (Itr 0 j.toNat) H1
def LstRest (K : PySem.W.Frag) (R : It → Hp → Prop) : V → Hp → Prop := fun x H1 => ∃ a, x = .ref a ∧ (∃ xs, SqL K H1 a xs) ∧ R (Itl K a) H1
def TupRest (K : PySem.W.Frag) (R : It → Hp → Prop) : V → Hp → Prop := fun x H1 => ∃ a, x = .ref a ∧ (∃ xs, SqT K H1 a xs) ∧ R (Itt K a) H1
theorem s_lc {wi : TI} {g : TG} {vs : List Nat} (q : wi σ H (LcRest g tt te vs σ Q)) : tLc wi g tt te vs σ H Q := q
theorem s_for {wi : TI} {g : TG} {tb : TS} {D : Ends} (q : wi σ H (ForRest g tb D σ)) : tFor wi g tb D σ H := q
theorem s_rng1 {R : It → Hp → Prop} (q : A σ H (RngRest R)) : iRng1 A σ H R := q
theorem s_itl {R : It → Hp → Prop} (q : ta σ H (LstRest K R)) : iList K ta σ H R := q
theorem s_itt {R : It → Hp → Prop} (q : ta σ H (TupRest K R)) : iTup K ta σ H R := q
/-- the rest of a comprehension over a range, its target one name -/
theorem s_lcR {n : Int} (h0 : 0 ≤ n) (h1 : n ≤ 100000) (h : ∀ D, H D = none → ∃ Inv : Nat → List V → Hp → Prop, Inv 0 [] (upd H D (.lst [])) ∧
      (∀ (i : Nat) acc H, (i : Int) < n → acc.length ≤ i → H D = some (.lst acc) → Inv i acc H → tt ((σ.set k none).set k (some (.int (0 + i)))) H fun b H3 =>
        if b = true then te ((σ.set k none).set k (some (.int (0 + i)))) H3 fun y H4 => ∃ acc, H4 D = some (.lst acc) ∧ acc.length < sizeLine ∧ LcP D Inv (i + 1) (upd H4 D (.lst (acc ++ [y]))) else LcP D Inv (i + 1) H3) ∧
      ∀ acc H, H D = some (.lst acc) → acc.length ≤ n.toNat → Inv n.toNat acc H → Q (.ref D) H) :
    RngRest (LcRest (gName k) tt te [k] σ Q) [V.int n] H := by
  refine ⟨n, rfl, by omega, by omega, fun D hD => ?_⟩
  obtain ⟨Inv, i0, ht, hd⟩ := h D hD
  refine lc_range (lo := 0) (n := n.toNat) (LcP D Inv) ⟨[], upd_same, Nat.zero_le _, i0⟩ (fun i H hi p => ?_) (fun H ⟨acc, ha, hl, hv⟩ => hd acc H ha hl hv)
  obtain ⟨acc, ha, hl, hv⟩ := p
  show (((σ.set k none).set k _).set k none) = σ.set k none ∧ _
  refine ⟨by rw [List.set_set, List.set_set], ht i acc H (by omega) hl ha hv⟩
/-- .. over a list -/
theorem s_lcL {a : Addr} {xs : List V} (ha : SqL K H a xs) (h : ∀ D, H D = none → ∃ Inv : Nat → List V → Hp → Prop, Inv 0 [] (upd H D (.lst [])) ∧ (∀ i acc H, H D = some (.lst acc) → Inv i acc H → SqL K H a xs) ∧
      (∀ (i : Nat) x acc H, xs[i]? = some x → acc.length ≤ i → H D = some (.lst acc) → Inv i acc H → tt ((σ.set k none).set k (some x)) H fun b H3 =>
        if b = true then te ((σ.set k none).set k (some x)) H3 fun y H4 => ∃ acc, H4 D = some (.lst acc) ∧ acc.length < sizeLine ∧ LcP D Inv (i + 1) (upd H4 D (.lst (acc ++ [y]))) else LcP D Inv (i + 1) H3) ∧
      ∀ acc H, H D = some (.lst acc) → acc.length ≤ xs.length → Inv xs.length acc H → Q (.ref D) H) :
    LstRest K (LcRest (gName k) tt te [k] σ Q) (V.ref a) H := by
  refine ⟨a, rfl, ⟨xs, ha⟩, fun D hD => ?_⟩
  obtain ⟨Inv, i0, hq, ht, hd⟩ := h D hD
  refine lc_list (K := K) (a := a) (xs := xs) (LcP D Inv) ⟨[], upd_same, Nat.zero_le _, i0⟩ (fun i H _ ⟨acc, ha, _, hv⟩ => hq i acc H ha hv) (fun i x H hi p => ?_) (fun H ⟨acc, ha, hl, hv⟩ => hd acc H ha hl hv)
  obtain ⟨acc, ha, hl, hv⟩ := p
  show (((σ.set k none).set k _).set k none) = σ.set k none ∧ _
  refine ⟨by rw [List.set_set, List.set_set], ht i x acc H hi hl ha hv⟩
/-- the rest of a for over a range -/
theorem s_forR {n : Int} {g : TG} {tb : TS} {D : Ends} (h0 : 0 ≤ n) (h1 : n ≤ 100000) (Pv : Nat → L2.St → Hp → Prop) (p0 : Pv 0 σ H)
    (hs : ∀ (i : Nat) σ H, (i : Int) < n → Pv i σ H → g (.int (0 + i)) σ H fun σ2 H2 => tb { D with nx := Pv (i + 1), ct := Pv (i + 1), bk := D.nx } σ2 H2) (hd : ∀ σ H, Pv n.toNat σ H → D.nx σ H) :
    RngRest (ForRest g tb D σ) [V.int n] H :=
  ⟨n, rfl, by omega, by omega, for_range (lo := 0) (n := n.toNat) Pv p0 (fun i σ H hi p => hs i σ H (by omega) p) hd⟩
/-- .. over a list -/
theorem s_forL {a : Addr} {xs : List V} {g : TG} {tb : TS} {D : Ends} (ha : SqL K H a xs) (Pv : Nat → L2.St → Hp → Prop) (p0 : Pv 0 σ H) (hl : ∀ i σ H, Pv i σ H → SqL K H a xs)
    (hs : ∀ i x σ H, xs[i]? = some x → Pv i σ H → g x σ H fun σ2 H2 => tb { D with nx := Pv (i + 1), ct := Pv (i + 1), bk := D.nx } σ2 H2) (hd : ∀ σ H, Pv xs.length σ H → D.nx σ H) :
    LstRest K (ForRest g tb D σ) (V.ref a) H :=
  ⟨a, rfl, ⟨xs, ha⟩, for_list (K := K) (a := a) (xs := xs) Pv p0 (fun i σ H _ p => hl i σ H p) hs hd⟩
end
end Y
namespace G
open PySem L2 C8
/-- all that was tracked but at a is as it was -/
def Fr (a : Addr) (H H' : Hp) : Prop := ∀ b o, b ≠ a → H b = some o → H' b = some o
theorem Fr.refl (a : Addr) (H : Hp) : Fr a H H := fun _ _ _ h => h
theorem Fr.trans {a : Addr} {H H1 H2 : Hp} (x : Fr a H H1) (y : Fr a H1 H2) : Fr a H H2 := fun b o n h => y b o n (x b o n h)
theorem Fr.upd {a : Addr} {H H1 : Hp} {o : HO} (x : Fr a H H1) : Fr a H (L2.upd H1 a o) := fun b u n h => by rw [upd_ne n]; exact x b u n h
theorem Fr.new {a p : Addr} {H H1 : Hp} {o : HO} (x : Fr a H H1) (hp : H1 p = none) : Fr a H (L2.upd H1 p o) := fun b u n h => by
  rw [upd_ne (ne_of_none (x b u n h) hp)]; exact x b u n h
theorem Fr.free {a p : Addr} {H H1 : Hp} (x : Fr a H H1) (hp : H1 p = none) (n : p ≠ a) : H p = none := by
  cases e : H p with
  | none => rfl
  | some u => rw [x p u n e] at hp; cases hp
/-- as Fr, and a stands -/
theorem sql_upd {K : PySem.W.Frag} {H : Hp} {a b : Addr} {o : HO} {xs : List V} (n : b ≠ a) (h : SqL K H b xs) : SqL K (upd H a o) b xs := by
  rcases h with (h | ⟨u, h⟩) | h
  · exact .inl (.inl (by rw [upd_ne n]; exact h))
  · exact .inl (.inr ⟨u, by rw [upd_ne n]; exact h⟩)
  · exact .inr h
theorem sqt_upd {K : PySem.W.Frag} {H : Hp} {a b : Addr} {o : HO} {xs : List V} (n : b ≠ a) (h : SqT K H b xs) : SqT K (upd H a o) b xs := by
  rcases h with (h | ⟨u, h⟩) | h
  · exact .inl (.inl (by rw [upd_ne n]; exact h))
  · exact .inl (.inr ⟨u, by rw [upd_ne n]; exact h⟩)
  · exact .inr h
theorem sql_fr {K : PySem.W.Frag} {H H' : Hp} {a b : Addr} {xs : List V} (f : Fr a H H') (n : b ≠ a) (h : SqL K H b xs) : SqL K H' b xs := by
  rcases h with (h | ⟨u, h⟩) | h
  · exact .inl (.inl (f _ _ n h))
  · exact .inl (.inr ⟨u, f _ _ n h⟩)
  · exact .inr h
/-! ### the draws -/
/-- a list that nobody may write: locked, or of the written part -/
def Lk (K : PySem.W.Frag) (H : Hp) (s : Addr) (xs : List V) : Prop := (∃ o, H s = some (.frz o (.lst xs))) ∨ ∀ H', SqL K H' s xs
theorem Lk.sq {K : PySem.W.Frag} {H : Hp} {s : Addr} {xs : List V} (h : Lk K H s xs) : SqL K H s xs := by
  rcases h with ⟨o, h⟩ | h
  · exact .inl (.inr ⟨o, h⟩)
  · exact h _
theorem Lk.fr {K : PySem.W.Frag} {H H' : Hp} {s a : Addr} {xs ys : List V} (h : Lk K H s xs) (f : Fr a H H') (e : H a = some (.lst ys)) : Lk K H' s xs := by
  rcases h with ⟨o, h⟩ | h
  · exact .inl ⟨o, f _ _ (ne_of h e (fun z => nomatch z)) h⟩
  · exact .inr h
theorem Lk.upd {K : PySem.W.Frag} {H : Hp} {s a : Addr} {xs ys : List V} {o : HO} (h : Lk K H s xs) (e : H a = some (.lst ys)) : Lk K (L2.upd H a o) s xs := h.fr (Fr.refl a H).upd e
theorem Lk.updD {K : PySem.W.Frag} {H : Hp} {s a : Addr} {xs : List V} {ys : List (Key × V)} {o : HO} (h : Lk K H s xs) (e : H a = some (.dK ys)) : Lk K (L2.upd H a o) s xs := by
  rcases h with ⟨u, h⟩ | h
  · exact .inl ⟨u, by rw [upd_ne (ne_of h e (fun z => nomatch z))]; exact h⟩
  · exact .inr h
theorem Lk.new {K : PySem.W.Frag} {H : Hp} {s a : Addr} {xs : List V} {o : HO} (h : Lk K H s xs) (e : H a = none) : Lk K (L2.upd H a o) s xs := by
  rcases h with ⟨u, h⟩ | h
  · exact .inl ⟨u, by rw [upd_ne (ne_of_none h e)]; exact h⟩
  · exact .inr h
/-- the state of the draws -/
def StAt (K : PySem.W.Frag) (H : Hp) (a : Addr) : Prop := ∃ (s : Addr) (ns : List Int) (i m r : Int), H a = some (.lst [.ref s, .int i, .int m, .int r]) ∧ Lk K H s (ns.map V.int) ∧ 0 ≤ i ∧ 0 ≤ m ∧ m < 2147483647
theorem StAt.lst {K : PySem.W.Frag} {H : Hp} {a : Addr} (h : StAt K H a) : ∃ xs, H a = some (.lst xs) := let ⟨_, _, _, _, _, e, _⟩ := h; ⟨_, e⟩
theorem StAt.spec {K : PySem.W.Frag} {H : Hp} {a : Addr} (h : StAt K H a) : H a = some (.lst (Classical.choose h.lst)) := Classical.choose_spec h.lst
theorem StAt.new {K : PySem.W.Frag} {H : Hp} {a p : Addr} {o : HO} (h : StAt K H a) (hp : H p = none) : StAt K (L2.upd H p o) a := by
  obtain ⟨s, ns, i, m, r, e, q, z⟩ := h
  exact ⟨s, ns, i, m, r, by rw [upd_ne (ne_of_none e hp)]; exact e, q.new hp, z⟩
theorem StAt.own {K : PySem.W.Frag} {H : Hp} {a p : Addr} {xs : List V} {o : HO} (h : StAt K H a) (hp : H p = some (.lst xs)) (n : a ≠ p) : StAt K (L2.upd H p o) a := by
  obtain ⟨s, ns, i, m, r, e, q, z⟩ := h
  exact ⟨s, ns, i, m, r, by rw [upd_ne n]; exact e, q.upd hp, z⟩
theorem StAt.dic {K : PySem.W.Frag} {H : Hp} {a p : Addr} {xs : List (Key × V)} {o : HO} (h : StAt K H a) (hp : H p = some (.dK xs)) : StAt K (L2.upd H p o) a := by
  obtain ⟨s, ns, i, m, r, e, q, z⟩ := h
  exact ⟨s, ns, i, m, r, by rw [upd_ne (ne_of e hp (fun z => nomatch z))]; exact e, q.updD hp, z⟩
theorem Fr.own {a p : Addr} {H H1 : Hp} {o : HO} (x : Fr a H H1) (n : H p = none) : Fr a H (L2.upd H1 p o) := fun b u nb h => by
  rw [upd_ne (ne_of_none h n)]; exact x b u nb h
theorem Fr.at {a b : Addr} {H H' : Hp} {o : HO} (f : Fr a H H') (n : b ≠ a) (h : H b = some o) : H' b = some o := f b o n h
/-- all tuples stay -/
def Tu (H H' : Hp) : Prop := ∀ p xs, H p = some (.tup xs) → H' p = some (.tup xs)
theorem Tu.refl (H : Hp) : Tu H H := fun _ _ h => h
theorem Tu.trans {H H1 H2 : Hp} (x : Tu H H1) (y : Tu H1 H2) : Tu H H2 := fun p xs h => y p xs (x p xs h)
theorem Tu.new {H H1 : Hp} {p : Addr} {o : HO} (x : Tu H H1) (n : H1 p = none) : Tu H (upd H1 p o) := fun q xs h => by
  have h1 := x q xs h
  rw [upd_ne (ne_of_none h1 n)]; exact h1
theorem Tu.lst {H H1 : Hp} {p : Addr} {o : HO} {xs : List V} (x : Tu H H1) (n : H1 p = some (.lst xs)) : Tu H (upd H1 p o) := fun q ys h => by
  have h1 := x q ys h
  rw [upd_ne (ne_of h1 n (fun z => nomatch z))]; exact h1
theorem Tu.dic {H H1 : Hp} {p : Addr} {o : HO} {xs : List (Key × V)} (x : Tu H H1) (n : H1 p = some (.dK xs)) : Tu H (upd H1 p o) := fun q ys h => by
  have h1 := x q ys h
  rw [upd_ne (ne_of h1 n (fun z => nomatch z))]; exact h1
theorem Tu.fr {a : Addr} {H H1 H2 : Hp} {xs : List V} (x : Tu H H1) (f : Fr a H1 H2) (n : H1 a = some (.lst xs)) : Tu H H2 := fun q ys h => by
  have h1 := x q ys h
  exact f _ _ (ne_of h1 n (fun z => nomatch z)) h1
end G
namespace Y
open PySem L2 C8
theorem at_str {ws : List Str} {i : Int} (h0 : 0 ≤ i) (h1 : i < ws.length) : ∃ w, atI (ws.map V.str) i = some (.str w) ∧ w ∈ ws := by
  have e : ws[i.toNat]? = some ws[i.toNat] := List.getElem?_eq_getElem (by omega)
  exact ⟨_, at_of (j := i.toNat) (by omega) (by rw [List.getElem?_map, e]; rfl), List.getElem_mem _⟩
end Y
namespace Y
open PySem L2 G
theorem ne1 {H : Hp} {a b : Addr} {o : HO} (n : H b = none) (h : H a = some o) : a ≠ b := ne_of_none h n
theorem ne2 {H : Hp} {a b : Addr} {o : HO} (n : H b = none) (h : H a = some o) : b ≠ a := (ne_of_none h n).symm
theorem hp_ne {H : Hp} {a b : Addr} {o u : HO} (n : b ≠ a) (h : H b = some u) : upd H a o b = some u := (upd_ne n).trans h
theorem st_new {K : PySem.W.Frag} {H : Hp} {a p : Addr} {o : HO} (hp : H p = none) (h : StAt K H a) : StAt K (L2.upd H p o) a := h.new hp
theorem st_own {K : PySem.W.Frag} {H : Hp} {a p : Addr} {xs : List V} {o : HO} (hp : H p = some (.lst xs)) (n : a ≠ p) (h : StAt K H a) : StAt K (L2.upd H p o) a := h.own hp n
theorem st_dic {K : PySem.W.Frag} {H : Hp} {a p : Addr} {xs : List (Key × V)} {o : HO} (hp : H p = some (.dK xs)) (h : StAt K H a) : StAt K (L2.upd H p o) a := h.dic hp
theorem fr_new {a p : Addr} {H H1 : Hp} {o : HO} (n : H1 p = none) (x : Fr a H H1) : Fr a H (L2.upd H1 p o) := x.new n
theorem fr_own {a p : Addr} {H H1 : Hp} {o : HO} (n : H p = none) (x : Fr a H H1) : Fr a H (L2.upd H1 p o) := x.own n
theorem fr_tr {a : Addr} {H H1 H2 : Hp} (y : Fr a H1 H2) (x : Fr a H H1) : Fr a H H2 := x.trans y
theorem tu_new {H H1 : Hp} {p : Addr} {o : HO} (n : H1 p = none) (x : Tu H H1) : Tu H (L2.upd H1 p o) := x.new n
theorem tu_lst {H H1 : Hp} {p : Addr} {o : HO} {xs : List V} (n : H1 p = some (.lst xs)) (x : Tu H H1) : Tu H (L2.upd H1 p o) := x.lst n
theorem tu_dic {H H1 : Hp} {p : Addr} {o : HO} {xs : List (Key × V)} (n : H1 p = some (.dK xs)) (x : Tu H H1) : Tu H (L2.upd H1 p o) := x.dic n
theorem tu_fr {K : PySem.W.Frag} {a : Addr} {H H1 H2 : Hp} (f : Fr a H1 H2) (s : StAt K H1 a) (x : Tu H H1) : Tu H H2 := x.fr f s.spec
theorem tu_tr {H H1 H2 : Hp} (y : Tu H1 H2) (x : Tu H H1) : Tu H H2 := x.trans y
end Y
namespace Y
open PySem L2 C8
section
variable {H : Hp} {Q : VK} {x : V} {K : PySem.W.Frag} {p : Addr} {S T : String}
/-! isinstance -/
theorem s_isi {b : Bool} (ty : TyX K H x (.type S)) (k : kitB S T = some b) (q : Q (.bl b) H) : rIsi K [x, .ty T] H Q := ⟨x, .ty T, .type S, .type T, b, rfl, .ty T, ty, kit_ty k, q⟩
theorem kit2 {T1 T2 : String} {b : Bool} (k : (match kitB S T1 with | some true => some true | some false => kitB S T2 | none => none) = some b) : PySem.W.kitAny K (.type S) [.type T1, .type T2] = some b := by
  have e1 : PySem.W.kitOne K (.type S) (.type T1) = kitB S T1 := rfl
  have e2 : PySem.W.kitOne K (.type S) (.type T2) = kitB S T2 := rfl
  unfold PySem.W.kitAny
  rw [e1]
  cases h1 : kitB S T1 with
  | none => rw [h1] at k; cases k
  | some c =>
    rw [h1] at k
    cases c with
    | true => exact k
    | false =>
      show PySem.W.kitAny K (.type S) [.type T2] = some b
      unfold PySem.W.kitAny
      rw [e2]
      have k' : kitB S T2 = some b := k
      rw [k']
      cases b <;> rfl
theorem s_isi2 {T1 T2 : String} {b : Bool} {cs : List V} (hT : H p = some (.tup cs)) (hc : cs = [.ty T1, .ty T2]) (ty : TyX K H x (.type S)) (k : (match kitB S T1 with | some true => some true | some false => kitB S T2 | none => none) = some b) (q : Q (.bl b) H) : rIsiT K [x, .ref p] H Q :=
  ⟨x, p, [.ty T1, .ty T2], .type S, [.type T1, .type T2], b, rfl, by rw [← hc]; exact hT, .cons (.ty _) (.cons (.ty _) .nil), ty, kit2 k, q⟩
theorem ty_i {i : Int} : TyX K H (.int i) (.type "int") := .base (.int i)
theorem ty_s {i : Str} : TyX K H (.str i) (.type "str") := .base (.str i)
theorem ty_b {i : Bool} : TyX K H (.bl i) (.type "bool") := .base (.bl i)
theorem ty_n : TyX K H .non (.type "NoneType") := .base .non
theorem ty_l {xs : List V} (e : H p = some (.lst xs)) : TyX K H (.ref p) (.type "list") := .base (.lst e)
theorem ty_t {xs : List V} (e : H p = some (.tup xs)) : TyX K H (.ref p) (.type "tuple") := .base (.tup e)
end
end Y
namespace Y
open PySem L2 C8
/-- a built-in class as a value -/
theorem pe_bty {X : Cx} {x : Str} {pos : Pos} {T : String} (hg : Gl X x) (hm : X.mg x = none) (hv : bootBuiltins x = some (.type T)) (hn : x ≠ "__name__" := by decide) (hd : (x == ("__debug__" : Str)) = false := by decide) : PE X (.Name x pos) (tC (.ty T)) :=
  pe_bltn (v := .ty T) hg hm hv rfl (hn := hn) (hd := hd)
end Y
namespace Y
open PySem L2 C8
section
variable {σ : L2.St} {H : Hp} {Q : VK} {x y : V} {K : PySem.W.Frag} {p p1 p2 : Addr}
theorem s_isNn (q : Q (.bl true) H) : rIsN .non .non H Q := ⟨rfl, q⟩
theorem s_isNF (h : x ≠ .non) (q : Q (.bl false) H) : rIsN x .non H Q := ⟨rfl, by rw [decide_eq_false h]; exact q⟩
theorem s_notNn (q : Q (.bl false) H) : rNotN .non .non H Q := ⟨rfl, q⟩
theorem s_notNF (h : x ≠ .non) (q : Q (.bl true) H) : rNotN x .non H Q := ⟨rfl, by rw [decide_eq_false h]; exact q⟩
theorem nn_ref : V.ref p ≠ .non := fun z => nomatch z
theorem nn_int {i : Int} : V.int i ≠ .non := fun z => nomatch z
theorem nn_str {i : Str} : V.str i ≠ .non := fun z => nomatch z
theorem nn_bl {i : Bool} : V.bl i ≠ .non := fun z => nomatch z
/-- [] == [] -/
theorem s_eqNil (h1 : SqL K H p1 []) (h2 : SqL K H p2 []) (q : Q (.bl true) H) : rEqD K (.ref p1) (.ref p2) H Q :=
  ⟨.list [], .list [], .lst h1 .nil, .lst h2 .nil, by decide +kernel, by decide +kernel, q⟩
theorem same_new {H H1 : Hp} {o : HO} (n : H1 p = none) (x : Same H H1) : Same H (upd H1 p o) := fun b u e => by
  have h1 := x b u e
  rw [upd_ne (ne_of_none h1 n)]; exact h1
theorem same_own {H H1 : Hp} {o : HO} (n : H p = none) (x : Same H H1) : Same H (upd H1 p o) := fun b u e => by
  rw [upd_ne (ne_of_none e n)]; exact x b u e
theorem same_tr {H H1 H2 : Hp} (y : Same H1 H2) (x : Same H H1) : Same H H2 := fun b u e => y b u (x b u e)
theorem same_hp {H H1 : Hp} {a : Addr} {o : HO} (y : Same H H1) (h : H a = some o) : H1 a = some o := y _ _ h
end
end Y
namespace Y
open PySem PySem.Spec PyProof.Rows L2 C8
/-- e(..), e an expression that gives one of the defs of S, which make one promise -/
def tCallF (S : Addr → Prop) (sp : Sp) (tf : TE) (t : TA) : TE := fun σ H Q => tf σ H fun y H1 => ∃ f, y = .ref f ∧ S f ∧ t σ H1 fun vs H2 => sp vs H2 Q C8.E0
theorem pe_cf {X : Cx} {S : Addr → Prop} {sp : Sp} {k j : Nat} {fe e : Expr} {es : List Expr} {pos : Pos} {tf : TE} {t : TA} (A : ∀ f, S f → CalAt X.prog X.w X.K X.mg X.base k f sp) (hr : Room j X.A) (hk : k ≤ j) (hf : PE X fe tf) (ha : PA X (e :: es) t)
    (ht : eval (.Call fe (e :: es) [] pos) X.env = (do callWith pos (← eval fe X.env) [] (backTo pos (starEach (e :: es) X.env)) (backToKw pos (keywordEach [] X.env))) := by rfl)
    (he : starEach (e :: es) X.env = (false, eval e X.env) :: starEach es X.env := by rfl) (hpl : (backTo pos (starEach es X.env)).any (·.1) = false := by rfl) : PE X (.Call fe (e :: es) [] pos) (tCallF S sp tf t) := by
  refine ⟨fun pins s σ H Q I h => ?_⟩
  refine Call_ (thn (hf.run pins s σ H _ I h) fun u s1 ⟨y, H1, I1, ry, f, ey, hSf, q⟩ => ?_) ht
  subst ey
  obtain rfl : u = Value.ref f := ry
  obtain ⟨fd, ps, F, kp, b⟩ := (A f hSf).ex
  refine PySem.W.callWith_K (h₀ := X.base) I1.ok.mod.kin kp (thn (ha.run pos pins s1 σ _ _ I1 q) fun us s2 ⟨vs, H2, I2, r, q2⟩ => ⟨I2.kIn, ?_⟩) he hpl
  exact run_fn F (hr.mono hk) b .nil C8.pass0 I2 r (by rw [List.append_nil]; exact q2)
theorem s_cf {S : Addr → Prop} {sp : Sp} {tf : TE} {t : TA} {σ : L2.St} {H : Hp} {Q : VK} (q : tf σ H fun y H1 => ∃ f, y = .ref f ∧ S f ∧ t σ H1 fun vs H2 => sp vs H2 Q C8.E0) : tCallF S sp tf t σ H Q := q
theorem calAt_of {P : Program} {w : World} {K : PySem.W.Frag} {mg : Str → Option Value} {base : Heap} {k : Nat} {x : Str} {sp : Sp} {f : Addr} (c : Cal P w K mg base k x sp []) (g : mg x = some (.ref f)) : CalAt P w K mg base k f sp := by
  obtain ⟨f', fd, ps, ds, F, hm, kp, b, d⟩ := c.ex
  rw [g] at hm
  cases hm
  cases d
  exact ⟨fd, ps, F, kp, b⟩
theorem s_repT {K : PySem.W.Frag} {H : Hp} {Q : VK} {p : Addr} {xs : List V} {k : Int} (h : SqT K H p xs) (h0 : xs ≠ []) (h1 : 2 ≤ k) (h2 : k ≤ 1000) (h3 : xs.length ≤ 1000) (q : ∀ p, H p = none → Q (.ref p) (upd H p (.tup (List.replicate k.toNat xs).flatten))) : rRepT K (.ref p) (.int k) H Q := ⟨p, k, xs, rfl, rfl, h, h0, h1, h2, h3, q⟩
end Y
namespace Y
open PySem L2
/-- at a statement's begin: only this is kept of the heap -/
theorem fgt {R : Hp → Prop} {H : Hp} (Φ : Hp → Prop) (h : Φ H) (q : ∀ H', Φ H' → R H') : R H := q H h
end Y
local macro_rules
  | `(tactic| walk_at "len") => `(tactic| first
    | exact Nat.le_trans (m := 1000) (Nat.le_of_ble_eq_true rfl) (by decide)
    | (simp only [List.length_append, List.length_cons, List.length_nil, List.length_map, List.length_take, List.length_drop, List.length_replicate]; exact Nat.le_trans (m := 100000) (by omega) (by decide)))
local macro_rules
  | `(tactic| walk_at "as") => `(tactic| with_reducible assumption)
local macro_rules
  | `(tactic| walk_at "ne") => `(tactic| first
    | walk_at "as"
    | ((with_reducible apply Ne.symm); walk_at "as")
    | ((with_reducible apply Y.ne1); (focus walk_at "as"); (focus walk_at "hp"))
    | ((with_reducible apply Y.ne2); (focus walk_at "as"); (focus walk_at "hp")))
local macro_rules
  | `(tactic| walk_at "hp") => `(tactic| first
    | walk_at "as"
    | with_reducible exact L2.upd_same
    | ((with_reducible apply Y.hp_ne); (focus walk_at "ne"); (focus walk_at "hp"))
    | ((with_reducible apply G.StAt.spec); (focus walk_at "as"))
    | ((with_reducible apply Y.same_hp); (focus walk_at "as"); (focus walk_at "hp"))
    | ((with_reducible apply G.Fr.at); (focus walk_at "as"); (focus walk_at "ne"); (focus walk_at "hp")))
local macro_rules
  | `(tactic| walk_at "st") => `(tactic| first
    | walk_at "as"
    | ((with_reducible apply Y.st_new); (focus walk_at "as"); (focus walk_at "st"))
    | ((with_reducible apply Y.st_own); (focus walk_at "hp"); (focus walk_at "ne"); (focus walk_at "st"))
    | ((with_reducible apply Y.st_dic); (focus walk_at "hp"); (focus walk_at "st")))
local macro_rules
  | `(tactic| walk_at "fr") => `(tactic| first
    | walk_at "as"
    | with_reducible apply G.Fr.refl
    | ((with_reducible apply Y.fr_new); (focus walk_at "as"); (focus walk_at "fr"))
    | ((with_reducible apply Y.fr_own); (focus walk_at "as"); (focus walk_at "fr"))
    | ((with_reducible apply Y.fr_tr); (focus walk_at "as"); (focus walk_at "fr")))
local macro_rules
  | `(tactic| walk_at "sm") => `(tactic| first
    | walk_at "as"
    | with_reducible apply L2.Same.refl
    | ((with_reducible apply Y.same_new); (focus walk_at "as"); (focus walk_at "sm"))
    | ((with_reducible apply Y.same_own); (focus walk_at "as"); (focus walk_at "sm"))
    | ((with_reducible apply Y.same_tr); (focus walk_at "as"); (focus walk_at "sm")))
local macro_rules
  | `(tactic| walk_at "tu") => `(tactic| first
    | walk_at "as"
    | with_reducible apply G.Tu.refl
    | ((with_reducible apply Y.tu_new); (focus walk_at "as"); (focus walk_at "tu"))
    | ((with_reducible apply Y.tu_lst); (focus walk_at "hp"); (focus walk_at "tu"))
    | ((with_reducible apply Y.tu_dic); (focus walk_at "hp"); (focus walk_at "tu"))
    | ((with_reducible apply Y.tu_fr); (focus walk_at "as"); (focus walk_at "st"); (focus walk_at "tu"))
    | ((with_reducible apply Y.tu_tr); (focus walk_at "as"); (focus walk_at "tu")))
local macro_rules
  | `(tactic| walk_at "sq") => `(tactic| first
    | walk_at "as"
    | ((with_reducible apply L2.SqL.of); (focus walk_at "hp"))
    | ((with_reducible apply L2.SqT.of); (focus walk_at "hp")))
local macro_rules
  | `(tactic| walk_at "ty") => `(tactic| first
    | exact Y.ty_i
    | exact Y.ty_s
    | exact Y.ty_b
    | exact Y.ty_n
    | ((refine' Y.ty_l (xs := ?tyxs) ?tyh); (case' tyh => walk_at "hp"))
    | ((refine' Y.ty_t (xs := ?tyxt) ?tyt); (case' tyt => walk_at "hp")))
local macro_rules
  | `(tactic| walk_at "t1") => `(tactic| first
    | ((with_reducible refine' Y.s_var (v := ?v) ?h ?q); (case' h => rfl))
    | with_reducible refine Y.s_c ?_
    | with_reducible refine Y.s_cons ?_
    | with_reducible refine Y.s_nil ?_
    | with_reducible refine Y.s_op ?_
    | ((with_reducible refine Y.s_nxq ?_); (with_reducible refine Y.s_nx ?_))
    | with_reducible refine Y.s_asg ?_
    | with_reducible refine Y.s_gName ?_
    | with_reducible refine Y.s_test ?_
    | with_reducible refine Y.s_bl ?_
    | with_reducible refine Y.s_T ?_
    | with_reducible refine Y.s_F ?_
    | with_reducible refine Y.s_ifS ?_
    | with_reducible refine Y.s_rI0 ?_
    | with_reducible refine Y.s_cb ?_
    | with_reducible refine Y.s_call ?_
    | with_reducible refine Y.s_ret ?_
    | with_reducible refine Y.s_retN ?_
    | ((with_reducible refine Y.s_rtq ?_); (with_reducible refine Y.s_rt ?_))
    | ((with_reducible refine' Y.s_ixL (xs := ?xs) (w := ?w) ?h ?e ?q); (case' h => walk_at "sq"); (case' e => rfl))
    | ((with_reducible refine' Y.s_ixL' (xs := ?xs) (w := ?w) ?h ?e ?q); (case' h => walk_at "sq"); (case' e => rfl))
    | with_reducible refine Y.s_tup ?_
    | ((with_reducible refine' Y.s_tupleL (xs := ?xs) ?h ?q); (case' h => walk_at "sq"))
    | ((with_reducible refine' Y.s_tupleT (xs := ?xs) ?h ?q); (case' h => walk_at "sq"))
    | with_reducible refine Y.s_eqS ?_
    | with_reducible refine Y.s_eqI ?_
    | with_reducible refine Y.s_gSub ?_
    | with_reducible refine Y.s_drop ?_
    | with_reducible refine Y.s_next ?_
    | with_reducible refine Y.s_un ?_
    | with_reducible refine Y.s_rU ?_
    | with_reducible refine Y.s_neI ?_
    | with_reducible refine Y.s_neS ?_
    | with_reducible refine Y.s_tB ?_
    | with_reducible refine Y.s_and ?_
    | with_reducible refine Y.s_or ?_
    | with_reducible refine Y.s_not ?_
    | with_reducible refine Y.s_if ?_
    | with_reducible refine Y.s_andV ?_
    | with_reducible refine Y.s_orV ?_
    | with_reducible refine Y.s_notV ?_
    | with_reducible refine Y.s_cf ?_
    | with_reducible refine Y.s_lst ?_
    | with_reducible refine Y.s_NT ?_
    | with_reducible refine Y.s_NF ?_
    | ((with_reducible refine' Y.s_ixT (xs := ?xs) (w := ?w) ?h ?e ?q); (case' h => walk_at "sq"); (case' e => rfl))
    | ((with_reducible refine' Y.s_ixT' (xs := ?xs) (w := ?w) ?h ?e ?q); (case' h => walk_at "sq"); (case' e => rfl))
    | with_reducible refine Y.s_pnil ?_
    | with_reducible refine Y.s_yes ?_
    | with_reducible refine Y.s_lc ?_
    | with_reducible refine Y.s_for ?_
    | with_reducible refine Y.s_rng1 ?_
    | with_reducible refine Y.s_itl ?_
    | with_reducible refine Y.s_itt ?_
    | with_reducible refine Y.s_pcons ?_
    | with_reducible refine Y.s_disp ?_
    | with_reducible refine Y.s_dget2 ?_
    | with_reducible refine Y.s_dgetq ?_
    | ((with_reducible refine' Y.s_modP ?h ?q); (case' h => decide +kernel))
    | ((with_reducible refine' Y.s_fdv ?h ?q); (case' h => decide +kernel))
    | ((with_reducible refine' Y.s_dgetS (kvs := ?kvs) (w := ?w) ?h ?e ?q); (case' h => walk_at "hp"); (case' e => rfl))
    | ((with_reducible refine' Y.s_isD (kvs := ?kvs) ?h ?q); (case' h => walk_at "hp"))
    | ((with_reducible refine' Y.s_inT (xs := ?xs) (b := true) ?h ?a ?b ?e ?q); (case' h => walk_at "sq"); (case' a => rfl); (case' b => rfl); (case' e => decide +kernel))
    | ((with_reducible refine' Y.s_inT (xs := ?xs) (b := false) ?h ?a ?b ?e ?q); (case' h => walk_at "sq"); (case' a => rfl); (case' b => rfl); (case' e => decide +kernel))
    | ((with_reducible refine' Y.s_dT ?h ?q); (case' h => decide +kernel))
    | ((with_reducible refine' Y.s_dF ?h ?q); (case' h => decide +kernel))
    | ((with_reducible refine' Y.s_dNT ?h ?q); (case' h => decide +kernel))
    | ((with_reducible refine' Y.s_dNF ?h ?q); (case' h => decide +kernel))
    | ((with_reducible refine' Y.s_cat (xs := ?xs) (ys := ?ys) ?h1 ?h2 ?hl ?q); (case' h1 => walk_at "hp"); (case' h2 => walk_at "hp"); (case' hl => walk_at "len"))
    | ((with_reducible refine' Y.s_setL (xs := ?xs) (k := ?k) ?h ?e ?q); (case' h => walk_at "hp"); (case' e => rfl))
    | ((with_reducible refine' Y.s_isi (S := ?sS) (b := true) ?sty ?sk ?sq); (case' sty => walk_at "ty"); (case' sk => decide +kernel))
    | ((with_reducible refine' Y.s_isi2 (S := ?sS) (cs := ?scs) (T1 := ?sT1) (T2 := ?sT2) (b := true) ?shT ?shc ?sty ?sk ?sq); (case' shT => walk_at "hp"); (case' shc => rfl); (case' sty => walk_at "ty"); (case' sk => decide +kernel))
    | ((with_reducible refine' Y.s_isi (S := ?sS) (b := false) ?sty ?sk ?sq); (case' sty => walk_at "ty"); (case' sk => decide +kernel))
    | ((with_reducible refine' Y.s_isi2 (S := ?sS) (cs := ?scs) (T1 := ?sT1) (T2 := ?sT2) (b := false) ?shT ?shc ?sty ?sk ?sq); (case' shT => walk_at "hp"); (case' shc => rfl); (case' sty => walk_at "ty"); (case' sk => decide +kernel))
    | with_reducible refine Y.s_isNn ?_
    | with_reducible refine Y.s_isNF Y.nn_ref ?_
    | with_reducible refine Y.s_isNF Y.nn_int ?_
    | with_reducible refine Y.s_isNF Y.nn_str ?_
    | with_reducible refine Y.s_isNF Y.nn_bl ?_
    | with_reducible refine Y.s_notNn ?_
    | with_reducible refine Y.s_notNF Y.nn_ref ?_
    | with_reducible refine Y.s_notNF Y.nn_int ?_
    | with_reducible refine Y.s_notNF Y.nn_str ?_
    | with_reducible refine Y.s_notNF Y.nn_bl ?_
    | ((with_reducible refine' Y.s_ne ?snh ?snq); (case' snh => rfl))
    | ((with_reducible refine' Y.s_eq ?snh ?snq); (case' snh => rfl))
    | with_reducible refine Y.s_intI ?_
    | with_reducible refine Y.s_intB ?_
    | ((with_reducible refine' Y.s_lenL (xs := ?xs) ?h ?q); (case' h => walk_at "sq"))
    | ((with_reducible refine' Y.s_lenT (xs := ?xs) ?h ?q); (case' h => walk_at "sq"))
    | ((with_reducible refine' Y.s_listL (xs := ?xs) ?h ?q); (case' h => walk_at "sq"))
    | ((with_reducible refine' Y.s_listT (xs := ?xs) ?h ?q); (case' h => walk_at "sq")))
local macro_rules
  | `(tactic| walk_at "s1") => `(tactic| first | walk_at "t1" | with_reducible refine Y.s_seq ?_)
local macro_rules
  | `(tactic| walk_at "t") => `(tactic| repeat walk_at "t1")
local macro_rules
  | `(tactic| walk_at "s") => `(tactic| repeat walk_at "s1")
local macro_rules
  | `(tactic| walk_at "b") => `(tactic| (dsimp only [L2.cxOf, L2.Cx.nox, L2.start, List.map, List.length, List.replicate, List.cons_append, List.nil_append, Nat.add_sub_add_right, Nat.sub_zero, Nat.zero_add, Nat.reduceAdd, Nat.reduceSub]; walk_at "s"))
/-! ### the head's hook, with one more Bool of the part of the heap -/
namespace G
open PySem PySem.Spec L2
def itemAt (x : Str) (i : Nat) (K : PySem.W.Frag) : Addr := match K.lookup (He.ga K x) with
  | some ⟨_, _, .seq its _, _⟩ => (match its.toList[i]? with
    | some (.ref a) => a
    | _ => 0)
  | _ => 0
def exAll (ex : List (PySem.W.Frag → Bool)) (K : PySem.W.Frag) : Bool := ex.all fun e => e K
theorem ex_at {ex : List (PySem.W.Frag → Bool)} {K : PySem.W.Frag} (i : Nat) (h : exAll ex K = true) {e : PySem.W.Frag → Bool} (hi : ex[i]? = some e) : e K = true :=
  List.all_eq_true.mp h e (List.mem_of_getElem? hi)
abbrev AlE : Type := He.AlT × Bool
section
variable (n : Nat) (fa : List He.Fa) (fn : List He.DefD) (ts : List He.Tab) (ex : List (PySem.W.Frag → Bool))
structure SaysE (w : World) (K : PySem.W.Frag) : Prop where
  t : He.SaysT fa fn ts w K
  ex : exAll ex K = true
def obE (g : Addr → Option Obj) : AlE := (He.obsTG n fa fn ts g, exAll ex (He.frG g (He.asD g n)))
def hookE : PySem.W.Hook where
  α := AlE
  obs := fun s => obE n fa fn ts ex s.heap.get?
  val := fun w => (He.valT fn ts w, true)
  says := fun w h => ∃ K : PySem.W.Frag, K.In h ∧ SaysE fa fn ts ex w K
  of := fun _ _ e => ⟨_, He.frG_in, congrArg (fun z : AlE => z.1) e, congrArg (fun z : AlE => z.2) e⟩
  keeps := fun _ _ _ ⟨K, hK, c⟩ k => ⟨K, PySem.W.Frag.In.keeps hK k, c⟩
theorem obE_eq {g : Addr → Option Obj} {s : Shared} (h : ∀ a, g a = s.heap.get? a) : obE n fa fn ts ex g = (hookE n fa fn ts ex).obs s := by
  have e : g = s.heap.get? := funext h
  rw [e] <;> rfl
end
end G
namespace G
open PySem L2 C8
def top (i : Nat) : Stmt := PySem.Challenge.pw_guestworlds_k12_which_kinds_hold.main.body.getD i (.Pass ⟨0, 0, 0, 0⟩)
/-- what the top leaves of the built-ins -/
structure Txt (K : PySem.W.Frag) (mg : Str → Option Value) : Prop where
  n_all : mg "all" = none
  n_bool : mg "bool" = none
  n_int : mg "int" = none
  n_isinstance : mg "isinstance" = none
  n_len : mg "len" = none
  n_list : mg "list" = none
  n_range : mg "range" = none
  n_str : mg "str" = none
  n_tuple : mg "tuple" = none
  n_zip : mg "zip" = none
def spDrawn (K : PySem.W.Frag) : Sp := fun vs H Q _ => ∃ (a : Addr) (k : Int), vs = [.ref a, .int k] ∧ StAt K H a ∧ 0 < k ∧ k < 1000000 ∧ ∀ (x : Int) (H' : Hp), 0 ≤ x → x < k → Fr a H H' → StAt K H' a → Q (.int x) H'
theorem u_drawn {K : PySem.W.Frag} {H : Hp} {Q : VK} {E : XK} {a : Addr} {k : Int} (h : StAt K H a) (h0 : 0 < k) (h1 : k < 1000000) (q : ∀ (x : Int) (H' : Hp), 0 ≤ x → x < k → Fr a H H' → StAt K H' a → Q (.int x) H') : spDrawn K ([.ref a, .int k] ++ []) H Q E :=
  ⟨a, k, rfl, h, h0, h1, q⟩
section
variable {P : Program} {w : World} {K : PySem.W.Frag} {mg : Str → Option Value} {base : Heap}
abbrev s__law_drawn : Stmt := top 22
theorem sc__law_drawn : FnScope ["_law_state", "_law_many", "_law_found", "_law_cell"] ["_law_state", "_law_many"] (fnScope s__law_drawn) := fnScope_by (by decide +kernel)
theorem ok__law_drawn {f : Addr} {fd : FuncData} (F : Def K mg "_law_drawn" s__law_drawn f fd) (b : Binds K fd ["_law_state", "_law_many"] []) (T : Txt K mg) : Cal P w K mg base 1 "_law_drawn" (spDrawn K) [] := by
  refine cal0 F b .nil sc__law_drawn (fun vs H Q E h => ?_) (fun cdv A outer s H vs Q E hr h => ?_)
  · obtain ⟨a, k, rfl, _⟩ := h
    rfl
  · obtain ⟨a, k, rfl, ⟨s, ns, i, m, r, hA, hs, h0, h1, h2⟩, hk, hk2, q⟩ := h
    have nd := sc__law_drawn.nd
    refine ⟨_, (pss_cons (ps_if (pt_cmpR op_gt (pe_ix ix_seq (pv 0) pe_int (fun _ _ => rfl)) pe_int (nomark _))
      (pss_cons (ps_set (i := 2) nd rfl (by first | exact Or.inl rfl | exact Or.inr rfl) (pe_op op_mod (pe_ix ix_seq (pv 0) pe_int (fun _ _ => rfl)) (pv 1)))
      (pss_cons (ps_asg (pe_op op_fdivN (pe_ix ix_seq (pv 0) pe_int (fun _ _ => rfl)) (pv 1)) (pg_sub (pv 0) pe_int set_list))
      (pss_one (ps_ret (pv 2)))))
      pss_nil)
      (pss_cons (ps_asg (pe_op op_add (pe_ix ix_seq (pv 0) pe_int (fun _ _ => rfl)) pe_int) (pg_sub (pv 0) pe_int set_list))
      (pss_cons (ps_if (pt_cmpR op_le (pe_ix ix_seq (pv 0) pe_int (fun _ _ => rfl)) (pe_callB Y.cl_len (by rfl) T.n_len PySem.boot_len (pa_cons (pe_ix ix_seq (pv 0) pe_int (fun _ _ => rfl)) pa_nil)) (nomark _))
      (pss_cons (ps_set (i := 3) nd rfl (by first | exact Or.inl rfl | exact Or.inr rfl) (pe_ix ix_seq (pe_ix ix_seq (pv 0) pe_int (fun _ _ => rfl)) (pe_op op_sub (pe_ix ix_seq (pv 0) pe_int (fun _ _ => rfl)) pe_int) (fun _ _ => rfl)))
      (pss_cons (ps_asg (pe_ifExp (pt_cmpR op_ge (pv 3) (pe_op op_pow pe_int pe_int) (nomark _)) (pe_op op_fdivN (pv 3) (pv 1)) pe_int) (pg_sub (pv 0) pe_int set_list))
      (pss_one (ps_ret (pe_op op_mod (pv 3) (pv 1))))))
      pss_nil)
      (pss_cons (ps_asg (pe_op op_mod (pe_op op_add (pe_op op_mul (pe_ix ix_seq (pv 0) pe_int (fun _ _ => rfl)) pe_int) pe_int) pe_int) (pg_sub (pv 0) pe_int set_list))
      (pss_one (ps_ret (pe_op op_mod (pe_op op_fdivN (pe_ix ix_seq (pv 0) pe_int (fun _ _ => rfl)) pe_int) (pv 1)))))))), ?_⟩
    have hx : ∀ o, Lk K (upd H a o) s (ns.map V.int) := fun o => hs.upd hA
    have hs' : ∀ o, SqL K (upd H a o) s (ns.map V.int) := fun o => (hx o).sq
    have f' : ∀ o, Fr a H (upd H a o) := fun o => (Fr.refl a H).upd
    have f2 : ∀ o u, Fr a H (upd (upd H a o) a u) := fun o u => (f' o).upd
    walk_at "b"
    refine Y.s_d2 (fun hr0 => ?_) (fun hr0 => ?_)
    · walk_at "s"
      refine Y.s_rI hk ?_
      walk_at "s"
      refine Y.s_rI ⟨by omega, by omega⟩ ?_
      walk_at "s"
      exact q _ _ (Int.emod_nonneg _ (by omega)) (Int.emod_lt_of_pos _ hk) (f' _) ⟨s, ns, i, m, _, upd_same, hx _, h0, h1, h2⟩
    · walk_at "s"
      refine Y.s_lenL (hs' _) ?_
      walk_at "s"
      refine Y.s_d2 (fun hl => ?_) (fun hl => ?_)
      · walk_at "s"
        rw [List.length_map] at hl
        obtain ⟨c, hc⟩ : ∃ c, ns[i.toNat]? = some c := ⟨_, List.getElem?_eq_getElem (by omega)⟩
        refine Y.s_ixL (hs' _) (at_of (j := i.toNat) (v := .int c) (by omega) (by rw [List.getElem?_map, hc]; rfl)) ?_
        walk_at "s"
        refine Y.s_rI ⟨by decide, by decide, by decide⟩ ?_
        walk_at "s"
        refine Y.s_d2 (fun hb => ?_) (fun hb => ?_)
        · walk_at "s"
          refine Y.s_rI ⟨by omega, by omega⟩ ?_
          walk_at "s"
          refine Y.s_rI hk ?_
          walk_at "s"
          exact q _ _ (Int.emod_nonneg _ (by omega)) (Int.emod_lt_of_pos _ hk) (f2 _ _) ⟨s, ns, i + 1, m, _, upd_same, (hx _).upd upd_same, by omega, h1, h2⟩
        · walk_at "s"
          refine Y.s_rI hk ?_
          walk_at "s"
          exact q _ _ (Int.emod_nonneg _ (by omega)) (Int.emod_lt_of_pos _ hk) (f2 _ _) ⟨s, ns, i + 1, m, _, upd_same, (hx _).upd upd_same, by omega, h1, h2⟩
      · walk_at "s"
        refine Y.s_rI (.inl ⟨by omega, by omega⟩) ?_
        walk_at "s"
        refine Y.s_rI hk ?_
        walk_at "s"
        exact q _ _ (Int.emod_nonneg _ (by omega)) (Int.emod_lt_of_pos _ hk) (f2 _ _) ⟨s, ns, i + 1, _, r, upd_same, (hx _).upd upd_same, by omega, Int.emod_nonneg _ (by omega), Int.emod_lt_of_pos _ (by omega)⟩
def spStart (K : PySem.W.Frag) : Sp := fun vs H Q _ => ∃ (s : Addr) (ns : List Int), vs = [.ref s] ∧ Lk K H s (ns.map V.int) ∧ ∀ (a : Addr) (H' : Hp), H a = none → Same H H' → StAt K H' a → Q (.ref a) H'
abbrev s__law_start : Stmt := top 21
theorem sc__law_start : FnScope ["_law_script", "_law_mixed", "_law_cell"] ["_law_script"] (fnScope s__law_start) := fnScope_by (by decide +kernel)
theorem ok__law_start {f : Addr} {fd : FuncData} (F : Def K mg "_law_start" s__law_start f fd) (b : Binds K fd ["_law_script"] []) (T : Txt K mg) : Cal P w K mg base 1 "_law_start" (spStart K) [] := by
  refine cal0 F b .nil sc__law_start (fun vs H Q E h => ?_) (fun cdv A outer s H vs Q E hr h => ?_)
  · obtain ⟨a, k, rfl, _⟩ := h
    rfl
  · obtain ⟨s, ns, rfl, hs, q⟩ := h
    have nd := sc__law_start.nd
    refine ⟨_, (pss_cons (ps_set (i := 1) nd rfl (by first | exact Or.inl rfl | exact Or.inr rfl) pe_int)
      (pss_cons (ps_for PassesOwn.never rfl (pi_list (pv 0)) (pg_name (i := 2) nd rfl (by first | exact Or.inl rfl | exact Or.inr rfl))
      (pss_one (ps_set (i := 1) nd rfl (by first | exact Or.inl rfl | exact Or.inr rfl) (pe_op op_mod (pe_op op_add (pe_op op_add (pe_op op_mul (pv 1) pe_int) (pv 2)) pe_int) pe_int))))
      (pss_one (ps_ret (pe_lst (pa_cons (pv 0) (pa_cons pe_int (pa_cons (pv 1) (pa_cons pe_int pa_nil))))))))), ?_⟩
    walk_at "b"
    refine Y.s_forL hs.sq (fun i σ H' => H' = H ∧ ∃ (m : Int) (v : Option V), σ = [some (.ref s), some (.int m), v] ∧ 0 ≤ m ∧ m < 2147483647) ⟨rfl, _, _, rfl, by decide, by decide⟩ (fun i σ H' ⟨e, _⟩ => e ▸ hs.sq) ?_ ?_
    · rintro i x σ H' hi ⟨rfl, m, v, rfl, h0, h1⟩
      obtain ⟨u, rfl⟩ : ∃ u, x = V.int u := by
        rw [List.getElem?_map] at hi
        cases e : ns[i]? with
        | none => rw [e] at hi; cases hi
        | some u => rw [e] at hi; exact ⟨u, (Option.some.inj hi).symm⟩
      walk_at "s"
      refine Y.s_rI (.inl ⟨by omega, by omega⟩) ?_
      walk_at "s"
      exact ⟨rfl, _, _, rfl, Int.emod_nonneg _ (by omega), Int.emod_lt_of_pos _ (by omega)⟩
    · rintro σ H' ⟨rfl, m, v, rfl, h0, h1⟩
      walk_at "s"
      refine ⟨by show 4 ≤ sizeLine; decide, fun p hp => ?_⟩
      walk_at "s"
      exact q p _ hp (fun b o e => by rw [upd_ne (ne_of_none e hp)]; exact e) ⟨s, ns, 0, m, 0, upd_same, hs.new hp, by decide, h0, h1⟩
end
end G
namespace G
open PySem L2 C8
/-! ### the comparison that the law makes -/
/-- x and y are the same data, at most n deep in lists and tuples -/
def Sm (K : PySem.W.Frag) (H : Hp) : Nat → V → V → Prop
  | 0, _, _ => False
  | n + 1, x, y => (flatV x = true ∧ x = y) ∨ ∃ (a b : Addr) (xs ys : List V), x = .ref a ∧ y = .ref b ∧ ((H a = some (.lst xs) ∧ H b = some (.lst ys)) ∨ (H a = some (.tup xs) ∧ H b = some (.tup ys))) ∧ xs.length = ys.length ∧ xs.length ≤ 10000 ∧
      ∀ (i : Nat) u v, xs[i]? = some u → ys[i]? = some v → Sm K H n u v
theorem Sm.mono {K : PySem.W.Frag} {H H' : Hp} (f : Same H H') : ∀ {n : Nat} {x y : V}, Sm K H n x y → Sm K H' n x y
  | 0, _, _, h => h
  | n + 1, x, y, h => by
    rcases h with h | ⟨a, b, xs, ys, e1, e2, h, el, hl, hi⟩
    · exact .inl h
    · refine .inr ⟨a, b, xs, ys, e1, e2, ?_, el, hl, fun i u v h1 h2 => (hi i u v h1 h2).mono f⟩
      rcases h with ⟨h1, h2⟩ | ⟨h1, h2⟩
      · exact .inl ⟨f _ _ h1, f _ _ h2⟩
      · exact .inr ⟨f _ _ h1, f _ _ h2⟩
def spSame (K : PySem.W.Frag) (n : Nat) : Sp := fun vs H Q _ => ∃ x y, vs = [x, y] ∧ Sm K H n x y ∧ ∀ H', Same H H' → Q (.bl true) H'
section
variable {P : Program} {w : World} {K : PySem.W.Frag} {mg : Str → Option Value} {base : Heap}
abbrev s__law_same : Stmt := top 23
theorem sc__law_same : FnScope ["_law_found", "_law_due", "_law_k"] ["_law_found", "_law_due"] (fnScope s__law_same) := fnScope_by (by decide +kernel)
theorem ok__law_same {f : Addr} {fd : FuncData} (F : Def K mg "_law_same" s__law_same f fd) (b : Binds K fd ["_law_found", "_law_due"] []) (T : Txt K mg) : ∀ n, Cal P w K mg base (n + 1) "_law_same" (spSame K n) [] := by
  intro n
  induction n with
  | zero =>
    refine cal0 F b .nil sc__law_same (fun vs H Q E h => ?_) (fun cdv A outer s H vs Q E hr h => ?_)
    · obtain ⟨x, y, rfl, _⟩ := h
      rfl
    · obtain ⟨x, y, _, h, _⟩ := h
      exact h.elim
  | succ n ih =>
    have c__law_same := ih
    refine cal0 F b .nil sc__law_same (fun vs H Q E h => ?_) (fun cdv A outer s H vs Q E hr h => ?_)
    · obtain ⟨x, y, rfl, _⟩ := h
      rfl
    · obtain ⟨x, y, rfl, h, q⟩ := h
      have nd := sc__law_same.nd
      refine ⟨_, (pss_cons (ps_if (pt_val (pe_callB call_isiT (by rfl) T.n_isinstance (by decide +kernel) (pa_cons (pv 1) (pa_cons (pe_tup (pa_cons (Y.pe_bty (T := "tuple") (by rfl) T.n_tuple (by decide +kernel)) (pa_cons (Y.pe_bty (T := "list") (by rfl) T.n_list (by decide +kernel)) pa_nil))) pa_nil))))
      (pss_cons (ps_if (PW.pt (pw_or (pt_not (pt_val (pe_callB call_isiT (by rfl) T.n_isinstance (by decide +kernel) (pa_cons (pv 0) (pa_cons (pe_tup (pa_cons (Y.pe_bty (T := "tuple") (by rfl) T.n_tuple (by decide +kernel)) (pa_cons (Y.pe_bty (T := "list") (by rfl) T.n_list (by decide +kernel)) pa_nil))) pa_nil))))) (pw_or1 (pt_cmpR op_ne (pe_callB call_isi (by rfl) T.n_isinstance (by decide +kernel) (pa_cons (pv 0) (pa_cons (Y.pe_bty (T := "list") (by rfl) T.n_list (by decide +kernel)) pa_nil))) (pe_callB call_isi (by rfl) T.n_isinstance (by decide +kernel) (pa_cons (pv 1) (pa_cons (Y.pe_bty (T := "list") (by rfl) T.n_list (by decide +kernel)) pa_nil))) (nomark _)))))
      (pss_one (ps_ret pe_bl))
      pss_nil)
      (pss_cons (ps_if (pt_cmpR op_ne (pe_callB Y.cl_len (by rfl) T.n_len PySem.boot_len (pa_cons (pv 0) pa_nil)) (pe_callB Y.cl_len (by rfl) T.n_len PySem.boot_len (pa_cons (pv 1) pa_nil)) (nomark _))
      (pss_one (ps_ret pe_bl))
      pss_nil)
      (pss_one (ps_ret (pe_cmpR (op_eqD hr.units) (pe_lc (own := [("_law_k", 2)]) (g := gName 2) (by rfl) nd (pi_range1 rfl T.n_range (pa_cons (pe_callB Y.cl_len (by rfl) T.n_len PySem.boot_len (pa_cons (pv 1) pa_nil)) pa_nil)) (blkOk_by (N := ["_law_found", "_law_due", "_law_k"]) (sc := fnScope s__law_same) (by decide +kernel)) (fun _ _ _ _ _ => (pg_name (i := 2) nd rfl (by first | exact Or.inl rfl | exact Or.inr rfl))) (fun _ _ _ _ _ => (pts_one (pt_not (pt_val (pe_c c__law_same hr (by first | decide | omega) (by rfl) (pa_cons (pe_ix (show IxR _ (rIx K) from ix_seq) (pv 0) (pv 2) (fun _ _ => rfl)) (pa_cons (pe_ix (show IxR _ (rIx K) from ix_seq) (pv 1) (pv 2) (fun _ _ => rfl)) pa_nil))))))) (fun _ _ _ _ _ => (pv 2))) (pe_lst pa_nil) (nomark _))))))
      pss_nil)
      (pss_cons (ps_if (pt_cmpR op_isN1 (pv 1) pe_non (nomark _))
      (pss_one (ps_ret (pe_cmpR op_isN1 (pv 0) pe_non (nomark _))))
      pss_nil)
      (pss_cons (ps_if (pt_val (pe_callB call_isi (by rfl) T.n_isinstance (by decide +kernel) (pa_cons (pv 1) (pa_cons (Y.pe_bty (T := "str") (by rfl) T.n_str (by decide +kernel)) pa_nil))))
      (pss_one (ps_ret (pe_and (pe_callB call_isi (by rfl) T.n_isinstance (by decide +kernel) (pa_cons (pv 0) (pa_cons (Y.pe_bty (T := "str") (by rfl) T.n_str (by decide +kernel)) pa_nil))) (pe_one (pe_cmpR op_eq (pv 0) (pv 1) (nomark _))))))
      pss_nil)
      (pss_cons (ps_if (PW.pt (pw_or (pt_val (pe_callB call_isi (by rfl) T.n_isinstance (by decide +kernel) (pa_cons (pv 1) (pa_cons (Y.pe_bty (T := "bool") (by rfl) T.n_bool (by decide +kernel)) pa_nil)))) (pw_or1 (pt_val (pe_callB call_isi (by rfl) T.n_isinstance (by decide +kernel) (pa_cons (pv 0) (pa_cons (Y.pe_bty (T := "bool") (by rfl) T.n_bool (by decide +kernel)) pa_nil)))))))
      (pss_one (ps_ret (pe_and (pe_callB call_isi (by rfl) T.n_isinstance (by decide +kernel) (pa_cons (pv 1) (pa_cons (Y.pe_bty (T := "bool") (by rfl) T.n_bool (by decide +kernel)) pa_nil))) (pe_and (pe_callB call_isi (by rfl) T.n_isinstance (by decide +kernel) (pa_cons (pv 0) (pa_cons (Y.pe_bty (T := "bool") (by rfl) T.n_bool (by decide +kernel)) pa_nil))) (pe_one (pe_cmpR op_eq (pv 0) (pv 1) (nomark _)))))))
      pss_nil)
      (pss_one (ps_ret (pe_and (pe_callB call_isi (by rfl) T.n_isinstance (by decide +kernel) (pa_cons (pv 0) (pa_cons (Y.pe_bty (T := "int") (by rfl) T.n_int (by decide +kernel)) pa_nil))) (pe_one (pe_cmpR op_eq (pv 0) (pv 1) (nomark _)))))))))), ?_⟩
      walk_at "b"
      refine Y.s_new rfl fun p1 hp1 => ?_
      rcases h with ⟨hf, rfl⟩ | ⟨a1, a2, xs, ys, rfl, rfl, hxy, el, hl, hi⟩
      · cases x with
        | non =>
          walk_at "s"
          exact q _ (by walk_at "sm")
        | bl v =>
          walk_at "s"
          rw [decide_eq_true rfl]
          exact q _ (by walk_at "sm")
        | int v =>
          walk_at "s"
          rw [decide_eq_true rfl]
          exact q _ (by walk_at "sm")
        | str v =>
          walk_at "s"
          rw [decide_eq_true rfl]
          exact q _ (by walk_at "sm")
        | byt v => cases hf
        | flt v => cases hf
        | ref v => cases hf
        | ty v => cases hf
      · rcases hxy with ⟨h1, h2⟩ | ⟨h1, h2⟩
        all_goals
          walk_at "s"
          refine Y.s_new rfl fun p2 hp2 => ?_
          walk_at "s"
          refine Y.s_dNT (by omega) ?_
          walk_at "s"
          refine Y.s_lcR (by omega) (by omega) fun D hD => ⟨fun i acc Hx => acc = [] ∧ Same H Hx, ?_, ?_, ?_⟩
          · exact ⟨rfl, by walk_at "sm"⟩
          · rintro i acc Hx hi2 hl2 hD2 ⟨rfl, sx⟩
            obtain ⟨u, hu1⟩ : ∃ u, xs[i]? = some u := ⟨_, List.getElem?_eq_getElem (by omega)⟩
            obtain ⟨v, hv1⟩ : ∃ v, ys[i]? = some v := ⟨_, List.getElem?_eq_getElem (by omega)⟩
            walk_at "s"
            first
              | refine Y.s_ixL (SqL.of (sx _ _ h1)) (at_of (j := i) (by omega) hu1) ?_
              | refine Y.s_ixT (SqT.of (sx _ _ h1)) (at_of (j := i) (by omega) hu1) ?_
            walk_at "s"
            first
              | refine Y.s_ixL (SqL.of (sx _ _ h2)) (at_of (j := i) (by omega) hv1) ?_
              | refine Y.s_ixT (SqT.of (sx _ _ h2)) (at_of (j := i) (by omega) hv1) ?_
            walk_at "s"
            refine ⟨u, v, rfl, (hi i u v hu1 hv1).mono sx, fun H' sy => ?_⟩
            walk_at "s"
            exact Y.s_lcN (sy _ _ hD2) hl2 ⟨rfl, sx.trans sy⟩
          · rintro acc Hx hD2 hl2 ⟨rfl, sx⟩
            refine Y.s_new rfl fun p3 hp3 => ?_
            refine Y.s_eqNil (by walk_at "sq") (by walk_at "sq") ?_
            walk_at "s"
            exact q _ (by walk_at "sm")
end
end G
/-! ### more readings: tuples walked, zip of tuples, all, not in, == of lists of truths, and of two truths -/
namespace Y
open PySem L2 C8
section
variable {σ : L2.St} {H : Hp} {Q : VK} {v x y : V} {n k : Nat} {ta tb te : TE} {tt : TT} {A : TA} {K : PySem.W.Frag} {p p1 p2 : Addr} {xs ys : List V}
theorem s_all {bs : List Bool} (h : SqL K H p (bs.map V.bl)) (q : Q (.bl (bs.all id)) H) : rAll K [.ref p] H Q := ⟨p, bs, rfl, h, q⟩
theorem s_any {bs : List Bool} (h : SqL K H p (bs.map V.bl)) (q : Q (.bl (bs.any id)) H) : rAny K [.ref p] H Q := ⟨p, bs, rfl, h, q⟩
theorem s_ninT {b : Bool} (h : SqT K H p xs) (hx : flatV x = true) (hs : xs.all flatV = true) (hb : inV x xs = b) (q : Q (.bl (!b)) H) : rIn K true x (.ref p) H Q := ⟨p, xs, rfl, .inr h, hx, hs, by rw [hb]; exact q⟩
theorem all_true (n : Nat) : (List.replicate n true).all id = true := by induction n with
  | zero => rfl
  | succ n ih => rw [List.replicate_succ]; exact ih
theorem inV_strs (w : Str) : ∀ ws : List Str, inV (.str w) (ws.map V.str) = ws.contains w
  | [] => rfl
  | z :: r => by
    have h := inV_strs w r
    show (eqV (.str z) (.str w) || inV (.str w) (r.map V.str)) = (z :: r).contains w
    rw [h, List.contains_cons]
    show (z == w || _) = _
    rw [show (z == w) = (w == z) from by rw [Bool.eq_iff_iff, beq_iff_eq, beq_iff_eq]; exact ⟨Eq.symm, Eq.symm⟩]
theorem flat_strs : ∀ ws : List Str, (ws.map V.str).all flatV = true
  | [] => rfl
  | _ :: r => flat_strs r
/-- .. over a tuple -/
theorem s_lcT {a : Addr} (ha : SqT K H a xs) (h : ∀ D, H D = none → ∃ Inv : Nat → List V → Hp → Prop, Inv 0 [] (upd H D (.lst [])) ∧ (∀ i acc H, H D = some (.lst acc) → Inv i acc H → SqT K H a xs) ∧
      (∀ (i : Nat) x acc H, xs[i]? = some x → acc.length ≤ i → H D = some (.lst acc) → Inv i acc H → tt ((σ.set k none).set k (some x)) H fun b H3 =>
        if b = true then te ((σ.set k none).set k (some x)) H3 fun y H4 => ∃ acc, H4 D = some (.lst acc) ∧ acc.length < sizeLine ∧ LcP D Inv (i + 1) (upd H4 D (.lst (acc ++ [y]))) else LcP D Inv (i + 1) H3) ∧
      ∀ acc H, H D = some (.lst acc) → acc.length ≤ xs.length → Inv xs.length acc H → Q (.ref D) H) :
    TupRest K (LcRest (gName k) tt te [k] σ Q) (V.ref a) H := by
  refine ⟨a, rfl, ⟨xs, ha⟩, fun D hD => ?_⟩
  obtain ⟨Inv, i0, hq, ht, hd⟩ := h D hD
  refine lc_tup (K := K) (a := a) (xs := xs) (LcP D Inv) ⟨[], upd_same, Nat.zero_le _, i0⟩ (fun i H _ ⟨acc, ha, _, hv⟩ => hq i acc H ha hv) (fun i x H hi p => ?_) (fun H ⟨acc, ha, hl, hv⟩ => hd acc H ha hl hv)
  obtain ⟨acc, ha, hl, hv⟩ := p
  show (((σ.set k none).set k _).set k none) = σ.set k none ∧ _
  refine ⟨by rw [List.set_set, List.set_set], ht i x acc H hi hl ha hv⟩
/-- zip, behind its arguments -/
def ZipRest (K : PySem.W.Frag) (R : It → Hp → Prop) : List V → Hp → Prop := fun vs H1 => ∃ a b xs ys, vs = [.ref a, .ref b] ∧ ((SqL K H1 a xs ∧ SqL K H1 b ys ∧ R (Itz K a b) H1) ∨ (SqT K H1 a xs ∧ SqT K H1 b ys ∧ R (RZ.ItzT K a b) H1))
theorem s_zip {R : It → Hp → Prop} (q : A σ H (ZipRest K R)) : RZ.iZipA K A σ H R := q
theorem walk_zipT {a b : Addr} (hl : xs.length = ys.length) : Walk (RZ.ItzT K a b) xs.length (fun H => SqT K H a xs ∧ SqT K H b ys) (YPair (fun i => xs[i]?) (fun i => ys[i]?)) :=
  ⟨fun i H hi q => ⟨xs, ys, xs[i], ys[i]'(by omega), q.1, q.2, List.getElem?_eq_getElem hi, List.getElem?_eq_getElem (by omega)⟩,
    fun H q => ⟨xs, ys, q.1, q.2, Or.inl (Nat.le_refl _)⟩,
    fun i H x H' hi q ⟨T, u, v, e1, e2, e3, f1, f2⟩ => ⟨T, u, v, e1, e2, e3, f1 xs q.1, f2 ys q.2⟩⟩
theorem s_lcZT {a b : Addr} {g : TG} {vs : List Nat} (ha : SqT K H a xs) (hb : SqT K H b ys) (hl : xs.length = ys.length)
    (h : ∀ D, H D = none → ∃ Inv : Nat → List V → Hp → Prop, Inv 0 [] (upd H D (.lst [])) ∧ (∀ i acc H, H D = some (.lst acc) → Inv i acc H → SqT K H a xs ∧ SqT K H b ys) ∧
      (∀ (i : Nat) x y T acc H, xs[i]? = some x → ys[i]? = some y → acc.length ≤ i → H D = some (.lst acc) → Inv i acc H → H T = none → g (.ref T) (wipe σ vs) (upd H T (.tup [x, y])) fun σ2 H2 => wipe σ2 vs = wipe σ vs ∧ tt σ2 H2 fun b H3 =>
        if b = true then te σ2 H3 fun y H4 => ∃ acc, H4 D = some (.lst acc) ∧ acc.length < sizeLine ∧ LcP D Inv (i + 1) (upd H4 D (.lst (acc ++ [y]))) else LcP D Inv (i + 1) H3) ∧
      ∀ acc H, H D = some (.lst acc) → acc.length ≤ xs.length → Inv xs.length acc H → Q (.ref D) H) :
    ZipRest K (LcRest g tt te vs σ Q) [V.ref a, V.ref b] H := by
  refine ⟨a, b, xs, ys, rfl, .inr ⟨ha, hb, fun D hD => ?_⟩⟩
  obtain ⟨Inv, i0, hq, ht, hd⟩ := h D hD
  refine lc_it (walk_zipT hl) (LcP D Inv) ⟨[], upd_same, Nat.zero_le _, i0⟩ (fun i H _ ⟨acc, ha, _, hv⟩ => hq i acc H ha hv) (fun i z H H' hi p yy => ?_) (fun H ⟨acc, ha, hl, hv⟩ => hd acc H ha hl hv)
  obtain ⟨acc, ha, hl, hv⟩ := p
  obtain ⟨T, u, v, rfl, hT, rfl, f1, f2⟩ := yy
  exact ht i u v T acc H f1 f2 hl ha hv hT
/-- a target of names, written as a tuple -/
theorem s_gTup {t : TGs} {Q : L2.St → Hp → Prop} (h : SqT K H p xs) (hl : xs.length = n) (q : t xs σ H Q) : gTup K n t (.ref p) σ H Q := ⟨p, xs, rfl, h, hl, q⟩
theorem s_gCons {t : TG} {u : TGs} {Q : L2.St → Hp → Prop} (q : t v σ H fun σ' H' => u xs σ' H' Q) : gCons t u (v :: xs) σ H Q := ⟨v, xs, rfl, q⟩
theorem s_gNil {Q : L2.St → Hp → Prop} (q : Q σ H) : gNil [] σ H Q := ⟨rfl, q⟩
theorem dp_bools : ∀ bs : List Bool, DpAll K H (bs.map V.bl) (bs.map PyData.bool)
  | [] => .nil
  | b :: r => .cons (.bl b) (dp_bools r)
theorem s_eqBools {as bs : List Bool} {c : Bool} (h1 : SqL K H p1 (as.map V.bl)) (h2 : SqL K H p2 (bs.map V.bl)) (s1 : SeqAt.shaped (.list (as.map PyData.bool)) = true) (s2 : SeqAt.shaped (.list (bs.map PyData.bool)) = true) (e : PyData.eqv (.list (as.map .bool)) (.list (bs.map .bool)) = c) (q : Q (.bl c) H) : rEqD K (.ref p1) (.ref p2) H Q :=
  ⟨_, _, .lst h1 (dp_bools as), .lst h2 (dp_bools bs), s1, s2, by rw [e]; exact q⟩
theorem s_isNb {b : Bool} (h : (b = true ∧ x = .non) ∨ (b = false ∧ x ≠ .non)) (q : Q (.bl b) H) : rIsN x .non H Q := by
  rcases h with ⟨rfl, rfl⟩ | ⟨rfl, h⟩
  · exact s_isNn q
  · exact s_isNF h q
theorem s_neB {a b : Bool} (q : Q (.bl (a != b)) H) : rNe (.bl a) (.bl b) H Q := ⟨rfl, by
  rw [show (!decide (V.bl a = V.bl b)) = (a != b) from by cases a <;> cases b <;> rfl]; exact q⟩
/-- the end of a and b, both truths -/
theorem s_andVV {b0 b1 : Bool} (hb : ∀ Q' : VK, Q' (.bl b1) H → tb σ H Q') (q : Q (.bl (b0 && b1)) H) : if b0 = true then tb σ H Q else Q (.bl false) H := by
  cases b0 with
  | false => exact s_F q
  | true => exact s_T (hb _ q)
theorem s_stq {Q : List V → Hp → Prop} (q : te σ H fun x H1 => ∃ p xs, x = V.ref p ∧ (SqT K H1 p xs ∨ SqL K H1 p xs) ∧ A σ H1 fun ys H2 => Q (xs ++ ys) H2) : StX.tStar K te A σ H Q := q
theorem s_rep {k : Int} (h : H p = some (.lst xs)) (h0 : -(2 ^ 63) ≤ k) (h1 : k < 2 ^ 63) (hl : xs.length * k.toNat ≤ sizeLine) (q : ∀ p, H p = none → Q (.ref p) (upd H p (.lst (List.replicate k.toNat xs).flatten))) : rRep (.ref p) (.int k) H Q := ⟨p, k, xs, rfl, rfl, h, h0, h1, hl, q⟩
end
end Y
namespace G
open PySem L2 C8
/-! ### the kinds: check_kind, check_way, lacking, holds, own_row, unlike -/
def TupG (K : PySem.W.Frag) (mg : Str → Option Value) (x : Str) (vs : List V) : Prop := ∃ a : Addr, (∃ u, mg x = some u ∧ RelV (.ref a) u) ∧ ∀ H : Hp, SqT K H a vs
def StrG (mg : Str → Option Value) (x z : Str) : Prop := ∃ u, mg x = some u ∧ RelV (.str z) u
def IntG (mg : Str → Option Value) (x : Str) (i : Int) : Prop := ∃ u, mg x = some u ∧ RelV (.int i) u
def ownW : List Str := ["say", "hear", "which", "room", "enter", "alarm", "stop"]
def needP : List Str := ["say", "hear", "which", "enter", "alarm", "stop"]
def needT : List Str := ["say", "hear"]
def need (way : Str) : List Str := if way = "plain" then needP else needT
def lackL (bs : List Bool) (way : Str) : List Str := ((ownW.zip bs).filter fun q => (need way).contains q.1 && !q.2).map (·.1)
def WayIs (way : Str) : Prop := way = "plain" ∨ way = "through"
def KindAt (H : Hp) (p : Addr) (bs : List Bool) : Prop := H p = some (.tup (bs.map V.bl)) ∧ bs.length = 7
theorem KindAt.mono {H H' : Hp} {p : Addr} {bs : List Bool} (k : KindAt H p bs) (s : Same H H') : KindAt H' p bs := ⟨s _ _ k.1, k.2⟩
def spCheckKind : Sp := fun vs H Q _ => ∃ p bs, vs = [.ref p] ∧ KindAt H p bs ∧ ∀ H', Same H H' → Q .non H'
def spCheckWay : Sp := fun vs H Q _ => ∃ way, vs = [.str way] ∧ WayIs way ∧ ∀ H', Same H H' → Q .non H'
def spLacking : Sp := fun vs H Q _ => ∃ p bs way, vs = [.ref p, .str way] ∧ KindAt H p bs ∧ WayIs way ∧ ∀ l H', Same H H' → H l = none → H' l = some (.lst ((lackL bs way).map V.str)) → Q (.ref l) H'
def spHolds : Sp := fun vs H Q _ => ∃ p bs way, vs = [.ref p, .str way] ∧ KindAt H p bs ∧ WayIs way ∧ ∀ H', Same H H' → Q (.bl (decide (lackL bs way = []))) H'
def spOwnRow : Sp := fun vs H Q _ => ∃ z, vs = [.str z] ∧ ∀ a xs H', Same H H' → H a = none → H' a = some (.tup xs) → xs.length ≤ 2 → Q (.ref a) H'
def spUnlike : Sp := fun vs H Q _ => ∃ p bs way, vs = [.ref p, .str way] ∧ KindAt H p bs ∧ WayIs way ∧ ∀ v H', Same H H' → ((decide (lackL bs way = []) = true ∧ v = .non) ∨ (decide (lackL bs way = []) = false ∧ v ≠ .non)) → Q v H'
theorem u_lacking {H : Hp} {Q : VK} {E : XK} {p : Addr} {bs : List Bool} {way : Str} (h : KindAt H p bs) (hw : WayIs way) (q : ∀ l H', Same H H' → H l = none → H' l = some (.lst ((lackL bs way).map V.str)) → Q (.ref l) H') : spLacking ([.ref p, .str way] ++ []) H Q E := ⟨p, bs, way, rfl, h, hw, q⟩
theorem u_holds {H : Hp} {Q : VK} {E : XK} {p : Addr} {bs : List Bool} {way : Str} (h : KindAt H p bs) (hw : WayIs way) (q : ∀ H', Same H H' → Q (.bl (decide (lackL bs way = []))) H') : spHolds ([.ref p, .str way] ++ []) H Q E := ⟨p, bs, way, rfl, h, hw, q⟩
theorem u_unlike {H : Hp} {Q : VK} {E : XK} {p : Addr} {bs : List Bool} {way : Str} (h : KindAt H p bs) (hw : WayIs way) (q : ∀ v H', Same H H' → ((decide (lackL bs way = []) = true ∧ v = .non) ∨ (decide (lackL bs way = []) = false ∧ v ≠ .non)) → Q v H') : spUnlike ([.ref p, .str way] ++ []) H Q E := ⟨p, bs, way, rfl, h, hw, q⟩
theorem u_ckind {H : Hp} {Q : VK} {E : XK} {p : Addr} {bs : List Bool} (h : KindAt H p bs) (q : ∀ H', Same H H' → Q .non H') : spCheckKind ([.ref p] ++ []) H Q E := ⟨p, bs, rfl, h, q⟩
theorem u_cway {H : Hp} {Q : VK} {E : XK} {way : Str} (hw : WayIs way) (q : ∀ H', Same H H' → Q .non H') : spCheckWay ([.str way] ++ []) H Q E := ⟨way, rfl, hw, q⟩
theorem u_ownrow {H : Hp} {Q : VK} {E : XK} {z : Str} (q : ∀ a xs H', Same H H' → H a = none → H' a = some (.tup xs) → xs.length ≤ 2 → Q (.ref a) H') : spOwnRow ([.str z] ++ []) H Q E := ⟨z, rfl, q⟩
section
variable {P : Program} {w : World} {K : PySem.W.Frag} {mg : Str → Option Value} {base : Heap}
abbrev s_check_kind : Stmt := top 8
theorem sc_check_kind : FnScope ["kind", "truth"] ["kind"] (fnScope s_check_kind) := fnScope_by (by decide +kernel)
theorem ok_check_kind {f : Addr} {fd : FuncData} (F : Def K mg "check_kind" s_check_kind f fd) (b : Binds K fd ["kind"] []) (T : Txt K mg) (tO : TupG K mg "OWN" (ownW.map V.str)) : Cal P w K mg base 1 "check_kind" spCheckKind [] := by
  obtain ⟨aO, v_OWN, qO⟩ := tO
  refine cal0 F b .nil sc_check_kind (fun vs H Q E h => ?_) (fun cdv A outer s H vs Q E hr h => ?_)
  · obtain ⟨a, bs, rfl, _⟩ := h
    rfl
  · obtain ⟨p, bs, rfl, ⟨hp, hl⟩, q⟩ := h
    have nd := sc_check_kind.nd
    refine ⟨_, (pss_one (ps_if (PW.pt (pw_or (pt_cmpR op_ne (pe_callB Y.cl_len (by rfl) T.n_len PySem.boot_len (pa_cons (pv 0) pa_nil)) (pe_callB Y.cl_len (by rfl) T.n_len PySem.boot_len (pa_cons (pe_gc (by rfl) v_OWN) pa_nil)) (nomark _)) (pw_or1 (pt_not (pt_val (pe_callB (cr_all rfl) (by rfl) T.n_all (by decide +kernel) (pa_cons (pe_lc (own := [("truth", 1)]) (g := gName 1) (by rfl) nd (pi_tup (pv 0)) (blkOk_by (N := ["kind", "truth"]) (sc := fnScope s_check_kind) (by decide +kernel)) (fun _ _ _ _ _ => (pg_name (i := 1) nd rfl (by first | exact Or.inl rfl | exact Or.inr rfl))) (fun _ _ _ _ _ => pts_nil) (fun _ _ _ _ _ => (pe_callB (show CallR _ _ (rIsi K) from call_isi) (by rfl) T.n_isinstance (by decide +kernel) (pa_cons (pv 1) (pa_cons (Y.pe_bty (T := "bool") (by rfl) T.n_bool (by decide +kernel)) pa_nil))))) pa_nil)))))))
      (pss_one ps_never)
      pss_nil)), ?_⟩
    walk_at "b"
    refine Y.s_lenT (qO _) ?_
    walk_at "s"
    have e7 : (((bs.map V.bl).length : Nat) : Int) = ((ownW.map V.str).length : Nat) := by rw [List.length_map, hl]; rfl
    refine Y.s_dNT e7 ?_
    walk_at "s"
    refine Y.s_lcT (SqT.of hp) fun D hD => ⟨fun i acc Hx => acc = (List.replicate i true).map V.bl ∧ Same H Hx, ?_, ?_, ?_, ?_⟩
    · exact ⟨rfl, by walk_at "sm"⟩
    · rintro i acc Hx _ ⟨_, sx⟩
      exact SqT.of (sx _ _ hp)
    · rintro i x acc Hx hx hl2 hD2 ⟨rfl, sx⟩
      obtain ⟨u, rfl⟩ : ∃ u, x = V.bl u := by
        rw [List.getElem?_map] at hx
        cases e : bs[i]? with
        | none => rw [e] at hx; cases hx
        | some u => rw [e] at hx; exact ⟨u, (Option.some.inj hx).symm⟩
      have hi : i < 7 := by
        obtain ⟨h1, _⟩ := List.getElem?_eq_some_iff.mp hx
        rw [List.length_map, hl] at h1
        exact h1
      walk_at "s"
      exact Y.s_lcE hD2 hl2 (by omega) ⟨by rw [List.replicate_succ', List.map_append]; rfl, Y.same_own hD sx⟩
    · rintro acc Hx hD2 hl2 ⟨rfl, sx⟩
      walk_at "s"
      refine Y.s_all (SqL.of hD2) ?_
      rw [Y.all_true]
      walk_at "s"
      exact q _ sx
abbrev s_check_way : Stmt := top 9
theorem sc_check_way : FnScope ["way"] ["way"] (fnScope s_check_way) := fnScope_by (by decide +kernel)
theorem ok_check_way {f : Addr} {fd : FuncData} (F : Def K mg "check_way" s_check_way f fd) (b : Binds K fd ["way"] []) (T : Txt K mg) (v_PLAIN : StrG mg "PLAIN" "plain") (v_THROUGH : StrG mg "THROUGH" "through") : Cal P w K mg base 1 "check_way" spCheckWay [] := by
  refine cal0 F b .nil sc_check_way (fun vs H Q E h => ?_) (fun cdv A outer s H vs Q E hr h => ?_)
  · obtain ⟨a, rfl, _⟩ := h
    rfl
  · obtain ⟨way, rfl, hw, q⟩ := h
    have nd := sc_check_way.nd
    refine ⟨_, (pss_one (ps_if (pt_cmpR op_notIn_seq (pv 0) (pe_tup (pa_cons (pe_gc (by rfl) v_PLAIN) (pa_cons (pe_gc (by rfl) v_THROUGH) pa_nil))) (by rfl))
      (pss_one ps_never)
      pss_nil)), ?_⟩
    walk_at "b"
    refine Y.s_new rfl fun p1 hp1 => ?_
    have hi : inV (.str way) [.str "plain", .str "through"] = true := by rcases hw with rfl | rfl <;> decide +kernel
    refine Y.s_ninT (b := true) (by walk_at "sq") rfl rfl hi ?_
    walk_at "s"
    exact q _ (by walk_at "sm")
abbrev s_lacking : Stmt := top 18
theorem sc_lacking : FnScope ["kind", "way", "needed", "word", "caught"] ["kind", "way"] (fnScope s_lacking) := fnScope_by (by decide +kernel)
theorem ok_lacking {f : Addr} {fd : FuncData} (F : Def K mg "lacking" s_lacking f fd) (b : Binds K fd ["kind", "way"] []) (T : Txt K mg) (v_PLAIN : StrG mg "PLAIN" "plain") (tO : TupG K mg "OWN" (ownW.map V.str)) (tP : TupG K mg "NEEDED_BY_PLAIN" (needP.map V.str)) (tT : TupG K mg "NEEDED_BY_THROUGH" (needT.map V.str)) : Cal P w K mg base 1 "lacking" spLacking [] := by
  obtain ⟨aO, v_OWN, qO⟩ := tO
  obtain ⟨aP, v_NEEDED_BY_PLAIN, qP⟩ := tP
  obtain ⟨aT, v_NEEDED_BY_THROUGH, qT⟩ := tT
  refine cal0 F b .nil sc_lacking (fun vs H Q E h => ?_) (fun cdv A outer s H vs Q E hr h => ?_)
  · obtain ⟨a, bs, way, rfl, _⟩ := h
    rfl
  · obtain ⟨p, bs, way, rfl, ⟨hp, hl⟩, hw, q⟩ := h
    have nd := sc_lacking.nd
    refine ⟨_, (pss_cons (ps_set (i := 2) nd rfl (by first | exact Or.inl rfl | exact Or.inr rfl) (pe_ifExp (pt_cmpR op_eq (pv 1) (pe_gc (by rfl) v_PLAIN) (nomark _)) (pe_gc (by rfl) v_NEEDED_BY_PLAIN) (pe_gc (by rfl) v_NEEDED_BY_THROUGH)))
      (pss_one (ps_ret (pe_lc (own := [("word", 3), ("caught", 4)]) (g := gTup K 2 (gCons (gName 3) (gCons (gName 4) gNil))) (by rfl) nd (RZ.pi_zipA (by rfl) T.n_zip (pa_cons (pe_gc (by rfl) v_OWN) (pa_cons (pv 0) pa_nil))) (blkOk_by (N := ["kind", "way", "needed", "word", "caught"]) (sc := fnScope s_lacking) (by decide +kernel)) (fun _ _ _ _ _ => (pg_tup (by rfl) (pgs_cons (pg_name (i := 3) nd rfl (by first | exact Or.inl rfl | exact Or.inr rfl)) (pgs_cons (pg_name (i := 4) nd rfl (by first | exact Or.inl rfl | exact Or.inr rfl)) pgs_nil)))) (fun _ _ _ _ _ => (pts_one (PW.pt (pw_and (pt_cmpR (show OpR _ _ (rIn K false) from op_in_seq) (pv 3) (pv 2) (by rfl)) (pw_and1 (pt_not (pt_val (pv 4)))))))) (fun _ _ _ _ _ => (pv 3)))))), ?_⟩
    obtain ⟨ns, en⟩ : ∃ ns, ns = need way := ⟨_, rfl⟩
    rcases hw with rfl | rfl
    all_goals
      walk_at "b"
      refine Y.s_zip ?_
      walk_at "s"
      refine Y.s_lcZT (qO _) (SqT.of hp) (by rw [List.length_map, List.length_map, hl]; rfl) fun D hD => ⟨fun i acc Hx => Same H Hx ∧ acc = ((((ownW.zip bs).take i).filter fun q => ns.contains q.1 && !q.2).map (·.1)).map V.str, ?_, ?_, ?_, ?_⟩
      · exact ⟨by walk_at "sm", rfl⟩
      · rintro i acc Hx _ ⟨sx, _⟩
        exact ⟨qO _, SqT.of (sx _ _ hp)⟩
      · rintro i x y t acc Hx hx hy hl2 hD2 ⟨sx, rfl⟩ ht
        obtain ⟨z, hz, rfl⟩ : ∃ z, ownW[i]? = some z ∧ x = V.str z := by
          rw [List.getElem?_map] at hx
          cases e : ownW[i]? with
          | none => rw [e] at hx; cases hx
          | some u => rw [e] at hx; exact ⟨u, rfl, (Option.some.inj hx).symm⟩
        obtain ⟨c, hc, rfl⟩ : ∃ c, bs[i]? = some c ∧ y = V.bl c := by
          rw [List.getElem?_map] at hy
          cases e : bs[i]? with
          | none => rw [e] at hy; cases hy
          | some u => rw [e] at hy; exact ⟨u, rfl, (Option.some.inj hy).symm⟩
        have hi : i < 7 := by
          obtain ⟨h1, _⟩ := List.getElem?_eq_some_iff.mp hc
          rw [hl] at h1
          exact h1
        have ez : (ownW.zip bs)[i]? = some (z, c) := List.getElem?_zip_eq_some.mpr ⟨hz, hc⟩
        refine Y.s_gTup (SqT.of upd_same) rfl ?_
        refine Y.s_gCons ?_
        walk_at "s"
        refine Y.s_gCons ?_
        walk_at "s"
        refine Y.s_gNil ⟨rfl, ?_⟩
        walk_at "s"
        first
          | refine Y.s_inT (xs := needP.map V.str) (b := ns.contains z) (qP _) rfl (Y.flat_strs _) (by rw [en]; exact Y.inV_strs z needP) ?_
          | refine Y.s_inT (xs := needT.map V.str) (b := ns.contains z) (qT _) rfl (Y.flat_strs _) (by rw [en]; exact Y.inV_strs z needT) ?_
        refine Y.s_bl ?_
        have e6 : upd Hx t (.tup [.str z, .bl c]) D = some (.lst ((((ownW.zip bs).take i).filter fun q => ns.contains q.1 && !q.2).map (·.1) |>.map V.str)) := by walk_at "hp"
        have tk : (ownW.zip bs).take (i + 1) = (ownW.zip bs).take i ++ [(z, c)] := by rw [List.take_succ, ez]; rfl
        have sx2 : Same H (upd Hx t (.tup [.str z, .bl c])) := by walk_at "sm"
        cases h1 : ns.contains z with
        | false =>
          walk_at "s"
          refine Y.s_lcN e6 hl2 ⟨sx2, ?_⟩
          rw [tk, List.filter_append, List.filter_cons_of_neg (by rw [h1]; simp), List.filter_nil, List.append_nil]
        | true =>
          walk_at "s"
          cases c with
          | true =>
            walk_at "s"
            refine Y.s_lcN e6 hl2 ⟨sx2, ?_⟩
            rw [tk, List.filter_append, List.filter_cons_of_neg (by rw [h1]; simp), List.filter_nil, List.append_nil]
          | false =>
            walk_at "s"
            refine Y.s_lcE e6 hl2 (by omega) ⟨Y.same_own hD sx2, ?_⟩
            rw [tk, List.filter_append, List.filter_cons_of_pos (by rw [h1]; rfl), List.filter_nil, List.map_append, List.map_append]
            rfl
      · rintro acc Hx hD2 hl2 ⟨sx, rfl⟩
        walk_at "s"
        have el : (ownW.map V.str).length = (ownW.zip bs).length := by rw [List.length_map, List.length_zip, hl]; rfl
        rw [el, List.take_length, en] at hD2
        exact q D Hx sx hD hD2
end
end G
/-! ### the head: what the top leaves, by one run -/
namespace G
open PySem L2 C8
def d_check_kind : He.DefD := ⟨("check_kind", none), "check_kind", "check_kind", fnArgs (top 8), fnBody (top 8), fnScope (top 8), [], []⟩
def d_check_way : He.DefD := ⟨("check_way", none), "check_way", "check_way", fnArgs (top 9), fnBody (top 9), fnScope (top 9), [], []⟩
def d_holds : He.DefD := ⟨("holds", none), "holds", "holds", fnArgs (top 16), fnBody (top 16), fnScope (top 16), [], []⟩
def d_unlike : He.DefD := ⟨("unlike", none), "unlike", "unlike", fnArgs (top 17), fnBody (top 17), fnScope (top 17), [], []⟩
def d_lacking : He.DefD := ⟨("lacking", none), "lacking", "lacking", fnArgs (top 18), fnBody (top 18), fnScope (top 18), [], []⟩
def d_own_row : He.DefD := ⟨("own_row", none), "own_row", "own_row", fnArgs (top 19), fnBody (top 19), fnScope (top 19), [], []⟩
def d__law_start : He.DefD := ⟨("_law_start", none), "_law_start", "_law_start", fnArgs (top 21), fnBody (top 21), fnScope (top 21), [], []⟩
def d__law_drawn : He.DefD := ⟨("_law_drawn", none), "_law_drawn", "_law_drawn", fnArgs (top 22), fnBody (top 22), fnScope (top 22), [], []⟩
def d__law_same : He.DefD := ⟨("_law_same", none), "_law_same", "_law_same", fnArgs (top 23), fnBody (top 23), fnScope (top 23), [], []⟩
def d_law : He.DefD := ⟨("law", none), "law", "law", fnArgs (top 24), fnBody (top 24), fnScope (top 24), [], []⟩
def hfn : List He.DefD := [d_check_kind, d_check_way, d_holds, d_unlike, d_lacking, d_own_row, d__law_start, d__law_drawn, d__law_same, d_law]
def hfa : List He.Fa := ([.glo "WorldError", .glo "BadKind", .glo "BadWay", .glo "check_kind", .glo "check_way", .glo "holds", .glo "unlike", .glo "lacking", .glo "own_row", .glo "_law_start", .glo "_law_drawn", .glo "_law_same", .glo "law", .glo "OWN", .str "PLAIN" "plain", .str "THROUGH" "through", .glo "NEEDED_BY_PLAIN", .glo "NEEDED_BY_THROUGH", .glo "WAY_IN_HIGH", .glo "WAY_INTO_LOW", .int "MANY_CELLS" 16, .free "all", .free "bool", .free "int", .free "isinstance", .free "len", .free "list", .free "range", .free "str", .free "tuple"] : List He.Fa) ++ ([.free "zip"] : List He.Fa)
def loose : List PySem.Str := (["WorldError", "BadKind", "BadWay", "OWN", "PLAIN", "THROUGH", "check_kind", "check_way", "NEEDED_BY_PLAIN", "NEEDED_BY_THROUGH", "WAY_IN_HIGH", "WAY_INTO_LOW", "MANY_CELLS", "holds", "unlike", "lacking", "own_row", "_law_start", "_law_drawn", "_law_same"] : List PySem.Str)
def hex : List (PySem.W.Frag → Bool) := [fun K => He.tupB K "OWN" [.str "say", .str "hear", .str "which", .str "room", .str "enter", .str "alarm", .str "stop"], fun K => He.tupB K "NEEDED_BY_PLAIN" [.str "say", .str "hear", .str "which", .str "enter", .str "alarm", .str "stop"], fun K => He.tupB K "NEEDED_BY_THROUGH" [.str "say", .str "hear"], fun K => He.tupB K "WAY_IN_HIGH" [.adr (itemAt "WAY_IN_HIGH" 0)], fun K => He.tupB K "WAY_INTO_LOW" [.adr (itemAt "WAY_INTO_LOW" 0), .adr (itemAt "WAY_INTO_LOW" 1), .adr (itemAt "WAY_INTO_LOW" 2)]]
abbrev R : PySem.W.OpenRow := PySem.W.OpenLaw.row PySem.Challenge.rw_guestworlds_k12_which_kinds_hold
abbrev hk : PySem.W.Hook := hookE 4 hfa hfn [] hex
def ob (s : PySem.W.SharedT) : AlE := obE 4 hfa hfn [] hex (HandSHeadRun.getT s)
theorem ob_eq (s : PySem.W.SharedT) : ob s = hk.obs s.abs := obE_eq _ _ _ _ _ (HandSHeadRun.getT_eq s)
theorem run (w : World) : HandSHeadRun.RunEq R (PySem.W.view R.prog [24]) hk ob 8000 loose w :=
  PySem.W.byRow2 "special-get-raises" (P := fun w => HandSHeadRun.RunEq R (PySem.W.view R.prog [24]) hk ob 8000 loose w) (fun w os => by kernel_rfl) (fun w os => by kernel_rfl) w
end G
namespace G
open PySem L2 C8
section
variable {P : Program} {w : World} {K : PySem.W.Frag} {mg : Str → Option Value} {base : Heap}
theorem rep1_len (v : V) (k : Nat) : (List.replicate k [v]).flatten.length = k := by
  induction k with
  | zero => rfl
  | succ k ih => rw [List.replicate_succ, List.flatten_cons, List.length_append, ih, List.length_singleton]; omega
theorem len_zero (l : List Str) : decide ((((l.map V.str).length : Nat) : Int) = 0) = decide (l = []) := by
  cases l with
  | nil => rfl
  | cons a r => rw [decide_eq_false (p := a :: r = []) (fun z => nomatch z), decide_eq_false (by rw [List.length_map, List.length_cons]; omega)]
abbrev s_holds : Stmt := top 16
theorem sc_holds : FnScope ["kind", "way"] ["kind", "way"] (fnScope s_holds) := fnScope_by (by decide +kernel)
theorem ok_holds {f : Addr} {fd : FuncData} (F : Def K mg "holds" s_holds f fd) (b : Binds K fd ["kind", "way"] []) (T : Txt K mg)
    (c_check_kind : Cal P w K mg base 1 "check_kind" spCheckKind []) (c_check_way : Cal P w K mg base 1 "check_way" spCheckWay []) (c_lacking : Cal P w K mg base 1 "lacking" spLacking []) : Cal P w K mg base 2 "holds" spHolds [] := by
  refine cal0 F b .nil sc_holds (fun vs H Q E h => ?_) (fun cdv A outer s H vs Q E hr h => ?_)
  · obtain ⟨a, bs, way, rfl, _⟩ := h
    rfl
  · obtain ⟨p, bs, way, rfl, hk, hw, q⟩ := h
    have nd := sc_holds.nd
    refine ⟨_, (pss_cons (ps_expr (pe_c c_check_kind hr (by first | decide | omega) (by rfl) (pa_cons (pv 0) pa_nil)))
      (pss_cons (ps_expr (pe_c c_check_way hr (by first | decide | omega) (by rfl) (pa_cons (pv 1) pa_nil)))
      (pss_one (ps_ret (pe_cmpR op_eq (pe_callB Y.cl_len (by rfl) T.n_len PySem.boot_len (pa_cons (pe_c c_lacking hr (by first | decide | omega) (by rfl) (pa_cons (pv 0) (pa_cons (pv 1) pa_nil))) pa_nil)) pe_int (nomark _)))))), ?_⟩
    walk_at "b"
    refine u_ckind hk fun H1 s1 => ?_
    walk_at "s"
    refine u_cway hw fun H2 s2 => ?_
    walk_at "s"
    refine u_lacking ((hk.mono s1).mono s2) hw fun l H3 s3 hn hl => ?_
    walk_at "s"
    rw [len_zero]
    exact q _ ((s1.trans s2).trans s3)
abbrev s_own_row : Stmt := top 19
theorem sc_own_row : FnScope ["word"] ["word"] (fnScope s_own_row) := fnScope_by (by decide +kernel)
theorem ok_own_row {f : Addr} {fd : FuncData} (F : Def K mg "own_row" s_own_row f fd) (b : Binds K fd ["word"] []) (T : Txt K mg) : Cal P w K mg base 1 "own_row" spOwnRow [] := by
  refine cal0 F b .nil sc_own_row (fun vs H Q E h => ?_) (fun cdv A outer s H vs Q E hr h => ?_)
  · obtain ⟨a, rfl, _⟩ := h
    rfl
  · obtain ⟨z, rfl, q⟩ := h
    have nd := sc_own_row.nd
    refine ⟨_, (pss_one (ps_ret (pe_ifExp (pt_cmpR op_eq (pv 0) pe_str (nomark _)) (pe_tup (pa_cons (pv 0) pa_nil)) (pe_tup (pa_cons (pv 0) (pa_cons pe_int pa_nil)))))), ?_⟩
    walk_at "b"
    refine Y.s_d2 (fun _ => ?_) (fun _ => ?_)
    all_goals
      walk_at "s"
      refine Y.s_new rfl fun p1 hp1 => ?_
      walk_at "s"
      exact q p1 _ _ (by walk_at "sm") hp1 upd_same (Nat.le_of_ble_eq_true rfl)
abbrev s_unlike : Stmt := top 17
theorem sc_unlike : FnScope ["kind", "way", "word", "before", "rows"] ["kind", "way"] (fnScope s_unlike) := fnScope_by (by decide +kernel)
theorem ok_unlike {f : Addr} {fd : FuncData} {n1 n2 : List V} (F : Def K mg "unlike" s_unlike f fd) (b : Binds K fd ["kind", "way"] []) (T : Txt K mg) (v_PLAIN : StrG mg "PLAIN" "plain") (v_MANY_CELLS : IntG mg "MANY_CELLS" 16)
    (t1 : TupG K mg "WAY_IN_HIGH" n1) (t2 : TupG K mg "WAY_INTO_LOW" n2) (l1 : n1.length ≤ 3) (l2 : n2.length ≤ 3)
    (c_holds : Cal P w K mg base 2 "holds" spHolds []) (c_own_row : Cal P w K mg base 1 "own_row" spOwnRow []) (c_lacking : Cal P w K mg base 1 "lacking" spLacking []) : Cal P w K mg base 3 "unlike" spUnlike [] := by
  obtain ⟨a1, v_WAY_IN_HIGH, q1⟩ := t1
  obtain ⟨a2, v_WAY_INTO_LOW, q2⟩ := t2
  refine cal0 F b .nil sc_unlike (fun vs H Q E h => ?_) (fun cdv A outer s H vs Q E hr h => ?_)
  · obtain ⟨a, bs, way, rfl, _⟩ := h
    rfl
  · obtain ⟨p, bs, way, rfl, hk, hw, q⟩ := h
    have nd := sc_unlike.nd
    refine ⟨_, (pss_cons (ps_if (pt_val (pe_c c_holds hr (by first | decide | omega) (by rfl) (pa_cons (pv 0) (pa_cons (pv 1) pa_nil))))
      (pss_one (ps_ret pe_non))
      pss_nil)
      (pss_cons (ps_set (i := 2) nd rfl (by first | exact Or.inl rfl | exact Or.inr rfl) (pe_ix ix_seq (pe_c c_lacking hr (by first | decide | omega) (by rfl) (pa_cons (pv 0) (pa_cons (pv 1) pa_nil))) pe_int (fun _ _ => rfl)))
      (pss_cons (ps_set (i := 3) nd rfl (by first | exact Or.inl rfl | exact Or.inr rfl) (pe_ifExp (pt_cmpR op_eq (pv 1) (pe_gc (by rfl) v_PLAIN) (nomark _)) (pe_gc (by rfl) v_WAY_IN_HIGH) (pe_gc (by rfl) v_WAY_INTO_LOW)))
      (pss_cons (ps_set (i := 4) nd rfl (by first | exact Or.inl rfl | exact Or.inr rfl) (pe_lst (StX.pa_star (pv 3) (pa_cons (pe_c c_own_row hr (by first | decide | omega) (by rfl) (pa_cons (pv 2) pa_nil)) pa_nil))))
      (pss_one (ps_ret (pe_tup (pa_cons (pe_op op_cat (pv 4) (pe_op op_rep (pe_lst (pa_cons pe_int pa_nil)) (pe_op op_sub (pe_gc (by rfl) v_MANY_CELLS) (pe_callB Y.cl_len (by rfl) T.n_len PySem.boot_len (pa_cons (pv 4) pa_nil))))) (pa_cons (pe_lst (pa_cons pe_int pa_nil)) (pa_cons (pe_callB Y.cl_len (by rfl) T.n_len PySem.boot_len (pa_cons (pv 4) pa_nil)) pa_nil)))))))))), ?_⟩
    walk_at "b"
    refine u_holds hk hw fun H1 s1 => ?_
    walk_at "s"
    refine Y.s_d2 (fun he => ?_) (fun he => ?_)
    · walk_at "s"
      exact q _ _ s1 (.inl ⟨decide_eq_true he, rfl⟩)
    · walk_at "s"
      refine u_lacking (hk.mono s1) hw fun l H2 s2 hn hl => ?_
      obtain ⟨z, r, ez⟩ : ∃ z r, lackL bs way = z :: r := by
        cases e : lackL bs way with
        | nil => exact absurd e he
        | cons z r => exact ⟨z, r, rfl⟩
      rw [ez] at hl
      walk_at "s"
      have s12 : Same H H2 := s1.trans s2
      refine Y.s_ixL (w := .str z) (SqL.of hl) (at_of (j := 0) rfl rfl) ?_
      walk_at "s"
      refine Y.s_d2 (fun _ => ?_) (fun _ => ?_)
      all_goals
        walk_at "s"
        refine Y.s_stq ?_
        walk_at "s"
        first
          | refine ⟨_, _, rfl, .inl (q1 _), ?_⟩
          | refine ⟨_, _, rfl, .inl (q2 _), ?_⟩
        walk_at "s"
        refine u_ownrow fun a xs H3 s3 na ha hx => ?_
        walk_at "s"
        refine ⟨by show _ ≤ sizeLine; rw [List.length_append, List.length_singleton]; exact Nat.le_trans (m := 4) (by omega) (by decide), fun pr hpr => ?_⟩
        walk_at "s"
        refine Y.s_new rfl fun p0 hp0 => ?_
        walk_at "s"
        have hL : ∀ n3 : List V, n3.length ≤ 3 → (n3 ++ [V.ref a]).length ≤ 4 ∧ 1 ≤ (n3 ++ [V.ref a]).length := fun n3 h3 => by rw [List.length_append, List.length_singleton]; omega
        have hL1 := hL _ l1
        have hL2 := hL _ l2
        refine Y.s_rep (xs := [V.int 0]) upd_same (by omega) (by omega) (Nat.le_trans (m := 1000) (by rw [List.length_singleton]; omega) (by decide)) fun p9 hp9 => ?_
        refine Y.s_cat (by walk_at "hp") (by walk_at "hp") (Nat.le_trans (m := 1000) (by rw [rep1_len]; omega) (by decide)) fun p10 hp10 => ?_
        walk_at "s"
        refine Y.s_new rfl fun p11 hp11 => ?_
        walk_at "s"
        refine Y.s_new rfl fun p12 hp12 => ?_
        walk_at "s"
        exact q _ _ (by walk_at "sm") (.inr ⟨decide_eq_false he, Y.nn_ref⟩)
end
end G
namespace G
open PySem L2 C8
def spLaw (K : PySem.W.Frag) : Sp := fun vs H Q _ => ∃ (a : Addr) (ns : List Int), vs = [.ref a] ∧ Lk K H a (ns.map V.int) ∧ ns.length ≤ 63 ∧ ∀ H', Q (.bl true) H'
theorem eqv_plain : ∀ b0 b1 b2 b3 b4 b5 b6 : Bool, PyData.eqv (.list ([b0, b1, b2, b4, b5, b6].map .bool)) (.list ((List.replicate 6 true).map .bool)) = decide (lackL [b0, b1, b2, b3, b4, b5, b6] "plain" = []) := by decide +kernel
theorem and_thr : ∀ b0 b1 b2 b3 b4 b5 b6 : Bool, (b0 && b1) = decide (lackL [b0, b1, b2, b3, b4, b5, b6] "through" = []) := by decide +kernel
section
variable {P : Program} {w : World} {K : PySem.W.Frag} {mg : Str → Option Value} {base : Heap}
abbrev s_law : Stmt := top 24
theorem sc_law : FnScope ["_law_script", "_law_state", "_law_many", "_law_number", "_law_kind", "_law_plain", "_law_way", "_law_due", "_law_k", "_law_power"] ["_law_script"] (fnScope s_law) := fnScope_by (by decide +kernel)
theorem ok_law {f : Addr} {fd : FuncData} (F : Def K mg "law" s_law f fd) (T : Txt K mg)
    (c__law_start : Cal P w K mg base 1 "_law_start" (spStart K) []) (c__law_drawn : Cal P w K mg base 1 "_law_drawn" (spDrawn K) []) (c__law_same : Cal P w K mg base 3 "_law_same" (spSame K 2) [])
    (c_holds : Cal P w K mg base 2 "holds" spHolds []) (c_unlike : Cal P w K mg base 3 "unlike" spUnlike []) : FnOk P w K mg base C8.CX0 40 f fd ["_law_script"] (spLaw K) := by
  refine fn0 F.fn sc_law (fun vs H Q E h => ?_) (fun cdv A outer s H vs Q E hr h => ?_)
  · obtain ⟨a, ns, rfl, _⟩ := h
    rfl
  · obtain ⟨a, ns, rfl, hs, _, q⟩ := h
    have nd := sc_law.nd
    refine ⟨_, (pss_cons (ps_set (i := 1) nd rfl (by first | exact Or.inl rfl | exact Or.inr rfl) (pe_c c__law_start hr (by first | decide | omega) (by rfl) (pa_cons (pv 0) pa_nil)))
      (pss_cons (ps_set (i := 2) nd rfl (by first | exact Or.inl rfl | exact Or.inr rfl) (pe_c c__law_drawn hr (by first | decide | omega) (by rfl) (pa_cons (pv 1) (pa_cons pe_int pa_nil))))
      (pss_cons (ps_for PassesOwn.never rfl (pi_list (pe_lc (own := [("_law_k", 8)]) (g := gName 8) (by rfl) nd (pi_range1 rfl T.n_range (pa_cons pe_int pa_nil)) (blkOk_by (N := ["_law_script", "_law_state", "_law_many", "_law_number", "_law_kind", "_law_plain", "_law_way", "_law_due", "_law_k", "_law_power"]) (sc := fnScope s_law) (by decide +kernel)) (fun _ _ _ _ _ => (pg_name (i := 8) nd rfl (by first | exact Or.inl rfl | exact Or.inr rfl))) (fun _ _ _ _ _ => pts_nil) (fun _ _ _ _ _ => (pe_op op_mod (pe_op op_add (pv 2) (pe_op op_mul pe_int (pv 8))) pe_int)))) (pg_name (i := 3) nd rfl (by first | exact Or.inl rfl | exact Or.inr rfl))
      (pss_cons (ps_set (i := 4) nd rfl (by first | exact Or.inl rfl | exact Or.inr rfl) (pe_callTy Y.cl_tuple (by rfl) T.n_tuple (by decide +kernel) (pa_cons (pe_lc (own := [("_law_power", 9)]) (g := gName 9) (by rfl) nd (pi_tup (pe_tup (pa_cons pe_int (pa_cons pe_int (pa_cons pe_int (pa_cons pe_int (pa_cons pe_int (pa_cons pe_int (pa_cons pe_int pa_nil))))))))) (blkOk_by (N := ["_law_script", "_law_state", "_law_many", "_law_number", "_law_kind", "_law_plain", "_law_way", "_law_due", "_law_k", "_law_power"]) (sc := fnScope s_law) (by decide +kernel)) (fun _ _ _ _ _ => (pg_name (i := 9) nd rfl (by first | exact Or.inl rfl | exact Or.inr rfl))) (fun _ _ _ _ _ => pts_nil) (fun _ _ _ _ _ => (pe_cmpR op_eq (pe_op op_mod (pe_op op_fdivN (pv 3) (pv 9)) pe_int) pe_int (nomark _)))) pa_nil)))
      (pss_cons (ps_set (i := 5) nd rfl (by first | exact Or.inl rfl | exact Or.inr rfl) (pe_cmpR (op_eqD hr.units) (pe_lc (own := [("_law_k", 8)]) (g := gName 8) (by rfl) nd (pi_range1 rfl T.n_range (pa_cons pe_int pa_nil)) (blkOk_by (N := ["_law_script", "_law_state", "_law_many", "_law_number", "_law_kind", "_law_plain", "_law_way", "_law_due", "_law_k", "_law_power"]) (sc := fnScope s_law) (by decide +kernel)) (fun _ _ _ _ _ => (pg_name (i := 8) nd rfl (by first | exact Or.inl rfl | exact Or.inr rfl))) (fun _ _ _ _ _ => (pts_one (pt_cmpR op_ne (pv 8) pe_int (nomark _)))) (fun _ _ _ _ _ => (pe_ix (show IxR _ (rIxT K) from ix_tup) (pv 4) (pv 8) (fun _ _ => rfl)))) (pe_op op_rep (pe_lst (pa_cons pe_bl pa_nil)) pe_int) (nomark _)))
      (pss_one (ps_for PassesOwn.never rfl (pi_list (pe_lst (pa_cons (pe_tup (pa_cons pe_str (pa_cons (pv 5) pa_nil))) (pa_cons (pe_tup (pa_cons pe_str (pa_cons (pe_and (pe_ix ix_tup (pv 4) pe_int (fun _ _ => rfl)) (pe_one (pe_ix ix_tup (pv 4) pe_int (fun _ _ => rfl)))) pa_nil))) pa_nil)))) (pg_tup (by rfl) (pgs_cons (pg_name (i := 6) nd rfl (by first | exact Or.inl rfl | exact Or.inr rfl)) (pgs_cons (pg_name (i := 7) nd rfl (by first | exact Or.inl rfl | exact Or.inr rfl)) pgs_nil)))
      (pss_one (ps_if (PW.pt (pw_or (pt_not (pt_val (pe_c c__law_same hr (by first | decide | omega) (by rfl) (pa_cons (pe_c c_holds hr (by first | decide | omega) (by rfl) (pa_cons (pv 4) (pa_cons (pv 6) pa_nil))) (pa_cons (pv 7) pa_nil))))) (pw_or1 (pt_cmpR op_ne (pe_cmpR op_isN1 (pe_c c_unlike hr (by first | decide | omega) (by rfl) (pa_cons (pv 4) (pa_cons (pv 6) pa_nil))) pe_non (nomark _)) (pv 7) (nomark _)))))
      (pss_one (ps_ret pe_bl))
      pss_nil)))))))
      (pss_one (ps_ret pe_bl))))), ?_⟩
    walk_at "b"
    refine ⟨a, ns, rfl, hs, fun st H1 hst s1 S1 => ?_⟩
    walk_at "s"
    refine u_drawn S1 (by decide) (by decide) fun m H2 m0 m1 f2 S2 => ?_
    walk_at "s"
    refine Y.s_lcR (by decide) (by decide) fun D hD => ⟨fun i acc Hx => ∃ ks : List Int, acc = ks.map V.int, ⟨[], rfl⟩, ?_, ?_⟩
    · rintro i acc Hx hi hl2 hD2 ⟨ks, rfl⟩
      walk_at "s"
      refine Y.s_rI (.inl ⟨by omega, by omega⟩) ?_
      walk_at "s"
      exact Y.s_lcE hD2 hl2 (by omega) ⟨ks ++ [_], by rw [List.map_append]; rfl⟩
    rintro acc Hx hD2 hl2 ⟨ks, rfl⟩
    refine Y.s_forL (SqL.of hD2) (fun i σ H' => Same Hx H' ∧ ∃ v3 v4 v5 v6 v7, σ = [some (.ref a), some (.ref st), some (.int m), v3, v4, v5, v6, v7, none, none]) ⟨fun _ _ e => e, _, _, _, _, _, rfl⟩ (fun i σ H' ⟨e, _⟩ => SqL.of (e _ _ hD2)) ?_ ?_
    · rintro i x σ H3 hi ⟨s3, v3, v4, v5, v6, v7, rfl⟩
      obtain ⟨n, rfl⟩ : ∃ u, x = V.int u := by
        rw [List.getElem?_map] at hi
        cases e : ks[i]? with
        | none => rw [e] at hi; cases hi
        | some u => rw [e] at hi; exact ⟨u, (Option.some.inj hi).symm⟩
      walk_at "s"
      refine Y.s_new rfl fun pt hpt => ?_
      walk_at "s"
      refine Y.s_lcT (SqT.of upd_same) fun D4 hD4 => ⟨fun i acc Hx => Same (upd H3 pt (.tup [.int 1, .int 2, .int 4, .int 8, .int 16, .int 32, .int 64])) Hx ∧ ∃ bs : List Bool, acc = bs.map V.bl ∧ bs.length = i, ?_, ?_, ?_, ?_⟩
      · exact ⟨Y.same_new hD4 (Same.refl _), [], rfl, rfl⟩
      · rintro i acc Hx _ ⟨sx, _⟩
        exact SqT.of (sx _ _ upd_same)
      · rintro i x acc Hx hx hl2 hD2 ⟨sx, bs, rfl, el⟩
        have hall : ∀ v ∈ [V.int 1, V.int 2, V.int 4, V.int 8, V.int 16, V.int 32, V.int 64], ∃ c, v = V.int c ∧ 0 < c ∧ c ≤ 64 := by
          intro v hv
          simp only [List.mem_cons, List.not_mem_nil, or_false] at hv
          rcases hv with rfl | rfl | rfl | rfl | rfl | rfl | rfl <;> exact ⟨_, rfl, by decide, by decide⟩
        obtain ⟨c, rfl, c0, c1⟩ := hall x (List.mem_of_getElem? hx)
        have hi7 : i < 7 := (List.getElem?_eq_some_iff.mp hx).1
        walk_at "s"
        refine Y.s_rI ⟨by omega, by omega⟩ ?_
        walk_at "s"
        exact Y.s_lcE hD2 hl2 (by omega) ⟨Y.same_own hD4 sx, bs ++ [_], by rw [List.map_append]; rfl, by rw [List.length_append, el]; rfl⟩
      rintro acc H5 hD5 hl5 ⟨s5, bs, rfl, el⟩
      have s5' : Same H3 H5 := Y.same_tr s5 (Y.same_new hpt (Same.refl _))
      walk_at "s"
      intro kp hkp
      obtain ⟨b0, b1, b2, b3, b4, b5, b6, rfl⟩ : ∃ b0 b1 b2 b3 b4 b5 b6, bs = [b0, b1, b2, b3, b4, b5, b6] := by
        match bs, el with
        | [b0, b1, b2, b3, b4, b5, b6], _ => exact ⟨_, _, _, _, _, _, _, rfl⟩
      refine Y.fgt (fun H' => Same H3 H' ∧ KindAt H' kp [b0, b1, b2, b3, b4, b5, b6]) ⟨Y.same_new hkp s5', upd_same, rfl⟩ fun H6 ⟨s6, k6⟩ => ?_
      walk_at "s"
      have kq : SqT K H6 kp ([b0, b1, b2, b3, b4, b5, b6].map V.bl) := SqT.of k6.1
      refine Y.s_lcR (by decide) (by decide) fun D7 hD7 => ⟨fun i acc Hy => Same H6 Hy ∧ acc = (((List.range i).filter (fun k => decide (k ≠ 3))).map (fun k => [b0, b1, b2, b3, b4, b5, b6].getD k false)).map V.bl, ?_, ?_, ?_⟩
      · exact ⟨Y.same_new hD7 (Same.refl _), rfl⟩
      · rintro i acc Hy hi7 hl7 hDy ⟨sy, rfl⟩
        walk_at "s"
        rw [Int.zero_add]
        refine Y.s_dN2 (fun h3 => ?_) (fun h3 => ?_)
        · refine Y.s_lcN hDy hl7 ⟨sy, ?_⟩
          rw [List.range_succ, List.filter_append, List.filter_cons_of_neg (by simp; omega), List.filter_nil, List.append_nil]
        · walk_at "s"
          refine Y.s_ixT' (SqT.of (sy _ _ k6.1)) (at_of (j := i) (v := .bl ([b0, b1, b2, b3, b4, b5, b6].getD i false)) (by omega) ?_) ?_
          · rw [List.getElem?_map, List.getD_eq_getElem?_getD, List.getElem?_eq_getElem (by show i < 7; omega)]; rfl
          refine Y.s_lcE hDy hl7 (by omega) ⟨Y.same_own hD7 sy, ?_⟩
          rw [List.range_succ, List.filter_append, List.filter_cons_of_pos (by simp; omega), List.filter_nil, List.map_append, List.map_append]
          rfl
      rintro acc H7 hDy hl7 ⟨s7, rfl⟩
      have e7 : (((List.range (Int.toNat 7)).filter (fun k => decide (k ≠ 3))).map (fun k => [b0, b1, b2, b3, b4, b5, b6].getD k false)) = [b0, b1, b2, b4, b5, b6] := rfl
      rw [e7] at hDy
      walk_at "s"
      refine Y.s_new rfl fun p8 hp8 => ?_
      walk_at "s"
      refine Y.s_rep (xs := [V.bl true]) upd_same (by decide) (by decide) (Nat.le_trans (m := 6) (by decide) (by decide)) fun p9 hp9 => ?_
      refine Y.s_eqBools (as := [b0, b1, b2, b4, b5, b6]) (bs := List.replicate 6 true) (by walk_at "sq") (SqL.of upd_same) rfl rfl (eqv_plain b0 b1 b2 b3 b4 b5 b6) ?_
      walk_at "s"
      refine Y.s_new rfl fun p10 hp10 => ?_
      walk_at "s"
      have m8 : ∀ {o3 : HO}, Same H6 (upd (upd (upd H7 p8 (HO.lst [V.bl true])) p9 (HO.lst (List.replicate (Int.toNat 6) [V.bl true]).flatten)) p10 o3) := Y.same_new hp10 (Y.same_new hp9 (Y.same_new hp8 s7))
      refine Y.s_ixT' (w := .bl b0) (SqT.of (k6.mono m8).1) rfl ?_
      refine ⟨b0, rfl, Y.s_andVV (b1 := b1) (fun Q' q' => ?_) ?_⟩
      · walk_at "s"
        exact Y.s_ixT' (w := .bl b1) (SqT.of (k6.mono m8).1) rfl q'
      rw [and_thr b0 b1 b2 b3 b4 b5 b6]
      walk_at "s"
      refine Y.s_new rfl fun p11 hp11 => ?_
      walk_at "s"
      refine Y.s_new rfl fun p12 hp12 => ?_
      refine Y.fgt (fun H' => Same H6 H' ∧ H' p10 = some (.tup [.str "plain", .bl (decide (lackL [b0, b1, b2, b3, b4, b5, b6] "plain" = []))]) ∧ H' p11 = some (.tup [.str "through", .bl (decide (lackL [b0, b1, b2, b3, b4, b5, b6] "through" = []))]) ∧ H' p12 = some (.lst [.ref p10, .ref p11]))
        ⟨Y.same_new hp12 (Y.same_new hp11 m8), by walk_at "hp", by walk_at "hp", upd_same⟩ fun H9 ⟨s9, e10, e11, e12⟩ => ?_
      refine Y.s_forL (SqL.of e12) (fun i σ H' => Same H9 H' ∧ ∃ v5 v6 v7, σ = [some (.ref a), some (.ref st), some (.int m), some (.int n), some (.ref kp), v5, v6, v7, none, none]) ⟨Same.refl _, _, _, _, rfl⟩ (fun i σ H' ⟨e, _⟩ => SqL.of (e _ _ e12)) ?_ ?_
      · rintro i x σ Hz hx ⟨sz, v5, v6, v7, rfl⟩
        obtain ⟨pw, way, rfl, hw, ew⟩ : ∃ pw way, x = .ref pw ∧ WayIs way ∧ Hz pw = some (.tup [.str way, .bl (decide (lackL [b0, b1, b2, b3, b4, b5, b6] way = []))]) := by
          match i, hx with
          | 0, hx => cases hx; exact ⟨_, _, rfl, .inl rfl, sz _ _ e10⟩
          | 1, hx => cases hx; exact ⟨_, _, rfl, .inr rfl, sz _ _ e11⟩
        have kz := (k6.mono s9).mono sz
        refine Y.s_gTup (SqT.of ew) rfl ?_
        refine Y.s_gCons ?_
        walk_at "s"
        refine Y.s_gCons ?_
        walk_at "s"
        refine Y.s_gNil ?_
        walk_at "s"
        refine u_holds kz hw fun HA sA => ?_
        walk_at "s"
        refine ⟨_, _, rfl, .inl ⟨rfl, rfl⟩, fun HB sB => ?_⟩
        walk_at "s"
        refine u_unlike ((kz.mono sA).mono sB) hw fun v HC sC hv => ?_
        walk_at "s"
        refine Y.s_isNb hv ?_
        walk_at "s"
        refine Y.s_dNT rfl ?_
        walk_at "s"
        exact ⟨((sz.trans sA).trans sB).trans sC, _, _, _, rfl⟩
      · rintro σ Hz ⟨sz, v5, v6, v7, rfl⟩
        walk_at "s"
        exact ⟨((s3.trans s6).trans s9).trans sz, _, _, _, _, _, rfl⟩
    · rintro σ H' ⟨s3, v3, v4, v5, v6, v7, rfl⟩
      walk_at "s"
      exact q _
end
end G
namespace G
open PySem L2 C8
theorem def_of {K : PySem.W.Frag} {mg : Str → Option Value} {x : Str} {st : Stmt} {f : Addr} {fd : FuncData} (F : FunD K x x (fnArgs st) (fnBody st) (fnScope st) [] [] f fd) (g : mg x = some (.ref f)) : Def K mg x st f fd := by
  obtain ⟨⟨oc, od, dV, kV, doc, pm, an, cdv, ct, osl, h1, h2, h3, _, _⟩, kp⟩ := F
  exact ⟨⟨oc, od, dV, kV, doc, pm, an, cdv, ct, osl, h1, h2, h3⟩, g, kp⟩
theorem facts {P : Program} {w w2 : World} {K : PySem.W.Frag} {h : Heap} {mg : Str → Option Value} {f : Addr} (X : K.In h) (G : h.Ns mainGlobals mg) (hlaw : mg ("law" : Str) = some (.ref f)) (cE : SaysE hfa hfn [] hex w2 K) :
    ∃ fd : FuncData, (∀ (s : Shared) (v : Value), BindsTo s fd ⟨[v], []⟩ [("_law_script", v)]) ∧ ∀ base : Heap, K.In base → base.Ns mainGlobals mg → FnOk P w K mg base C8.CX0 40 f fd ["_law_script"] (spLaw K) := by
  have c := cE.t.d
  have ce := cE.ex
  obtain ⟨t_PLAIN, k_PLAIN⟩ := He.str_ok X G (c.fact 14 (f := .str "PLAIN" "plain") rfl)
  have v_PLAIN : StrG mg "PLAIN" "plain" := ⟨_, k_PLAIN, t_PLAIN, rfl⟩
  obtain ⟨t_THROUGH, k_THROUGH⟩ := He.str_ok X G (c.fact 15 (f := .str "THROUGH" "through") rfl)
  have v_THROUGH : StrG mg "THROUGH" "through" := ⟨_, k_THROUGH, t_THROUGH, rfl⟩
  obtain ⟨t_MANY_CELLS, k_MANY_CELLS⟩ := He.int_ok X G (c.fact 20 (f := .int "MANY_CELLS" 16) rfl)
  have v_MANY_CELLS : IntG mg "MANY_CELLS" 16 := ⟨_, k_MANY_CELLS, t_MANY_CELLS, rfl⟩
  have t_OWN : TupG K mg "OWN" _ := ⟨_, ⟨_, He.glo_ok X G (c.fact 13 (f := .glo "OWN") rfl), rfl⟩, He.tupB_ok (x := "OWN") (vs := [.str "say", .str "hear", .str "which", .str "room", .str "enter", .str "alarm", .str "stop"]) (ex_at 0 ce rfl)⟩
  have t_NEEDED_BY_PLAIN : TupG K mg "NEEDED_BY_PLAIN" _ := ⟨_, ⟨_, He.glo_ok X G (c.fact 16 (f := .glo "NEEDED_BY_PLAIN") rfl), rfl⟩, He.tupB_ok (x := "NEEDED_BY_PLAIN") (vs := [.str "say", .str "hear", .str "which", .str "enter", .str "alarm", .str "stop"]) (ex_at 1 ce rfl)⟩
  have t_NEEDED_BY_THROUGH : TupG K mg "NEEDED_BY_THROUGH" _ := ⟨_, ⟨_, He.glo_ok X G (c.fact 17 (f := .glo "NEEDED_BY_THROUGH") rfl), rfl⟩, He.tupB_ok (x := "NEEDED_BY_THROUGH") (vs := [.str "say", .str "hear"]) (ex_at 2 ce rfl)⟩
  have t_WAY_IN_HIGH : TupG K mg "WAY_IN_HIGH" _ := ⟨_, ⟨_, He.glo_ok X G (c.fact 18 (f := .glo "WAY_IN_HIGH") rfl), rfl⟩, He.tupB_ok (x := "WAY_IN_HIGH") (vs := [.adr (itemAt "WAY_IN_HIGH" 0)]) (ex_at 3 ce rfl)⟩
  have t_WAY_INTO_LOW : TupG K mg "WAY_INTO_LOW" _ := ⟨_, ⟨_, He.glo_ok X G (c.fact 19 (f := .glo "WAY_INTO_LOW") rfl), rfl⟩, He.tupB_ok (x := "WAY_INTO_LOW") (vs := [.adr (itemAt "WAY_INTO_LOW" 0), .adr (itemAt "WAY_INTO_LOW" 1), .adr (itemAt "WAY_INTO_LOW" 2)]) (ex_at 4 ce rfl)⟩
  obtain ⟨fd_check_kind, F_check_kind⟩ := c.def_ 0 (d := d_check_kind) rfl
  have g_check_kind := He.glo_ok X G (c.fact 3 (f := .glo "check_kind") rfl)
  have D_check_kind := def_of (x := "check_kind") (st := top 8) F_check_kind g_check_kind
  have b_check_kind : Binds K fd_check_kind ["kind"] [] := F_check_kind.bindsN fun _ _ _ _ _ _ us hl => match us, hl with | [_], _ => rfl
  obtain ⟨fd_check_way, F_check_way⟩ := c.def_ 1 (d := d_check_way) rfl
  have g_check_way := He.glo_ok X G (c.fact 4 (f := .glo "check_way") rfl)
  have D_check_way := def_of (x := "check_way") (st := top 9) F_check_way g_check_way
  have b_check_way : Binds K fd_check_way ["way"] [] := F_check_way.bindsN fun _ _ _ _ _ _ us hl => match us, hl with | [_], _ => rfl
  obtain ⟨fd_holds, F_holds⟩ := c.def_ 2 (d := d_holds) rfl
  have g_holds := He.glo_ok X G (c.fact 5 (f := .glo "holds") rfl)
  have D_holds := def_of (x := "holds") (st := top 16) F_holds g_holds
  have b_holds : Binds K fd_holds ["kind", "way"] [] := F_holds.bindsN fun _ _ _ _ _ _ us hl => match us, hl with | [_, _], _ => rfl
  obtain ⟨fd_unlike, F_unlike⟩ := c.def_ 3 (d := d_unlike) rfl
  have g_unlike := He.glo_ok X G (c.fact 6 (f := .glo "unlike") rfl)
  have D_unlike := def_of (x := "unlike") (st := top 17) F_unlike g_unlike
  have b_unlike : Binds K fd_unlike ["kind", "way"] [] := F_unlike.bindsN fun _ _ _ _ _ _ us hl => match us, hl with | [_, _], _ => rfl
  obtain ⟨fd_lacking, F_lacking⟩ := c.def_ 4 (d := d_lacking) rfl
  have g_lacking := He.glo_ok X G (c.fact 7 (f := .glo "lacking") rfl)
  have D_lacking := def_of (x := "lacking") (st := top 18) F_lacking g_lacking
  have b_lacking : Binds K fd_lacking ["kind", "way"] [] := F_lacking.bindsN fun _ _ _ _ _ _ us hl => match us, hl with | [_, _], _ => rfl
  obtain ⟨fd_own_row, F_own_row⟩ := c.def_ 5 (d := d_own_row) rfl
  have g_own_row := He.glo_ok X G (c.fact 8 (f := .glo "own_row") rfl)
  have D_own_row := def_of (x := "own_row") (st := top 19) F_own_row g_own_row
  have b_own_row : Binds K fd_own_row ["word"] [] := F_own_row.bindsN fun _ _ _ _ _ _ us hl => match us, hl with | [_], _ => rfl
  obtain ⟨fd__law_start, F__law_start⟩ := c.def_ 6 (d := d__law_start) rfl
  have g__law_start := He.glo_ok X G (c.fact 9 (f := .glo "_law_start") rfl)
  have D__law_start := def_of (x := "_law_start") (st := top 21) F__law_start g__law_start
  have b__law_start : Binds K fd__law_start ["_law_script"] [] := F__law_start.bindsN fun _ _ _ _ _ _ us hl => match us, hl with | [_], _ => rfl
  obtain ⟨fd__law_drawn, F__law_drawn⟩ := c.def_ 7 (d := d__law_drawn) rfl
  have g__law_drawn := He.glo_ok X G (c.fact 10 (f := .glo "_law_drawn") rfl)
  have D__law_drawn := def_of (x := "_law_drawn") (st := top 22) F__law_drawn g__law_drawn
  have b__law_drawn : Binds K fd__law_drawn ["_law_state", "_law_many"] [] := F__law_drawn.bindsN fun _ _ _ _ _ _ us hl => match us, hl with | [_, _], _ => rfl
  obtain ⟨fd__law_same, F__law_same⟩ := c.def_ 8 (d := d__law_same) rfl
  have g__law_same := He.glo_ok X G (c.fact 11 (f := .glo "_law_same") rfl)
  have D__law_same := def_of (x := "_law_same") (st := top 23) F__law_same g__law_same
  have b__law_same : Binds K fd__law_same ["_law_found", "_law_due"] [] := F__law_same.bindsN fun _ _ _ _ _ _ us hl => match us, hl with | [_, _], _ => rfl
  obtain ⟨fd_law, F_law⟩ := c.def_ 9 (d := d_law) rfl
  have g_law := He.glo_ok X G (c.fact 12 (f := .glo "law") rfl)
  have D_law := def_of (x := "law") (st := top 24) F_law g_law
  have b_law : Binds K fd_law ["_law_script"] [] := F_law.bindsN fun _ _ _ _ _ _ us hl => match us, hl with | [_], _ => rfl
  have T : Txt K mg := ⟨He.free_ok X G (c.fact 21 (f := .free "all") rfl), He.free_ok X G (c.fact 22 (f := .free "bool") rfl), He.free_ok X G (c.fact 23 (f := .free "int") rfl), He.free_ok X G (c.fact 24 (f := .free "isinstance") rfl), He.free_ok X G (c.fact 25 (f := .free "len") rfl), He.free_ok X G (c.fact 26 (f := .free "list") rfl), He.free_ok X G (c.fact 27 (f := .free "range") rfl), He.free_ok X G (c.fact 28 (f := .free "str") rfl), He.free_ok X G (c.fact 29 (f := .free "tuple") rfl), He.free_ok X G (c.fact 30 (f := .free "zip") rfl)⟩
  have e := hlaw.symm.trans g_law
  cases e
  have b := FunD.bindsA (ps := ["_law_script"]) F_law fun _ _ _ _ _ _ us hl => match us, hl with | [_], _ => rfl
  refine ⟨fd_law, fun s v => b s [v] rfl, fun base _ _ => ?_⟩
  have c__law_drawn := ok__law_drawn (P := P) (w := w) (base := base) D__law_drawn b__law_drawn T
  have c__law_start := ok__law_start (P := P) (w := w) (base := base) D__law_start b__law_start T
  have c__law_same := ok__law_same (P := P) (w := w) (base := base) D__law_same b__law_same T
  have c_check_kind := ok_check_kind (P := P) (w := w) (base := base) D_check_kind b_check_kind T t_OWN
  have c_check_way := ok_check_way (P := P) (w := w) (base := base) D_check_way b_check_way T v_PLAIN v_THROUGH
  have c_lacking := ok_lacking (P := P) (w := w) (base := base) D_lacking b_lacking T v_PLAIN t_OWN t_NEEDED_BY_PLAIN t_NEEDED_BY_THROUGH
  have c_holds := ok_holds (P := P) (w := w) (base := base) D_holds b_holds T c_check_kind c_check_way c_lacking
  have c_own_row := ok_own_row (P := P) (w := w) (base := base) D_own_row b_own_row T
  have c_unlike := ok_unlike (P := P) (w := w) (base := base) D_unlike b_unlike T v_PLAIN v_MANY_CELLS t_WAY_IN_HIGH t_WAY_INTO_LOW (Nat.le_of_ble_eq_true rfl) (Nat.le_of_ble_eq_true rfl) c_holds c_own_row c_lacking
  exact ok_law (P := P) (w := w) (base := base) D_law T c__law_start c__law_drawn (c__law_same 2) c_holds c_unlike
end G
open PySem PySem.W PySem.Calls PyProof.Rows
set_option maxHeartbeats 0 in
theorem PySem.Challenge.cw_guestworlds_k12_which_kinds_hold_holds : PySem.Challenge.rw_guestworlds_k12_which_kinds_hold.Holds := by
  w_on; o_law
  refine HandSHeadRun.head_any (r := OpenLaw.row PySem.Challenge.rw_guestworlds_k12_which_kinds_hold) (q := view (OpenLaw.row PySem.Challenge.rw_guestworlds_k12_which_kinds_hold).prog [24]) (H := G.hk) (ob := G.ob) (M := 8000) (loose := G.loose) (d := HandSHeadRun.topDef (OpenLaw.row PySem.Challenge.rw_guestworlds_k12_which_kinds_hold).prog 24) (kwd := []) G.ob_eq
    (by kernel_rfl) (fun s => by kernel_rfl) G.run (by kernel_rfl) (by kernel_rfl) (by kernel_rfl) (by rfl) (by first | assumption | decide +kernel) (by decide +kernel) ⟨rfl, rfl, rfl, rfl, rfl, by decide +kernel⟩ ?hw ?hc
  case hw => w_witness2
  case hc =>
    refine L2.walk_ofE (l := PySem.Challenge.rw_guestworlds_k12_which_kinds_hold) (n := 63) (k := 40) (x := "_law_script") (CX := C8.CX0) rfl (by decide) (by kernel_rfl) ⟨rfl, by decide, by decide⟩ ?F (fun _ _ _ _ z => z)
    intro w mg fa h Y N hmg0
    obtain ⟨K, KX, c⟩ := Y
    have hmg : mg ("law" : PySem.Str) = some (.ref fa) := by
      have e : (HandSHeadRun.topDef (OpenLaw.row PySem.Challenge.rw_guestworlds_k12_which_kinds_hold).prog 24).name = ("law" : PySem.Str) := by kernel_rfl
      rw [← e]
      exact hmg0
    obtain ⟨fd, hb, hF⟩ := G.facts (P := (PySem.Challenge.rw_guestworlds_k12_which_kinds_hold).prog) (w := w) KX N hmg c
    refine ⟨K, fd, G.spLaw K, KX, hb, fun H a ns hl hO hS => ⟨a, ns, rfl, ?_, hl, fun _ => rfl⟩, hF⟩
    rcases hS with (h1 | ⟨o, h1⟩) | h1
    · rcases hO a with h2 | ⟨o, ys, h2⟩
      · rw [h1] at h2; cases h2
      · rw [h1] at h2; cases h2
    · exact .inl ⟨o, h1⟩
    · exact .inr fun _ => .inr h1
