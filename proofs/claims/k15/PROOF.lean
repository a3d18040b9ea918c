import PyProof.Rows.All
import Wide.All
import OpenK.AllK
import Wide.FinOn
import HandS.ForMost
import HandS.Codes
import HandS.Star
import HandS.IsInst
import HandS.TupMul
import HandS.TupAny
import HandS.NoneIn
import HandS.Conv
import HandS.Flow
import HandS.Style
import HandS.Deep
import HandS.Steps
import KE.KStateDown
import HandS.More
import HandS.Defaults
import HandS.Head0
import HandS.Head1
import HandS.Head2
import HandS.HeadEnd
import HandS.HeadHook1
import HandS.HeadHook2
import HandS.HeadHook3
import HandS.Zip
import HandS.Walk
import HandS.RaiseMore
import PySem.Challenge.RW_guestworlds_k15_written_and_read
set_option linter.all false
set_option Elab.async false
set_option maxRecDepth 100000
set_option maxHeartbeats 3000000
/-! ### steps: a reading goes on by one word -/
namespace Y
open PySem L2 C8
section
variable {σ : L2.St} {H : Hp} {Q : VK} {v x y : V} {i j : Int} {n k : Nat} {ta tb tc te tv : TE} {t u : TT} {A : TA} {s1 s2 : TS} {D : Ends} {r : R2}
theorem s_var (h : σ[n]? = some (some v)) (q : Q v H) : tVar n σ H Q := ⟨v, h, q⟩
theorem s_c (q : Q v H) : tC v σ H Q := q
theorem s_op (q : ta σ H fun x H1 => tb σ H1 fun y H2 => r x y H2 Q) : tOp r ta tb σ H Q := q
theorem s_un {r : V → Hp → VK → Prop} (q : ta σ H fun x H1 => r x H1 Q) : tUn r ta σ H Q := q
theorem s_rI0 {g : Int → Int → V} (q : Q (g i j) H) : rI0 g (.int i) (.int j) H Q := ⟨i, j, rfl, rfl, q⟩
theorem s_rI {C : Int → Int → Prop} {g : Int → Int → V} (c : C i j) (q : Q (g i j) H) : rI C g (.int i) (.int j) H Q := ⟨i, j, rfl, rfl, c, q⟩
theorem s_rU {g : Int → V} (q : Q (g i) H) : rU g (.int i) H Q := ⟨i, rfl, q⟩
theorem s_eq (h : scal x y = true) (q : Q (.bl (decide (x = y))) H) : rEq x y H Q := ⟨h, q⟩
theorem s_ne (h : scal x y = true) (q : Q (.bl (!decide (x = y))) H) : rNe x y H Q := ⟨h, q⟩
theorem s_eqI (q : Q (.bl (decide (i = j))) H) : rEq (.int i) (.int j) H Q := ⟨rfl, by
  have e : decide (V.int i = V.int j) = decide (i = j) := by
    by_cases h : i = j
    · subst h; simp
    · rw [decide_eq_false h, decide_eq_false (fun z => h (V.int.inj z))]
  rw [e]; exact q⟩
theorem s_neI (q : Q (.bl (!decide (i = j))) H) : rNe (.int i) (.int j) H Q := ⟨rfl, by
  have e : decide (V.int i = V.int j) = decide (i = j) := by
    by_cases h : i = j
    · subst h; simp
    · rw [decide_eq_false h, decide_eq_false (fun z => h (V.int.inj z))]
  rw [e]; exact q⟩
theorem s_eqS {a b : Str} (q : Q (.bl (decide (a = b))) H) : rEq (.str a) (.str b) H Q := ⟨rfl, by
  have e : decide (V.str a = V.str b) = decide (a = b) := by
    by_cases h : a = b
    · subst h; simp
    · rw [decide_eq_false h, decide_eq_false (fun z => h (V.str.inj z))]
  rw [e]; exact q⟩
theorem s_neS {a b : Str} (q : Q (.bl (!decide (a = b))) H) : rNe (.str a) (.str b) H Q := ⟨rfl, by
  have e : decide (V.str a = V.str b) = decide (a = b) := by
    by_cases h : a = b
    · subst h; simp
    · rw [decide_eq_false h, decide_eq_false (fun z => h (V.str.inj z))]
  rw [e]; exact q⟩
theorem s_test {Q : Bool → Hp → Prop} (q : te σ H fun x H' => ∃ k, x = .bl k ∧ Q k H') : tTest te σ H Q := q
theorem s_tB {Q : Bool → Hp → Prop} (q : te σ H fun x H' => ∃ k, x = .bl k ∧ Q k H') : tB te σ H Q := q
theorem s_bl {b : Bool} {Q : Bool → Prop} (q : Q b) : ∃ k, V.bl b = V.bl k ∧ Q k := ⟨b, rfl, q⟩
theorem s_and {Q : Bool → Hp → Prop} (q : t σ H fun c H1 => if c = true then u σ H1 Q else Q false H1) : tAnd t u σ H Q := q
theorem s_or {Q : Bool → Hp → Prop} (q : t σ H fun c H1 => if c = true then Q true H1 else u σ H1 Q) : tOr t u σ H Q := q
theorem s_not {Q : Bool → Hp → Prop} (q : t σ H fun c H1 => Q (!c) H1) : tNot t σ H Q := q
theorem s_if (q : t σ H fun c H1 => if c = true then ta σ H1 Q else tb σ H1 Q) : tIf t ta tb σ H Q := q
theorem s_andV (q : ta σ H fun x H1 => ∃ c, x = .bl c ∧ if c = true then tb σ H1 Q else Q (.bl false) H1) : tAndV ta tb σ H Q := q
theorem s_orV (q : ta σ H fun x H1 => ∃ c, x = .bl c ∧ if c = true then Q (.bl true) H1 else tb σ H1 Q) : tOrV ta tb σ H Q := q
theorem s_notV (q : ta σ H fun x H1 => ∃ c, x = .bl c ∧ Q (.bl (!c)) H1) : tNotV ta σ H Q := q
theorem s_nil {Q : List V → Hp → Prop} (q : Q [] H) : tNil σ H Q := q
theorem s_cons {Q : List V → Hp → Prop} (q : ta σ H fun x H1 => A σ H1 fun xs H2 => Q (x :: xs) H2) : tCons ta A σ H Q := q
theorem s_cb {r : List V → Hp → VK → Prop} (q : A σ H fun vs H1 => r vs H1 Q) : tCB r A σ H Q := q
theorem s_call {sp : Sp} {dvs : List V} {E : XK} (q : A σ H fun vs H1 => sp (vs ++ dvs) H1 Q E) : tCall sp dvs E A σ H Q := q
theorem s_tup (q : A σ H fun xs H1 => xs.length ≤ sizeLine ∧ ∀ p, H1 p = none → Q (.ref p) (upd H1 p (.tup xs))) : tTup A σ H Q := q
theorem s_lst (q : A σ H fun xs H1 => xs.length ≤ sizeLine ∧ ∀ p, H1 p = none → Q (.ref p) (upd H1 p (.lst xs))) : tLst A σ H Q := q
theorem s_seq (q : s1 { D with nx := s2 D } σ H) : tSeq s1 s2 D σ H := q
theorem s_asg {g : TG} (q : te σ H fun x H1 => g x σ H1 D.nx) : tAsg te g D σ H := q
theorem s_gName {Q : L2.St → Hp → Prop} (q : Q (σ.set n (some v)) H) : gName n v σ H Q := q
theorem s_gSub {Q : L2.St → Hp → Prop} {ts : TSet} (q : ta σ H fun o H1 => tb σ H1 fun i H2 => ts o i v H2 fun H3 => Q σ H3) : gSub ta tb ts v σ H Q := q
theorem s_drop (q : te σ H fun _ H1 => D.nx σ H1) : tDrop te D σ H := q
theorem s_ret (q : te σ H D.rt) : tRet te D σ H := q
theorem s_retN (q : D.rt .non H) : tRetN D σ H := q
theorem s_ifS (q : t σ H fun b H1 => if b = true then s1 D σ H1 else s2 D σ H1) : tIfS t s1 s2 D σ H := q
theorem s_next (q : D.nx σ H) : tNext D σ H := q
theorem s_nx {n : L2.St → Hp → Prop} {r : VK} {b c : L2.St → Hp → Prop} (q : n σ H) : Ends.nx { nx := n, rt := r, bk := b, ct := c } σ H := q
theorem s_rt {n : L2.St → Hp → Prop} {r : VK} {b c : L2.St → Hp → Prop} (q : r v H) : Ends.rt { nx := n, rt := r, bk := b, ct := c } v H := q
theorem s_nxq (q : D.nx σ H) : D.nx σ H := q
theorem s_rtq (q : D.rt v H) : D.rt v H := q
theorem s_T {a b : Prop} (q : a) : if true = true then a else b := by rw [if_pos rfl]; exact q
theorem s_F {a b : Prop} (q : b) : if false = true then a else b := by rw [if_neg Bool.false_ne_true]; exact q
theorem s_NT {a b : Prop} (q : b) : if (!true) = true then a else b := s_F q
theorem s_NF {a b : Prop} (q : a) : if (!false) = true then a else b := s_T q
theorem s_dT {p a b : Prop} [Decidable p] (h : p) (q : a) : if decide p = true then a else b := by rw [decide_eq_true h]; exact s_T q
theorem s_dF {p a b : Prop} [Decidable p] (h : ¬ p) (q : b) : if decide p = true then a else b := by rw [decide_eq_false h]; exact s_F q
theorem s_dNT {p a b : Prop} [Decidable p] (h : p) (q : b) : if (!decide p) = true then a else b := by rw [decide_eq_true h]; exact s_F q
theorem s_dNF {p a b : Prop} [Decidable p] (h : ¬ p) (q : a) : if (!decide p) = true then a else b := by rw [decide_eq_false h]; exact s_T q
theorem s_d2 {p a b : Prop} [Decidable p] (h1 : p → a) (h2 : ¬ p → b) : if decide p = true then a else b := by
  by_cases h : p
  · exact s_dT h (h1 h)
  · exact s_dF h (h2 h)
theorem s_dN2 {p a b : Prop} [Decidable p] (h1 : p → b) (h2 : ¬ p → a) : if (!decide p) = true then a else b := by
  by_cases h : p
  · exact s_dNT h (h1 h)
  · exact s_dNF h (h2 h)
/-- an item of a list, a tuple -/
theorem s_ixL {K : PySem.W.Frag} {p : Addr} {xs : List V} {w : V} (h : SqL K H p xs) (e : atI xs i = some w) (q : Q w H) : rIx K (.ref p) (.int i) H Q := .inl ⟨p, xs, i, w, rfl, rfl, h, e, q⟩
theorem s_ixT {K : PySem.W.Frag} {p : Addr} {xs : List V} {w : V} (h : SqT K H p xs) (e : atI xs i = some w) (q : Q w H) : rIx K (.ref p) (.int i) H Q := .inr (.inl ⟨p, xs, i, w, rfl, rfl, h, e, q⟩)
theorem s_ixL' {K : PySem.W.Frag} {p : Addr} {xs : List V} {w : V} (h : SqL K H p xs) (e : atI xs i = some w) (q : Q w H) : rIxL K (.ref p) (.int i) H Q := ⟨p, xs, i, w, rfl, rfl, h, e, q⟩
theorem s_ixT' {K : PySem.W.Frag} {p : Addr} {xs : List V} {w : V} (h : SqT K H p xs) (e : atI xs i = some w) (q : Q w H) : rIxT K (.ref p) (.int i) H Q := ⟨p, xs, i, w, rfl, rfl, h, e, q⟩
theorem s_setL {p : Addr} {xs : List V} {Q : Hp → Prop} (h : H p = some (.lst xs)) (e : ixN xs.length i = some k) (q : Q (upd H p (.lst (xs.set k v)))) : rSetL (.ref p) (.int i) v H Q := ⟨p, xs, i, k, rfl, rfl, h, e, q⟩
/-! named readings -/
def rLen (K : PySem.W.Frag) : List V → Hp → VK → Prop := fun xs H Q => ∃ p ys, xs = [V.ref p] ∧ (SqL K H p ys ∨ SqT K H p ys) ∧ Q (.int ys.length) H
theorem cl_len {X : Cx} : CallR X (.builtin "len") (rLen X.K) := call_len_seq
def rListOf (K : PySem.W.Frag) : List V → Hp → VK → Prop := fun xs H Q => ∃ p ys, xs = [V.ref p] ∧ (SqL K H p ys ∨ SqT K H p ys) ∧ ∀ l, H l = none → Q (.ref l) (upd H l (.lst ys))
theorem cl_list {X : Cx} : CallR X (.type "list") (rListOf X.K) := call_list_of
def rTupleOf (K : PySem.W.Frag) : List V → Hp → VK → Prop := fun xs H Q => ∃ p ys, xs = [V.ref p] ∧ ((SqL K H p ys ∧ ∀ l, H l = none → Q (.ref l) (upd H l (.tup ys))) ∨ (SqT K H p ys ∧ Q (.ref p) H))
theorem cl_tuple {X : Cx} : CallR X (.type "tuple") (rTupleOf X.K) := call_tuple_of
def rInt1 : List V → Hp → VK → Prop := fun xs H Q => (∃ i, xs = [V.int i] ∧ Q (.int i) H) ∨ ∃ k, xs = [V.bl k] ∧ Q (.int (if k then 1 else 0)) H
theorem cl_int {X : Cx} : CallR X (.type "int") rInt1 := call_int1
theorem s_lenL {K : PySem.W.Frag} {p : Addr} {xs : List V} (h : SqL K H p xs) (q : Q (.int xs.length) H) : rLen K [.ref p] H Q := ⟨p, xs, rfl, .inl h, q⟩
theorem s_lenT {K : PySem.W.Frag} {p : Addr} {xs : List V} (h : SqT K H p xs) (q : Q (.int xs.length) H) : rLen K [.ref p] H Q := ⟨p, xs, rfl, .inr h, q⟩
theorem s_listL {K : PySem.W.Frag} {p : Addr} {xs : List V} (h : SqL K H p xs) (q : ∀ l, H l = none → Q (.ref l) (upd H l (.lst xs))) : rListOf K [.ref p] H Q := ⟨p, xs, rfl, .inl h, q⟩
theorem s_listT {K : PySem.W.Frag} {p : Addr} {xs : List V} (h : SqT K H p xs) (q : ∀ l, H l = none → Q (.ref l) (upd H l (.lst xs))) : rListOf K [.ref p] H Q := ⟨p, xs, rfl, .inr h, q⟩
theorem s_tupleL {K : PySem.W.Frag} {p : Addr} {xs : List V} (h : SqL K H p xs) (q : ∀ l, H l = none → Q (.ref l) (upd H l (.tup xs))) : rTupleOf K [.ref p] H Q := ⟨p, xs, rfl, .inl ⟨h, q⟩⟩
theorem s_tupleT {K : PySem.W.Frag} {p : Addr} {xs : List V} (h : SqT K H p xs) (q : Q (.ref p) H) : rTupleOf K [.ref p] H Q := ⟨p, xs, rfl, .inr ⟨h, q⟩⟩
theorem s_intI (q : Q (.int i) H) : rInt1 [.int i] H Q := .inl ⟨i, rfl, q⟩
theorem s_intB {b : Bool} (q : Q (.int (if b then 1 else 0)) H) : rInt1 [.bl b] H Q := .inr ⟨b, rfl, q⟩
theorem s_new {xs : List V} {R : Addr → Prop} (h : Nat.ble xs.length 1000 = true) (q : ∀ p, H p = none → R p) : xs.length ≤ sizeLine ∧ ∀ p, H p = none → R p :=
  ⟨Nat.le_trans (Nat.le_of_ble_eq_true h) (by decide), q⟩
end
end Y
namespace Y
open PySem L2 C8
theorem at_all {xs : List V} {P : V → Prop} {i : Int} (h : ∀ v ∈ xs, P v) (h0 : 0 ≤ i) (h1 : i < xs.length) : ∃ v, atI xs i = some v ∧ P v := by
  have e : xs[i.toNat]? = some xs[i.toNat] := List.getElem?_eq_getElem (by omega)
  exact ⟨_, at_of (by omega) e, h _ (List.getElem_mem _)⟩
end Y
namespace Y
open PySem L2 C8
section
variable {σ : L2.St} {H : Hp} {Q : VK} {v x y : V} {i j : Int} {n k : Nat} {ta tb tc te tv td ty tx : TE} {A : TA} {K : PySem.W.Frag} {p : Addr} {xs : List V}
theorem s_inT {b : Bool} (h : SqT K H p xs) (hx : flatV x = true) (hs : xs.all flatV = true) (hb : inV x xs = b) (q : Q (.bl b) H) : rIn K false x (.ref p) H Q := ⟨p, xs, rfl, .inr h, hx, hs, by rw [hb]; exact q⟩
theorem s_inL {b : Bool} (h : SqL K H p xs) (hx : flatV x = true) (hs : xs.all flatV = true) (hb : inV x xs = b) (q : Q (.bl b) H) : rIn K false x (.ref p) H Q := ⟨p, xs, rfl, .inl h, hx, hs, by rw [hb]; exact q⟩
theorem s_pnil {Q : List (V × V) → Hp → Prop} (q : Q [] H) : tPairs [] σ H Q := q
theorem s_pcons {Q : List (V × V) → Hp → Prop} {r : List (TE × TE)} (q : ta σ H fun x H1 => tb σ H1 fun y H2 => tPairs r σ H2 fun ps H3 => Q ((x, y) :: ps) H3) : tPairs ((ta, tb) :: r) σ H Q := q
def DRest (Q : VK) (p : Addr) : List (V × V) → Hp → Prop := fun ps H2 => H2 p = some (.dK []) ∧ ∃ kvs : List (Key × V), ps = kvs.map (fun kv => (kV kv.1, kv.2)) ∧ kvs.length ≤ 15 ∧ Q (.ref p) (upd H2 p (.dK (mergeK [] kvs)))
theorem s_disp {trs : List (TE × TE)} (q : ∀ p, H p = none → tPairs trs σ (upd H p (.dK [])) (DRest Q p)) : tDisp trs σ H Q := q
theorem merge_nd : ∀ (kvs acc : List (Key × V)), (kvs.map (·.1)).Nodup → (∀ kv ∈ kvs, valV acc kv.1 = none) → mergeK acc kvs = acc ++ kvs
  | [], acc, _, _ => by show acc = acc ++ []; rw [List.append_nil]
  | kv :: r, acc, nd, h => by
    have n1 := List.nodup_cons.mp (show (kv.1 :: r.map (·.1)).Nodup from nd)
    show mergeK (putK acc kv.1 kv.2) r = _
    rw [putK_new _ (h kv (List.mem_cons_self ..)), merge_nd r _ n1.2 (fun z hz => ?_)]
    · rw [List.append_assoc]; rfl
    · rw [valV_snoc _ _ _ _ (h kv (List.mem_cons_self ..)), if_neg (fun e => n1.1 (by rw [← show z.1 = kv.1 from e]; exact List.mem_map_of_mem hz))]
      exact h z (List.mem_cons_of_mem _ hz)
/-- the end of a written dict: its keys are ks, all texts -/
theorem s_dend {ps : List (V × V)} {p : Addr} (ks : List Str) (vs : List V) (e : H p = some (.dK [])) (hp : ps = (ks.zip vs).map fun kv => (V.str kv.1, kv.2)) (nd : decide ks.Nodup = true) (hl : Nat.ble vs.length 15 = true)
    (q : Q (.ref p) (upd H p (.dK ((ks.zip vs).map fun kv => ((Sum.inr kv.1 : Key), kv.2))))) : DRest Q p ps H := by
  refine ⟨e, (ks.zip vs).map fun kv => ((Sum.inr kv.1 : Key), kv.2), ?_, ?_, ?_⟩
  · rw [hp, List.map_map]; rfl
  · rw [List.length_map, List.length_zip]
    have := Nat.le_of_ble_eq_true hl
    omega
  · rw [merge_nd _ [] ?_ (fun _ _ => rfl), List.nil_append]
    · exact q
    · have h1 := of_decide_eq_true nd
      rw [List.map_map]
      have e1 : ((fun kv : Key × V => kv.1) ∘ fun kv : Str × V => ((Sum.inr kv.1 : Key), kv.2)) = fun kv => Sum.inr kv.1 := rfl
      rw [e1]
      have h2 : ∀ (ks : List Str) (vs : List V), ks.Nodup → ((ks.zip vs).map fun kv => (Sum.inr kv.1 : Key)).Nodup := by
        intro ks
        induction ks with
        | nil => intro vs _; exact List.nodup_nil
        | cons a r ih =>
          intro vs h
          cases vs with
          | nil => exact List.nodup_nil
          | cons b t =>
            have h' := List.nodup_cons.mp h
            refine List.nodup_cons.mpr ⟨fun m => ?_, ih t h'.2⟩
            obtain ⟨z, hz, e⟩ := List.mem_map.mp m
            exact h'.1 (by rw [← show z.1 = a from Sum.inr.inj e]; exact (List.of_mem_zip hz).1)
      exact h2 ks vs h1
theorem s_dget2 (q : td σ H fun x H1 => ∃ a, x = .ref a ∧ IsD H1 a ∧ ty σ H1 fun y H2 => tx σ H2 fun z H3 => ∃ o, DGet H3 a y o ∧ Q (o.getD z) H3) : tDGet2 td ty tx σ H Q := q
theorem s_isD {p : Addr} {kvs : List (Key × V)} {R : Addr → Prop} (h : H p = some (.dK kvs)) (q : R p) : ∃ a, V.ref p = .ref a ∧ IsD H a ∧ R a := ⟨p, rfl, .inl ⟨kvs, .inl h⟩, q⟩
theorem s_dgS {p : Addr} {kvs : List (Key × V)} {R : Option V → Prop} {z : Str} {o : Option V} (h : H p = some (.dK kvs)) (e : valV kvs (Sum.inr z) = o) (q : R o) : ∃ o, DGet H p (.str z) o ∧ R o := ⟨o, by rw [← e]; exact DGet.k (k := Sum.inr z) h, q⟩
def DgR (Q : VK) : V → V → Hp → Prop := fun x y H2 => ∃ a v, x = .ref a ∧ DGet H2 a y (some v) ∧ Q v H2
theorem s_dgetq (q : td σ H fun x H1 => ty σ H1 fun y H2 => DgR Q x y H2) : tDGet td ty σ H Q := q
theorem s_dgetS {p : Addr} {kvs : List (Key × V)} {z : Str} {w : V} (h : H p = some (.dK kvs)) (e : valV kvs (Sum.inr z) = some w) (q : Q w H) : DgR Q (.ref p) (.str z) H := ⟨p, w, rfl, by rw [← e]; exact DGet.k (k := Sum.inr z) h, q⟩
theorem s_modP {a b : Int} (h : 0 < b) (q : Q (.int (a % b)) H) : rI (fun _ j => 0 < j) (fun i j => .int (i % j)) (.int a) (.int b) H Q := ⟨a, b, rfl, rfl, h, q⟩
theorem s_fdv {a b : Int} (h : b ≠ 0 ∧ b.natAbs < 1073741824) (q : Q (.int (a.fdiv b)) H) : rI CDivN (fun i j => .int (i.fdiv j)) (.int a) (.int b) H Q := ⟨a, b, rfl, rfl, h, q⟩
theorem s_cat {p1 p2 : Addr} {xs ys : List V} (h1 : H p1 = some (.lst xs)) (h2 : H p2 = some (.lst ys)) (hl : xs.length + ys.length ≤ sizeLine) (q : ∀ p, H p = none → Q (.ref p) (upd H p (.lst (xs ++ ys)))) : rCat (.ref p1) (.ref p2) H Q := ⟨p1, p2, xs, ys, rfl, rfl, h1, h2, hl, q⟩
end
end Y
namespace Y
open PySem L2 C8
section
variable {σ : L2.St} {H : Hp} {Q : VK} {v x y : V} {n k : Nat} {ta te : TE} {tt : TT} {A : TA} {K : PySem.W.Frag}
theorem s_yes {Q : Bool → Hp → Prop} (q : Q true H) : tYes σ H Q := q
/-- what a comprehension has made so far stands at D -/
def LcP (D : Addr) (Inv : Nat → List V → Hp → Prop) (i : Nat) (H : Hp) : Prop := ∃ acc, H D = some (.lst acc) ∧ acc.length ≤ i ∧ Inv i acc H
theorem s_lcE {D : Addr} {Inv : Nat → List V → Hp → Prop} {i : Nat} {acc : List V} (h : H D = some (.lst acc)) (hl : acc.length ≤ i) (hi : (i : Int) < 100000) (inv : Inv (i + 1) (acc ++ [y]) (upd H D (.lst (acc ++ [y])))) :
    ∃ acc, H D = some (.lst acc) ∧ acc.length < sizeLine ∧ LcP D Inv (i + 1) (upd H D (.lst (acc ++ [y]))) :=
  ⟨acc, h, Nat.lt_of_lt_of_le (show acc.length < 100001 by omega) (by decide), acc ++ [y], upd_same, by rw [List.length_append, List.length_singleton]; omega, inv⟩
theorem s_lcN {D : Addr} {Inv : Nat → List V → Hp → Prop} {i : Nat} {acc : List V} (h : H D = some (.lst acc)) (hl : acc.length ≤ i) (inv : Inv (i + 1) acc H) : LcP D Inv (i + 1) H := ⟨acc, h, Nat.le_succ_of_le hl, inv⟩
/-- a comprehension behind its walk's making -/
def LcRest (g : TG) (tt : TT) (te : TE) (vs : List Nat) (σ : L2.St) (Q : VK) : It → Hp → Prop := fun J H1 => ∀ D, H1 D = none → ∃ W : Nat → Nat → Hp → Prop, (∃ m, W 0 m (upd H1 D (.lst []))) ∧ ∀ i m H, W i m H →
  (J.stop i H ∧ Q (.ref D) H) ∨ (J.go i H ∧ ∃ Nx : Hp → Prop, (∀ H', Nx H' → ∃ m', m' < m ∧ W (i + 1) m' H') ∧ ∀ x H', J.yld i H x H' → g x (wipe σ vs) H' fun σ2 H2 => wipe σ2 vs = wipe σ vs ∧ tt σ2 H2 fun b H3 =>
    if b = true then te σ2 H3 fun y H4 => ∃ acc, H4 D = some (.lst acc) ∧ acc.length < sizeLine ∧ Nx (upd H4 D (.lst (acc ++ [y]))) else Nx H3)
/-- a for behind its walk's making -/
def ForRest (g : TG) (tb : TS) (D : Ends) (σ : L2.St) : It → Hp → Prop := fun J H1 => ∃ W : Nat → Nat → L2.St → Hp → Prop, (∃ m, W 0 m σ H1) ∧ ∀ i m σ H, W i m σ H →
  (J.stop i H ∧ D.nx σ H) ∨ (J.go i H ∧ ∃ N : L2.St → Hp → Prop, (∀ σ' H', N σ' H' → ∃ m', m' < m ∧ W (i + 1) m' σ' H') ∧ ∀ x H', J.yld i H x H' → g x σ H' fun σ2 H2 => tb { D with nx := N, ct := N, bk := D.nx } σ2 H2)
def RngRest (R : It → Hp → Prop) : List V → Hp → Prop := fun vs H1 => ∃ j : Int, vs = [.int j] ∧ -(2 ^ 62) ≤ j ∧ j < 2 ^ 62 ∧ R (Itr 0 j.toNat) H1
def LstRest (K : PySem.W.Frag) (R : It → Hp → Prop) : V → Hp → Prop := fun x H1 => ∃ a, x = .ref a ∧ (∃ xs, SqL K H1 a xs) ∧ R (Itl K a) H1
def TupRest (K : PySem.W.Frag) (R : It → Hp → Prop) : V → Hp → Prop := fun x H1 => ∃ a, x = .ref a ∧ (∃ xs, SqT K H1 a xs) ∧ R (Itt K a) H1
theorem s_lc {wi : TI} {g : TG} {vs : List Nat} (q : wi σ H (LcRest g tt te vs σ Q)) : tLc wi g tt te vs σ H Q := q
theorem s_for {wi : TI} {g : TG} {tb : TS} {D : Ends} (q : wi σ H (ForRest g tb D σ)) : tFor wi g tb D σ H := q
theorem s_rng1 {R : It → Hp → Prop} (q : A σ H (RngRest R)) : iRng1 A σ H R := q
theorem s_itl {R : It → Hp → Prop} (q : ta σ H (LstRest K R)) : iList K ta σ H R := q
theorem s_itt {R : It → Hp → Prop} (q : ta σ H (TupRest K R)) : iTup K ta σ H R := q
/-- the rest of a comprehension over a range, its target one name -/
theorem s_lcR {n : Int} (h0 : 0 ≤ n) (h1 : n ≤ 100000) (h : ∀ D, H D = none → ∃ Inv : Nat → List V → Hp → Prop, Inv 0 [] (upd H D (.lst [])) ∧
      (∀ (i : Nat) acc H, (i : Int) < n → acc.length ≤ i → H D = some (.lst acc) → Inv i acc H → tt ((σ.set k none).set k (some (.int (0 + i)))) H fun b H3 =>
        if b = true then te ((σ.set k none).set k (some (.int (0 + i)))) H3 fun y H4 => ∃ acc, H4 D = some (.lst acc) ∧ acc.length < sizeLine ∧ LcP D Inv (i + 1) (upd H4 D (.lst (acc ++ [y]))) else LcP D Inv (i + 1) H3) ∧
      ∀ acc H, H D = some (.lst acc) → acc.length ≤ n.toNat → Inv n.toNat acc H → Q (.ref D) H) :
    RngRest (LcRest (gName k) tt te [k] σ Q) [V.int n] H := by
  refine ⟨n, rfl, by omega, by omega, fun D hD => ?_⟩
  obtain ⟨Inv, i0, ht, hd⟩ := h D hD
  refine lc_range (lo := 0) (n := n.toNat) (LcP D Inv) ⟨[], upd_same, Nat.zero_le _, i0⟩ (fun i H hi p => ?_) (fun H ⟨acc, ha, hl, hv⟩ => hd acc H ha hl hv)
  obtain ⟨acc, ha, hl, hv⟩ := p
  show (((σ.set k none).set k _).set k none) = σ.set k none ∧ _
  refine ⟨by rw [List.set_set, List.set_set], ht i acc H (by omega) hl ha hv⟩
/-- .. over a list -/
theorem s_lcL {a : Addr} {xs : List V} (ha : SqL K H a xs) (h : ∀ D, H D = none → ∃ Inv : Nat → List V → Hp → Prop, Inv 0 [] (upd H D (.lst [])) ∧ (∀ i acc H, H D = some (.lst acc) → Inv i acc H → SqL K H a xs) ∧
      (∀ (i : Nat) x acc H, xs[i]? = some x → acc.length ≤ i → H D = some (.lst acc) → Inv i acc H → tt ((σ.set k none).set k (some x)) H fun b H3 =>
        if b = true then te ((σ.set k none).set k (some x)) H3 fun y H4 => ∃ acc, H4 D = some (.lst acc) ∧ acc.length < sizeLine ∧ LcP D Inv (i + 1) (upd H4 D (.lst (acc ++ [y]))) else LcP D Inv (i + 1) H3) ∧
      ∀ acc H, H D = some (.lst acc) → acc.length ≤ xs.length → Inv xs.length acc H → Q (.ref D) H) :
    LstRest K (LcRest (gName k) tt te [k] σ Q) (V.ref a) H := by
  refine ⟨a, rfl, ⟨xs, ha⟩, fun D hD => ?_⟩
  obtain ⟨Inv, i0, hq, ht, hd⟩ := h D hD
  refine lc_list (K := K) (a := a) (xs := xs) (LcP D Inv) ⟨[], upd_same, Nat.zero_le _, i0⟩ (fun i H _ ⟨acc, ha, _, hv⟩ => hq i acc H ha hv) (fun i x H hi p => ?_) (fun H ⟨acc, ha, hl, hv⟩ => hd acc H ha hl hv)
  obtain ⟨acc, ha, hl, hv⟩ := p
  show (((σ.set k none).set k _).set k none) = σ.set k none ∧ _
  refine ⟨by rw [List.set_set, List.set_set], ht i x acc H hi hl ha hv⟩
/-- the rest of a for over a range -/
theorem s_forR {n : Int} {g : TG} {tb : TS} {D : Ends} (h0 : 0 ≤ n) (h1 : n ≤ 100000) (Pv : Nat → L2.St → Hp → Prop) (p0 : Pv 0 σ H)
    (hs : ∀ (i : Nat) σ H, (i : Int) < n → Pv i σ H → g (.int (0 + i)) σ H fun σ2 H2 => tb { D with nx := Pv (i + 1), ct := Pv (i + 1), bk := D.nx } σ2 H2) (hd : ∀ σ H, Pv n.toNat σ H → D.nx σ H) :
    RngRest (ForRest g tb D σ) [V.int n] H :=
  ⟨n, rfl, by omega, by omega, for_range (lo := 0) (n := n.toNat) Pv p0 (fun i σ H hi p => hs i σ H (by omega) p) hd⟩
/-- .. over a list -/
theorem s_forL {a : Addr} {xs : List V} {g : TG} {tb : TS} {D : Ends} (ha : SqL K H a xs) (Pv : Nat → L2.St → Hp → Prop) (p0 : Pv 0 σ H) (hl : ∀ i σ H, Pv i σ H → SqL K H a xs)
    (hs : ∀ i x σ H, xs[i]? = some x → Pv i σ H → g x σ H fun σ2 H2 => tb { D with nx := Pv (i + 1), ct := Pv (i + 1), bk := D.nx } σ2 H2) (hd : ∀ σ H, Pv xs.length σ H → D.nx σ H) :
    LstRest K (ForRest g tb D σ) (V.ref a) H :=
  ⟨a, rfl, ⟨xs, ha⟩, for_list (K := K) (a := a) (xs := xs) Pv p0 (fun i σ H _ p => hl i σ H p) hs hd⟩
end
end Y
namespace G
open PySem L2 C8
/-- all that was tracked but at a is as it was -/
def Fr (a : Addr) (H H' : Hp) : Prop := ∀ b o, b ≠ a → H b = some o → H' b = some o
theorem Fr.refl (a : Addr) (H : Hp) : Fr a H H := fun _ _ _ h => h
theorem Fr.trans {a : Addr} {H H1 H2 : Hp} (x : Fr a H H1) (y : Fr a H1 H2) : Fr a H H2 := fun b o n h => y b o n (x b o n h)
theorem Fr.upd {a : Addr} {H H1 : Hp} {o : HO} (x : Fr a H H1) : Fr a H (L2.upd H1 a o) := fun b u n h => by rw [upd_ne n]; exact x b u n h
theorem Fr.new {a p : Addr} {H H1 : Hp} {o : HO} (x : Fr a H H1) (hp : H1 p = none) : Fr a H (L2.upd H1 p o) := fun b u n h => by
  rw [upd_ne (ne_of_none (x b u n h) hp)]; exact x b u n h
theorem Fr.free {a p : Addr} {H H1 : Hp} (x : Fr a H H1) (hp : H1 p = none) (n : p ≠ a) : H p = none := by
  cases e : H p with
  | none => rfl
  | some u => rw [x p u n e] at hp; cases hp
/-- as Fr, and a stands -/
theorem sql_upd {K : PySem.W.Frag} {H : Hp} {a b : Addr} {o : HO} {xs : List V} (n : b ≠ a) (h : SqL K H b xs) : SqL K (upd H a o) b xs := by
  rcases h with (h | ⟨u, h⟩) | h
  · exact .inl (.inl (by rw [upd_ne n]; exact h))
  · exact .inl (.inr ⟨u, by rw [upd_ne n]; exact h⟩)
  · exact .inr h
theorem sqt_upd {K : PySem.W.Frag} {H : Hp} {a b : Addr} {o : HO} {xs : List V} (n : b ≠ a) (h : SqT K H b xs) : SqT K (upd H a o) b xs := by
  rcases h with (h | ⟨u, h⟩) | h
  · exact .inl (.inl (by rw [upd_ne n]; exact h))
  · exact .inl (.inr ⟨u, by rw [upd_ne n]; exact h⟩)
  · exact .inr h
theorem sql_fr {K : PySem.W.Frag} {H H' : Hp} {a b : Addr} {xs : List V} (f : Fr a H H') (n : b ≠ a) (h : SqL K H b xs) : SqL K H' b xs := by
  rcases h with (h | ⟨u, h⟩) | h
  · exact .inl (.inl (f _ _ n h))
  · exact .inl (.inr ⟨u, f _ _ n h⟩)
  · exact .inr h
/-! ### the draws -/
/-- a list that nobody may write: locked, or of the written part -/
def Lk (K : PySem.W.Frag) (H : Hp) (s : Addr) (xs : List V) : Prop := (∃ o, H s = some (.frz o (.lst xs))) ∨ ∀ H', SqL K H' s xs
theorem Lk.sq {K : PySem.W.Frag} {H : Hp} {s : Addr} {xs : List V} (h : Lk K H s xs) : SqL K H s xs := by
  rcases h with ⟨o, h⟩ | h
  · exact .inl (.inr ⟨o, h⟩)
  · exact h _
theorem Lk.fr {K : PySem.W.Frag} {H H' : Hp} {s a : Addr} {xs ys : List V} (h : Lk K H s xs) (f : Fr a H H') (e : H a = some (.lst ys)) : Lk K H' s xs := by
  rcases h with ⟨o, h⟩ | h
  · exact .inl ⟨o, f _ _ (ne_of h e (fun z => nomatch z)) h⟩
  · exact .inr h
theorem Lk.upd {K : PySem.W.Frag} {H : Hp} {s a : Addr} {xs ys : List V} {o : HO} (h : Lk K H s xs) (e : H a = some (.lst ys)) : Lk K (L2.upd H a o) s xs := h.fr (Fr.refl a H).upd e
theorem Lk.updD {K : PySem.W.Frag} {H : Hp} {s a : Addr} {xs : List V} {ys : List (Key × V)} {o : HO} (h : Lk K H s xs) (e : H a = some (.dK ys)) : Lk K (L2.upd H a o) s xs := by
  rcases h with ⟨u, h⟩ | h
  · exact .inl ⟨u, by rw [upd_ne (ne_of h e (fun z => nomatch z))]; exact h⟩
  · exact .inr h
theorem Lk.new {K : PySem.W.Frag} {H : Hp} {s a : Addr} {xs : List V} {o : HO} (h : Lk K H s xs) (e : H a = none) : Lk K (L2.upd H a o) s xs := by
  rcases h with ⟨u, h⟩ | h
  · exact .inl ⟨u, by rw [upd_ne (ne_of_none h e)]; exact h⟩
  · exact .inr h
/-- the state of the draws -/
def StAt (K : PySem.W.Frag) (H : Hp) (a : Addr) : Prop := ∃ (s : Addr) (ns : List Int) (i m r : Int), H a = some (.lst [.ref s, .int i, .int m, .int r]) ∧ Lk K H s (ns.map V.int) ∧ 0 ≤ i ∧ 0 ≤ m ∧ m < 2147483647
theorem StAt.lst {K : PySem.W.Frag} {H : Hp} {a : Addr} (h : StAt K H a) : ∃ xs, H a = some (.lst xs) := let ⟨_, _, _, _, _, e, _⟩ := h; ⟨_, e⟩
theorem StAt.spec {K : PySem.W.Frag} {H : Hp} {a : Addr} (h : StAt K H a) : H a = some (.lst (Classical.choose h.lst)) := Classical.choose_spec h.lst
theorem StAt.new {K : PySem.W.Frag} {H : Hp} {a p : Addr} {o : HO} (h : StAt K H a) (hp : H p = none) : StAt K (L2.upd H p o) a := by
  obtain ⟨s, ns, i, m, r, e, q, z⟩ := h
  exact ⟨s, ns, i, m, r, by rw [upd_ne (ne_of_none e hp)]; exact e, q.new hp, z⟩
theorem StAt.own {K : PySem.W.Frag} {H : Hp} {a p : Addr} {xs : List V} {o : HO} (h : StAt K H a) (hp : H p = some (.lst xs)) (n : a ≠ p) : StAt K (L2.upd H p o) a := by
  obtain ⟨s, ns, i, m, r, e, q, z⟩ := h
  exact ⟨s, ns, i, m, r, by rw [upd_ne n]; exact e, q.upd hp, z⟩
theorem StAt.dic {K : PySem.W.Frag} {H : Hp} {a p : Addr} {xs : List (Key × V)} {o : HO} (h : StAt K H a) (hp : H p = some (.dK xs)) : StAt K (L2.upd H p o) a := by
  obtain ⟨s, ns, i, m, r, e, q, z⟩ := h
  exact ⟨s, ns, i, m, r, by rw [upd_ne (ne_of e hp (fun z => nomatch z))]; exact e, q.updD hp, z⟩
theorem Fr.own {a p : Addr} {H H1 : Hp} {o : HO} (x : Fr a H H1) (n : H p = none) : Fr a H (L2.upd H1 p o) := fun b u nb h => by
  rw [upd_ne (ne_of_none h n)]; exact x b u nb h
theorem Fr.at {a b : Addr} {H H' : Hp} {o : HO} (f : Fr a H H') (n : b ≠ a) (h : H b = some o) : H' b = some o := f b o n h
/-- all tuples stay -/
def Tu (H H' : Hp) : Prop := ∀ p xs, H p = some (.tup xs) → H' p = some (.tup xs)
theorem Tu.refl (H : Hp) : Tu H H := fun _ _ h => h
theorem Tu.trans {H H1 H2 : Hp} (x : Tu H H1) (y : Tu H1 H2) : Tu H H2 := fun p xs h => y p xs (x p xs h)
theorem Tu.new {H H1 : Hp} {p : Addr} {o : HO} (x : Tu H H1) (n : H1 p = none) : Tu H (upd H1 p o) := fun q xs h => by
  have h1 := x q xs h
  rw [upd_ne (ne_of_none h1 n)]; exact h1
theorem Tu.lst {H H1 : Hp} {p : Addr} {o : HO} {xs : List V} (x : Tu H H1) (n : H1 p = some (.lst xs)) : Tu H (upd H1 p o) := fun q ys h => by
  have h1 := x q ys h
  rw [upd_ne (ne_of h1 n (fun z => nomatch z))]; exact h1
theorem Tu.dic {H H1 : Hp} {p : Addr} {o : HO} {xs : List (Key × V)} (x : Tu H H1) (n : H1 p = some (.dK xs)) : Tu H (upd H1 p o) := fun q ys h => by
  have h1 := x q ys h
  rw [upd_ne (ne_of h1 n (fun z => nomatch z))]; exact h1
theorem Tu.fr {a : Addr} {H H1 H2 : Hp} {xs : List V} (x : Tu H H1) (f : Fr a H1 H2) (n : H1 a = some (.lst xs)) : Tu H H2 := fun q ys h => by
  have h1 := x q ys h
  exact f _ _ (ne_of h1 n (fun z => nomatch z)) h1
end G
namespace Y
open PySem L2 C8
theorem at_str {ws : List Str} {i : Int} (h0 : 0 ≤ i) (h1 : i < ws.length) : ∃ w, atI (ws.map V.str) i = some (.str w) ∧ w ∈ ws := by
  have e : ws[i.toNat]? = some ws[i.toNat] := List.getElem?_eq_getElem (by omega)
  exact ⟨_, at_of (j := i.toNat) (by omega) (by rw [List.getElem?_map, e]; rfl), List.getElem_mem _⟩
end Y
namespace Y
open PySem L2 G
theorem ne1 {H : Hp} {a b : Addr} {o : HO} (n : H b = none) (h : H a = some o) : a ≠ b := ne_of_none h n
theorem ne2 {H : Hp} {a b : Addr} {o : HO} (n : H b = none) (h : H a = some o) : b ≠ a := (ne_of_none h n).symm
theorem hp_ne {H : Hp} {a b : Addr} {o u : HO} (n : b ≠ a) (h : H b = some u) : upd H a o b = some u := (upd_ne n).trans h
theorem st_new {K : PySem.W.Frag} {H : Hp} {a p : Addr} {o : HO} (hp : H p = none) (h : StAt K H a) : StAt K (L2.upd H p o) a := h.new hp
theorem st_own {K : PySem.W.Frag} {H : Hp} {a p : Addr} {xs : List V} {o : HO} (hp : H p = some (.lst xs)) (n : a ≠ p) (h : StAt K H a) : StAt K (L2.upd H p o) a := h.own hp n
theorem st_dic {K : PySem.W.Frag} {H : Hp} {a p : Addr} {xs : List (Key × V)} {o : HO} (hp : H p = some (.dK xs)) (h : StAt K H a) : StAt K (L2.upd H p o) a := h.dic hp
theorem fr_new {a p : Addr} {H H1 : Hp} {o : HO} (n : H1 p = none) (x : Fr a H H1) : Fr a H (L2.upd H1 p o) := x.new n
theorem fr_own {a p : Addr} {H H1 : Hp} {o : HO} (n : H p = none) (x : Fr a H H1) : Fr a H (L2.upd H1 p o) := x.own n
theorem fr_tr {a : Addr} {H H1 H2 : Hp} (y : Fr a H1 H2) (x : Fr a H H1) : Fr a H H2 := x.trans y
theorem tu_new {H H1 : Hp} {p : Addr} {o : HO} (n : H1 p = none) (x : Tu H H1) : Tu H (L2.upd H1 p o) := x.new n
theorem tu_lst {H H1 : Hp} {p : Addr} {o : HO} {xs : List V} (n : H1 p = some (.lst xs)) (x : Tu H H1) : Tu H (L2.upd H1 p o) := x.lst n
theorem tu_dic {H H1 : Hp} {p : Addr} {o : HO} {xs : List (Key × V)} (n : H1 p = some (.dK xs)) (x : Tu H H1) : Tu H (L2.upd H1 p o) := x.dic n
theorem tu_fr {K : PySem.W.Frag} {a : Addr} {H H1 H2 : Hp} (f : Fr a H1 H2) (s : StAt K H1 a) (x : Tu H H1) : Tu H H2 := x.fr f s.spec
theorem tu_tr {H H1 H2 : Hp} (y : Tu H1 H2) (x : Tu H H1) : Tu H H2 := x.trans y
end Y
namespace Y
open PySem L2 C8
section
variable {H : Hp} {Q : VK} {x : V} {K : PySem.W.Frag} {p : Addr} {S T : String}
/-! isinstance -/
theorem s_isi {b : Bool} (ty : TyX K H x (.type S)) (k : kitB S T = some b) (q : Q (.bl b) H) : rIsi K [x, .ty T] H Q := ⟨x, .ty T, .type S, .type T, b, rfl, .ty T, ty, kit_ty k, q⟩
theorem kit2 {T1 T2 : String} {b : Bool} (k : (match kitB S T1 with | some true => some true | some false => kitB S T2 | none => none) = some b) : PySem.W.kitAny K (.type S) [.type T1, .type T2] = some b := by
  have e1 : PySem.W.kitOne K (.type S) (.type T1) = kitB S T1 := rfl
  have e2 : PySem.W.kitOne K (.type S) (.type T2) = kitB S T2 := rfl
  unfold PySem.W.kitAny
  rw [e1]
  cases h1 : kitB S T1 with
  | none => rw [h1] at k; cases k
  | some c =>
    rw [h1] at k
    cases c with
    | true => exact k
    | false =>
      show PySem.W.kitAny K (.type S) [.type T2] = some b
      unfold PySem.W.kitAny
      rw [e2]
      have k' : kitB S T2 = some b := k
      rw [k']
      cases b <;> rfl
theorem s_isi2 {T1 T2 : String} {b : Bool} {cs : List V} (hT : H p = some (.tup cs)) (hc : cs = [.ty T1, .ty T2]) (ty : TyX K H x (.type S)) (k : (match kitB S T1 with | some true => some true | some false => kitB S T2 | none => none) = some b) (q : Q (.bl b) H) : rIsiT K [x, .ref p] H Q :=
  ⟨x, p, [.ty T1, .ty T2], .type S, [.type T1, .type T2], b, rfl, by rw [← hc]; exact hT, .cons (.ty _) (.cons (.ty _) .nil), ty, kit2 k, q⟩
theorem ty_i {i : Int} : TyX K H (.int i) (.type "int") := .base (.int i)
theorem ty_s {i : Str} : TyX K H (.str i) (.type "str") := .base (.str i)
theorem ty_b {i : Bool} : TyX K H (.bl i) (.type "bool") := .base (.bl i)
theorem ty_n : TyX K H .non (.type "NoneType") := .base .non
theorem ty_l {xs : List V} (e : H p = some (.lst xs)) : TyX K H (.ref p) (.type "list") := .base (.lst e)
theorem ty_t {xs : List V} (e : H p = some (.tup xs)) : TyX K H (.ref p) (.type "tuple") := .base (.tup e)
end
end Y
namespace Y
open PySem L2 C8
/-- a built-in class as a value -/
theorem pe_bty {X : Cx} {x : Str} {pos : Pos} {T : String} (hg : Gl X x) (hm : X.mg x = none) (hv : bootBuiltins x = some (.type T)) (hn : x ≠ "__name__" := by decide) (hd : (x == ("__debug__" : Str)) = false := by decide) : PE X (.Name x pos) (tC (.ty T)) :=
  pe_bltn (v := .ty T) hg hm hv rfl (hn := hn) (hd := hd)
end Y
namespace Y
open PySem L2 C8
section
variable {σ : L2.St} {H : Hp} {Q : VK} {x y : V} {K : PySem.W.Frag} {p p1 p2 : Addr}
theorem s_isNn (q : Q (.bl true) H) : rIsN .non .non H Q := ⟨rfl, q⟩
theorem s_isNF (h : x ≠ .non) (q : Q (.bl false) H) : rIsN x .non H Q := ⟨rfl, by rw [decide_eq_false h]; exact q⟩
theorem s_notNn (q : Q (.bl false) H) : rNotN .non .non H Q := ⟨rfl, q⟩
theorem s_notNF (h : x ≠ .non) (q : Q (.bl true) H) : rNotN x .non H Q := ⟨rfl, by rw [decide_eq_false h]; exact q⟩
theorem nn_ref : V.ref p ≠ .non := fun z => nomatch z
theorem nn_int {i : Int} : V.int i ≠ .non := fun z => nomatch z
theorem nn_str {i : Str} : V.str i ≠ .non := fun z => nomatch z
theorem nn_bl {i : Bool} : V.bl i ≠ .non := fun z => nomatch z
/-- [] == [] -/
theorem s_eqNil (h1 : SqL K H p1 []) (h2 : SqL K H p2 []) (q : Q (.bl true) H) : rEqD K (.ref p1) (.ref p2) H Q :=
  ⟨.list [], .list [], .lst h1 .nil, .lst h2 .nil, by decide +kernel, by decide +kernel, q⟩
theorem same_new {H H1 : Hp} {o : HO} (n : H1 p = none) (x : Same H H1) : Same H (upd H1 p o) := fun b u e => by
  have h1 := x b u e
  rw [upd_ne (ne_of_none h1 n)]; exact h1
theorem same_own {H H1 : Hp} {o : HO} (n : H p = none) (x : Same H H1) : Same H (upd H1 p o) := fun b u e => by
  rw [upd_ne (ne_of_none e n)]; exact x b u e
theorem same_tr {H H1 H2 : Hp} (y : Same H1 H2) (x : Same H H1) : Same H H2 := fun b u e => y b u (x b u e)
theorem same_hp {H H1 : Hp} {a : Addr} {o : HO} (y : Same H H1) (h : H a = some o) : H1 a = some o := y _ _ h
end
end Y
namespace Y
open PySem PySem.Spec PyProof.Rows L2 C8
/-- e(..), e an expression that gives one of the defs of S, which make one promise -/
def tCallF (S : Addr → Prop) (sp : Sp) (tf : TE) (t : TA) : TE := fun σ H Q => tf σ H fun y H1 => ∃ f, y = .ref f ∧ S f ∧ t σ H1 fun vs H2 => sp vs H2 Q C8.E0
theorem pe_cf {X : Cx} {S : Addr → Prop} {sp : Sp} {k j : Nat} {fe e : Expr} {es : List Expr} {pos : Pos} {tf : TE} {t : TA} (A : ∀ f, S f → CalAt X.prog X.w X.K X.mg X.base k f sp) (hr : Room j X.A) (hk : k ≤ j) (hf : PE X fe tf) (ha : PA X (e :: es) t)
    (ht : eval (.Call fe (e :: es) [] pos) X.env = (do callWith pos (← eval fe X.env) [] (backTo pos (starEach (e :: es) X.env)) (backToKw pos (keywordEach [] X.env))) := by rfl)
    (he : starEach (e :: es) X.env = (false, eval e X.env) :: starEach es X.env := by rfl) (hpl : (backTo pos (starEach es X.env)).any (·.1) = false := by rfl) : PE X (.Call fe (e :: es) [] pos) (tCallF S sp tf t) := by
  refine ⟨fun pins s σ H Q I h => ?_⟩
  refine Call_ (thn (hf.run pins s σ H _ I h) fun u s1 ⟨y, H1, I1, ry, f, ey, hSf, q⟩ => ?_) ht
  subst ey
  obtain rfl : u = Value.ref f := ry
  obtain ⟨fd, ps, F, kp, b⟩ := (A f hSf).ex
  refine PySem.W.callWith_K (h₀ := X.base) I1.ok.mod.kin kp (thn (ha.run pos pins s1 σ _ _ I1 q) fun us s2 ⟨vs, H2, I2, r, q2⟩ => ⟨I2.kIn, ?_⟩) he hpl
  exact run_fn F (hr.mono hk) b .nil C8.pass0 I2 r (by rw [List.append_nil]; exact q2)
theorem s_cf {S : Addr → Prop} {sp : Sp} {tf : TE} {t : TA} {σ : L2.St} {H : Hp} {Q : VK} (q : tf σ H fun y H1 => ∃ f, y = .ref f ∧ S f ∧ t σ H1 fun vs H2 => sp vs H2 Q C8.E0) : tCallF S sp tf t σ H Q := q
theorem calAt_of {P : Program} {w : World} {K : PySem.W.Frag} {mg : Str → Option Value} {base : Heap} {k : Nat} {x : Str} {sp : Sp} {f : Addr} (c : Cal P w K mg base k x sp []) (g : mg x = some (.ref f)) : CalAt P w K mg base k f sp := by
  obtain ⟨f', fd, ps, ds, F, hm, kp, b, d⟩ := c.ex
  rw [g] at hm
  cases hm
  cases d
  exact ⟨fd, ps, F, kp, b⟩
theorem s_repT {K : PySem.W.Frag} {H : Hp} {Q : VK} {p : Addr} {xs : List V} {k : Int} (h : SqT K H p xs) (h0 : xs ≠ []) (h1 : 2 ≤ k) (h2 : k ≤ 1000) (h3 : xs.length ≤ 1000) (q : ∀ p, H p = none → Q (.ref p) (upd H p (.tup (List.replicate k.toNat xs).flatten))) : rRepT K (.ref p) (.int k) H Q := ⟨p, k, xs, rfl, rfl, h, h0, h1, h2, h3, q⟩
end Y
namespace Y
open PySem L2
/-- at a statement's begin: only this is kept of the heap -/
theorem fgt {R : Hp → Prop} {H : Hp} (Φ : Hp → Prop) (h : Φ H) (q : ∀ H', Φ H' → R H') : R H := q H h
end Y
local macro_rules
  | `(tactic| walk_at "len") => `(tactic| first
    | exact Nat.le_trans (m := 1000) (Nat.le_of_ble_eq_true rfl) (by decide)
    | (simp only [List.length_append, List.length_cons, List.length_nil, List.length_map, List.length_take, List.length_drop, List.length_replicate]; exact Nat.le_trans (m := 100000) (by omega) (by decide)))
local macro_rules
  | `(tactic| walk_at "as") => `(tactic| with_reducible assumption)
local macro_rules
  | `(tactic| walk_at "ne") => `(tactic| first
    | walk_at "as"
    | ((with_reducible apply Ne.symm); walk_at "as")
    | ((with_reducible apply Y.ne1); (focus walk_at "as"); (focus walk_at "hp"))
    | ((with_reducible apply Y.ne2); (focus walk_at "as"); (focus walk_at "hp")))
local macro_rules
  | `(tactic| walk_at "hp") => `(tactic| first
    | walk_at "as"
    | with_reducible exact L2.upd_same
    | ((with_reducible apply Y.hp_ne); (focus walk_at "ne"); (focus walk_at "hp"))
    | ((with_reducible apply G.StAt.spec); (focus walk_at "as"))
    | ((with_reducible apply Y.same_hp); (focus walk_at "as"); (focus walk_at "hp"))
    | ((with_reducible apply G.Fr.at); (focus walk_at "as"); (focus walk_at "ne"); (focus walk_at "hp")))
local macro_rules
  | `(tactic| walk_at "st") => `(tactic| first
    | walk_at "as"
    | ((with_reducible apply Y.st_new); (focus walk_at "as"); (focus walk_at "st"))
    | ((with_reducible apply Y.st_own); (focus walk_at "hp"); (focus walk_at "ne"); (focus walk_at "st"))
    | ((with_reducible apply Y.st_dic); (focus walk_at "hp"); (focus walk_at "st")))
local macro_rules
  | `(tactic| walk_at "fr") => `(tactic| first
    | walk_at "as"
    | with_reducible apply G.Fr.refl
    | ((with_reducible apply Y.fr_new); (focus walk_at "as"); (focus walk_at "fr"))
    | ((with_reducible apply Y.fr_own); (focus walk_at "as"); (focus walk_at "fr"))
    | ((with_reducible apply Y.fr_tr); (focus walk_at "as"); (focus walk_at "fr")))
local macro_rules
  | `(tactic| walk_at "sm") => `(tactic| first
    | walk_at "as"
    | with_reducible apply L2.Same.refl
    | ((with_reducible apply Y.same_new); (focus walk_at "as"); (focus walk_at "sm"))
    | ((with_reducible apply Y.same_own); (focus walk_at "as"); (focus walk_at "sm"))
    | ((with_reducible apply Y.same_tr); (focus walk_at "as"); (focus walk_at "sm")))
local macro_rules
  | `(tactic| walk_at "tu") => `(tactic| first
    | walk_at "as"
    | with_reducible apply G.Tu.refl
    | ((with_reducible apply Y.tu_new); (focus walk_at "as"); (focus walk_at "tu"))
    | ((with_reducible apply Y.tu_lst); (focus walk_at "hp"); (focus walk_at "tu"))
    | ((with_reducible apply Y.tu_dic); (focus walk_at "hp"); (focus walk_at "tu"))
    | ((with_reducible apply Y.tu_fr); (focus walk_at "as"); (focus walk_at "st"); (focus walk_at "tu"))
    | ((with_reducible apply Y.tu_tr); (focus walk_at "as"); (focus walk_at "tu")))
local macro_rules
  | `(tactic| walk_at "sq") => `(tactic| first
    | walk_at "as"
    | ((with_reducible apply L2.SqL.of); (focus walk_at "hp"))
    | ((with_reducible apply L2.SqT.of); (focus walk_at "hp")))
local macro_rules
  | `(tactic| walk_at "ty") => `(tactic| first
    | exact Y.ty_i
    | exact Y.ty_s
    | exact Y.ty_b
    | exact Y.ty_n
    | ((refine' Y.ty_l (xs := ?tyxs) ?tyh); (case' tyh => walk_at "hp"))
    | ((refine' Y.ty_t (xs := ?tyxt) ?tyt); (case' tyt => walk_at "hp")))
local macro_rules
  | `(tactic| walk_at "t1") => `(tactic| first
    | ((with_reducible refine' Y.s_var (v := ?v) ?h ?q); (case' h => rfl))
    | with_reducible refine Y.s_c ?_
    | with_reducible refine Y.s_cons ?_
    | with_reducible refine Y.s_nil ?_
    | with_reducible refine Y.s_op ?_
    | ((with_reducible refine Y.s_nxq ?_); (with_reducible refine Y.s_nx ?_))
    | with_reducible refine Y.s_asg ?_
    | with_reducible refine Y.s_gName ?_
    | with_reducible refine Y.s_test ?_
    | with_reducible refine Y.s_bl ?_
    | with_reducible refine Y.s_T ?_
    | with_reducible refine Y.s_F ?_
    | with_reducible refine Y.s_ifS ?_
    | with_reducible refine Y.s_rI0 ?_
    | with_reducible refine Y.s_cb ?_
    | with_reducible refine Y.s_call ?_
    | with_reducible refine Y.s_ret ?_
    | with_reducible refine Y.s_retN ?_
    | ((with_reducible refine Y.s_rtq ?_); (with_reducible refine Y.s_rt ?_))
    | ((with_reducible refine' Y.s_ixL (xs := ?xs) (w := ?w) ?h ?e ?q); (case' h => walk_at "sq"); (case' e => rfl))
    | ((with_reducible refine' Y.s_ixL' (xs := ?xs) (w := ?w) ?h ?e ?q); (case' h => walk_at "sq"); (case' e => rfl))
    | with_reducible refine Y.s_tup ?_
    | ((with_reducible refine' Y.s_tupleL (xs := ?xs) ?h ?q); (case' h => walk_at "sq"))
    | ((with_reducible refine' Y.s_tupleT (xs := ?xs) ?h ?q); (case' h => walk_at "sq"))
    | with_reducible refine Y.s_eqS ?_
    | with_reducible refine Y.s_eqI ?_
    | with_reducible refine Y.s_gSub ?_
    | with_reducible refine Y.s_drop ?_
    | with_reducible refine Y.s_next ?_
    | with_reducible refine Y.s_un ?_
    | with_reducible refine Y.s_rU ?_
    | with_reducible refine Y.s_neI ?_
    | with_reducible refine Y.s_neS ?_
    | with_reducible refine Y.s_tB ?_
    | with_reducible refine Y.s_and ?_
    | with_reducible refine Y.s_or ?_
    | with_reducible refine Y.s_not ?_
    | with_reducible refine Y.s_if ?_
    | with_reducible refine Y.s_andV ?_
    | with_reducible refine Y.s_orV ?_
    | with_reducible refine Y.s_notV ?_
    | with_reducible refine Y.s_cf ?_
    | with_reducible refine Y.s_lst ?_
    | with_reducible refine Y.s_NT ?_
    | with_reducible refine Y.s_NF ?_
    | ((with_reducible refine' Y.s_ixT (xs := ?xs) (w := ?w) ?h ?e ?q); (case' h => walk_at "sq"); (case' e => rfl))
    | ((with_reducible refine' Y.s_ixT' (xs := ?xs) (w := ?w) ?h ?e ?q); (case' h => walk_at "sq"); (case' e => rfl))
    | with_reducible refine Y.s_pnil ?_
    | with_reducible refine Y.s_yes ?_
    | with_reducible refine Y.s_lc ?_
    | with_reducible refine Y.s_for ?_
    | with_reducible refine Y.s_rng1 ?_
    | with_reducible refine Y.s_itl ?_
    | with_reducible refine Y.s_itt ?_
    | with_reducible refine Y.s_pcons ?_
    | with_reducible refine Y.s_disp ?_
    | with_reducible refine Y.s_dget2 ?_
    | with_reducible refine Y.s_dgetq ?_
    | ((with_reducible refine' Y.s_modP ?h ?q); (case' h => decide +kernel))
    | ((with_reducible refine' Y.s_fdv ?h ?q); (case' h => decide +kernel))
    | ((with_reducible refine' Y.s_dgetS (kvs := ?kvs) (w := ?w) ?h ?e ?q); (case' h => walk_at "hp"); (case' e => rfl))
    | ((with_reducible refine' Y.s_isD (kvs := ?kvs) ?h ?q); (case' h => walk_at "hp"))
    | ((with_reducible refine' Y.s_inT (xs := ?xs) (b := true) ?h ?a ?b ?e ?q); (case' h => walk_at "sq"); (case' a => rfl); (case' b => rfl); (case' e => decide +kernel))
    | ((with_reducible refine' Y.s_inT (xs := ?xs) (b := false) ?h ?a ?b ?e ?q); (case' h => walk_at "sq"); (case' a => rfl); (case' b => rfl); (case' e => decide +kernel))
    | ((with_reducible refine' Y.s_dT ?h ?q); (case' h => decide +kernel))
    | ((with_reducible refine' Y.s_dF ?h ?q); (case' h => decide +kernel))
    | ((with_reducible refine' Y.s_dNT ?h ?q); (case' h => decide +kernel))
    | ((with_reducible refine' Y.s_dNF ?h ?q); (case' h => decide +kernel))
    | ((with_reducible refine' Y.s_cat (xs := ?xs) (ys := ?ys) ?h1 ?h2 ?hl ?q); (case' h1 => walk_at "hp"); (case' h2 => walk_at "hp"); (case' hl => walk_at "len"))
    | ((with_reducible refine' Y.s_setL (xs := ?xs) (k := ?k) ?h ?e ?q); (case' h => walk_at "hp"); (case' e => rfl))
    | ((with_reducible refine' Y.s_isi (S := ?sS) (b := true) ?sty ?sk ?sq); (case' sty => walk_at "ty"); (case' sk => decide +kernel))
    | ((with_reducible refine' Y.s_isi2 (S := ?sS) (cs := ?scs) (T1 := ?sT1) (T2 := ?sT2) (b := true) ?shT ?shc ?sty ?sk ?sq); (case' shT => walk_at "hp"); (case' shc => rfl); (case' sty => walk_at "ty"); (case' sk => decide +kernel))
    | ((with_reducible refine' Y.s_isi (S := ?sS) (b := false) ?sty ?sk ?sq); (case' sty => walk_at "ty"); (case' sk => decide +kernel))
    | ((with_reducible refine' Y.s_isi2 (S := ?sS) (cs := ?scs) (T1 := ?sT1) (T2 := ?sT2) (b := false) ?shT ?shc ?sty ?sk ?sq); (case' shT => walk_at "hp"); (case' shc => rfl); (case' sty => walk_at "ty"); (case' sk => decide +kernel))
    | with_reducible refine Y.s_isNn ?_
    | with_reducible refine Y.s_isNF Y.nn_ref ?_
    | with_reducible refine Y.s_isNF Y.nn_int ?_
    | with_reducible refine Y.s_isNF Y.nn_str ?_
    | with_reducible refine Y.s_isNF Y.nn_bl ?_
    | with_reducible refine Y.s_notNn ?_
    | with_reducible refine Y.s_notNF Y.nn_ref ?_
    | with_reducible refine Y.s_notNF Y.nn_int ?_
    | with_reducible refine Y.s_notNF Y.nn_str ?_
    | with_reducible refine Y.s_notNF Y.nn_bl ?_
    | ((with_reducible refine' Y.s_ne ?snh ?snq); (case' snh => rfl))
    | ((with_reducible refine' Y.s_eq ?snh ?snq); (case' snh => rfl))
    | with_reducible refine Y.s_intI ?_
    | with_reducible refine Y.s_intB ?_
    | ((with_reducible refine' Y.s_lenL (xs := ?xs) ?h ?q); (case' h => walk_at "sq"))
    | ((with_reducible refine' Y.s_lenT (xs := ?xs) ?h ?q); (case' h => walk_at "sq"))
    | ((with_reducible refine' Y.s_listL (xs := ?xs) ?h ?q); (case' h => walk_at "sq"))
    | ((with_reducible refine' Y.s_listT (xs := ?xs) ?h ?q); (case' h => walk_at "sq")))
local macro_rules
  | `(tactic| walk_at "s1") => `(tactic| first | walk_at "t1" | with_reducible refine Y.s_seq ?_)
local macro_rules
  | `(tactic| walk_at "t") => `(tactic| repeat walk_at "t1")
local macro_rules
  | `(tactic| walk_at "s") => `(tactic| repeat walk_at "s1")
local macro_rules
  | `(tactic| walk_at "b") => `(tactic| (dsimp only [L2.cxOf, L2.Cx.nox, L2.start, List.map, List.length, List.replicate, List.cons_append, List.nil_append, Nat.add_sub_add_right, Nat.sub_zero, Nat.zero_add, Nat.reduceAdd, Nat.reduceSub]; walk_at "s"))
/-! ### the head's hook, with one more Bool of the part of the heap -/
namespace G
open PySem PySem.Spec L2
def IntG (mg : Str → Option Value) (x : Str) (i : Int) : Prop := ∃ u, mg x = some u ∧ RelV (.int i) u
def StrG (mg : Str → Option Value) (x z : Str) : Prop := ∃ u, mg x = some u ∧ RelV (.str z) u
def TupG (K : PySem.W.Frag) (mg : Str → Option Value) (x : Str) (vs : List V) : Prop := ∃ a : Addr, (∃ u, mg x = some u ∧ RelV (.ref a) u) ∧ ∀ H : Hp, SqT K H a vs
def itemAt (x : Str) (i : Nat) (K : PySem.W.Frag) : Addr := match K.lookup (He.ga K x) with
  | some ⟨_, _, .seq its _, _⟩ => (match its.toList[i]? with
    | some (.ref a) => a
    | _ => 0)
  | _ => 0
def exAll (ex : List (PySem.W.Frag → Bool)) (K : PySem.W.Frag) : Bool := ex.all fun e => e K
theorem ex_at {ex : List (PySem.W.Frag → Bool)} {K : PySem.W.Frag} (i : Nat) (h : exAll ex K = true) {e : PySem.W.Frag → Bool} (hi : ex[i]? = some e) : e K = true :=
  List.all_eq_true.mp h e (List.mem_of_getElem? hi)
abbrev AlE : Type := He.AlT × Bool
section
variable (n : Nat) (fa : List He.Fa) (fn : List He.DefD) (ts : List He.Tab) (ex : List (PySem.W.Frag → Bool))
structure SaysE (w : World) (K : PySem.W.Frag) : Prop where
  t : He.SaysT fa fn ts w K
  ex : exAll ex K = true
def obE (g : Addr → Option Obj) : AlE := (He.obsTG n fa fn ts g, exAll ex (He.frG g (He.asD g n)))
def hookE : PySem.W.Hook where
  α := AlE
  obs := fun s => obE n fa fn ts ex s.heap.get?
  val := fun w => (He.valT fn ts w, true)
  says := fun w h => ∃ K : PySem.W.Frag, K.In h ∧ SaysE fa fn ts ex w K
  of := fun _ _ e => ⟨_, He.frG_in, congrArg (fun z : AlE => z.1) e, congrArg (fun z : AlE => z.2) e⟩
  keeps := fun _ _ _ ⟨K, hK, c⟩ k => ⟨K, PySem.W.Frag.In.keeps hK k, c⟩
theorem obE_eq {g : Addr → Option Obj} {s : Shared} (h : ∀ a, g a = s.heap.get? a) : obE n fa fn ts ex g = (hookE n fa fn ts ex).obs s := by
  have e : g = s.heap.get? := funext h
  rw [e] <;> rfl
end
end G
/-! ### more readings: tuples walked, zip of tuples, all, not in, == of lists of truths, and of two truths -/
namespace Y
open PySem L2 C8
section
variable {σ : L2.St} {H : Hp} {Q : VK} {v x y : V} {n k : Nat} {ta tb te : TE} {tt : TT} {A : TA} {K : PySem.W.Frag} {p p1 p2 : Addr} {xs ys : List V}
theorem s_all {bs : List Bool} (h : SqL K H p (bs.map V.bl)) (q : Q (.bl (bs.all id)) H) : rAll K [.ref p] H Q := ⟨p, bs, rfl, h, q⟩
theorem s_any {bs : List Bool} (h : SqL K H p (bs.map V.bl)) (q : Q (.bl (bs.any id)) H) : rAny K [.ref p] H Q := ⟨p, bs, rfl, h, q⟩
theorem s_ninT {b : Bool} (h : SqT K H p xs) (hx : flatV x = true) (hs : xs.all flatV = true) (hb : inV x xs = b) (q : Q (.bl (!b)) H) : rIn K true x (.ref p) H Q := ⟨p, xs, rfl, .inr h, hx, hs, by rw [hb]; exact q⟩
theorem all_true (n : Nat) : (List.replicate n true).all id = true := by induction n with
  | zero => rfl
  | succ n ih => rw [List.replicate_succ]; exact ih
theorem inV_strs (w : Str) : ∀ ws : List Str, inV (.str w) (ws.map V.str) = ws.contains w
  | [] => rfl
  | z :: r => by
    have h := inV_strs w r
    show (eqV (.str z) (.str w) || inV (.str w) (r.map V.str)) = (z :: r).contains w
    rw [h, List.contains_cons]
    show (z == w || _) = _
    rw [show (z == w) = (w == z) from by rw [Bool.eq_iff_iff, beq_iff_eq, beq_iff_eq]; exact ⟨Eq.symm, Eq.symm⟩]
theorem flat_strs : ∀ ws : List Str, (ws.map V.str).all flatV = true
  | [] => rfl
  | _ :: r => flat_strs r
/-- .. over a tuple -/
theorem s_lcT {a : Addr} (ha : SqT K H a xs) (h : ∀ D, H D = none → ∃ Inv : Nat → List V → Hp → Prop, Inv 0 [] (upd H D (.lst [])) ∧ (∀ i acc H, H D = some (.lst acc) → Inv i acc H → SqT K H a xs) ∧
      (∀ (i : Nat) x acc H, xs[i]? = some x → acc.length ≤ i → H D = some (.lst acc) → Inv i acc H → tt ((σ.set k none).set k (some x)) H fun b H3 =>
        if b = true then te ((σ.set k none).set k (some x)) H3 fun y H4 => ∃ acc, H4 D = some (.lst acc) ∧ acc.length < sizeLine ∧ LcP D Inv (i + 1) (upd H4 D (.lst (acc ++ [y]))) else LcP D Inv (i + 1) H3) ∧
      ∀ acc H, H D = some (.lst acc) → acc.length ≤ xs.length → Inv xs.length acc H → Q (.ref D) H) :
    TupRest K (LcRest (gName k) tt te [k] σ Q) (V.ref a) H := by
  refine ⟨a, rfl, ⟨xs, ha⟩, fun D hD => ?_⟩
  obtain ⟨Inv, i0, hq, ht, hd⟩ := h D hD
  refine lc_tup (K := K) (a := a) (xs := xs) (LcP D Inv) ⟨[], upd_same, Nat.zero_le _, i0⟩ (fun i H _ ⟨acc, ha, _, hv⟩ => hq i acc H ha hv) (fun i x H hi p => ?_) (fun H ⟨acc, ha, hl, hv⟩ => hd acc H ha hl hv)
  obtain ⟨acc, ha, hl, hv⟩ := p
  show (((σ.set k none).set k _).set k none) = σ.set k none ∧ _
  refine ⟨by rw [List.set_set, List.set_set], ht i x acc H hi hl ha hv⟩
/-- zip, behind its arguments -/
def ZipRest (K : PySem.W.Frag) (R : It → Hp → Prop) : List V → Hp → Prop := fun vs H1 => ∃ a b xs ys, vs = [.ref a, .ref b] ∧ ((SqL K H1 a xs ∧ SqL K H1 b ys ∧ R (Itz K a b) H1) ∨ (SqT K H1 a xs ∧ SqT K H1 b ys ∧ R (RZ.ItzT K a b) H1))
theorem s_zip {R : It → Hp → Prop} (q : A σ H (ZipRest K R)) : RZ.iZipA K A σ H R := q
theorem walk_zipT {a b : Addr} (hl : xs.length = ys.length) : Walk (RZ.ItzT K a b) xs.length (fun H => SqT K H a xs ∧ SqT K H b ys) (YPair (fun i => xs[i]?) (fun i => ys[i]?)) :=
  ⟨fun i H hi q => ⟨xs, ys, xs[i], ys[i]'(by omega), q.1, q.2, List.getElem?_eq_getElem hi, List.getElem?_eq_getElem (by omega)⟩,
    fun H q => ⟨xs, ys, q.1, q.2, Or.inl (Nat.le_refl _)⟩,
    fun i H x H' hi q ⟨T, u, v, e1, e2, e3, f1, f2⟩ => ⟨T, u, v, e1, e2, e3, f1 xs q.1, f2 ys q.2⟩⟩
theorem s_lcZT {a b : Addr} {g : TG} {vs : List Nat} (ha : SqT K H a xs) (hb : SqT K H b ys) (hl : xs.length = ys.length)
    (h : ∀ D, H D = none → ∃ Inv : Nat → List V → Hp → Prop, Inv 0 [] (upd H D (.lst [])) ∧ (∀ i acc H, H D = some (.lst acc) → Inv i acc H → SqT K H a xs ∧ SqT K H b ys) ∧
      (∀ (i : Nat) x y T acc H, xs[i]? = some x → ys[i]? = some y → acc.length ≤ i → H D = some (.lst acc) → Inv i acc H → H T = none → g (.ref T) (wipe σ vs) (upd H T (.tup [x, y])) fun σ2 H2 => wipe σ2 vs = wipe σ vs ∧ tt σ2 H2 fun b H3 =>
        if b = true then te σ2 H3 fun y H4 => ∃ acc, H4 D = some (.lst acc) ∧ acc.length < sizeLine ∧ LcP D Inv (i + 1) (upd H4 D (.lst (acc ++ [y]))) else LcP D Inv (i + 1) H3) ∧
      ∀ acc H, H D = some (.lst acc) → acc.length ≤ xs.length → Inv xs.length acc H → Q (.ref D) H) :
    ZipRest K (LcRest g tt te vs σ Q) [V.ref a, V.ref b] H := by
  refine ⟨a, b, xs, ys, rfl, .inr ⟨ha, hb, fun D hD => ?_⟩⟩
  obtain ⟨Inv, i0, hq, ht, hd⟩ := h D hD
  refine lc_it (walk_zipT hl) (LcP D Inv) ⟨[], upd_same, Nat.zero_le _, i0⟩ (fun i H _ ⟨acc, ha, _, hv⟩ => hq i acc H ha hv) (fun i z H H' hi p yy => ?_) (fun H ⟨acc, ha, hl, hv⟩ => hd acc H ha hl hv)
  obtain ⟨acc, ha, hl, hv⟩ := p
  obtain ⟨T, u, v, rfl, hT, rfl, f1, f2⟩ := yy
  exact ht i u v T acc H f1 f2 hl ha hv hT
/-- a target of names, written as a tuple -/
theorem s_gTup {t : TGs} {Q : L2.St → Hp → Prop} (h : SqT K H p xs) (hl : xs.length = n) (q : t xs σ H Q) : gTup K n t (.ref p) σ H Q := ⟨p, xs, rfl, h, hl, q⟩
theorem s_gCons {t : TG} {u : TGs} {Q : L2.St → Hp → Prop} (q : t v σ H fun σ' H' => u xs σ' H' Q) : gCons t u (v :: xs) σ H Q := ⟨v, xs, rfl, q⟩
theorem s_gNil {Q : L2.St → Hp → Prop} (q : Q σ H) : gNil [] σ H Q := ⟨rfl, q⟩
theorem dp_bools : ∀ bs : List Bool, DpAll K H (bs.map V.bl) (bs.map PyData.bool)
  | [] => .nil
  | b :: r => .cons (.bl b) (dp_bools r)
theorem s_eqBools {as bs : List Bool} {c : Bool} (h1 : SqL K H p1 (as.map V.bl)) (h2 : SqL K H p2 (bs.map V.bl)) (s1 : SeqAt.shaped (.list (as.map PyData.bool)) = true) (s2 : SeqAt.shaped (.list (bs.map PyData.bool)) = true) (e : PyData.eqv (.list (as.map .bool)) (.list (bs.map .bool)) = c) (q : Q (.bl c) H) : rEqD K (.ref p1) (.ref p2) H Q :=
  ⟨_, _, .lst h1 (dp_bools as), .lst h2 (dp_bools bs), s1, s2, by rw [e]; exact q⟩
theorem s_isNb {b : Bool} (h : (b = true ∧ x = .non) ∨ (b = false ∧ x ≠ .non)) (q : Q (.bl b) H) : rIsN x .non H Q := by
  rcases h with ⟨rfl, rfl⟩ | ⟨rfl, h⟩
  · exact s_isNn q
  · exact s_isNF h q
theorem s_neB {a b : Bool} (q : Q (.bl (a != b)) H) : rNe (.bl a) (.bl b) H Q := ⟨rfl, by
  rw [show (!decide (V.bl a = V.bl b)) = (a != b) from by cases a <;> cases b <;> rfl]; exact q⟩
/-- the end of a and b, both truths -/
theorem s_andVV {b0 b1 : Bool} (hb : ∀ Q' : VK, Q' (.bl b1) H → tb σ H Q') (q : Q (.bl (b0 && b1)) H) : if b0 = true then tb σ H Q else Q (.bl false) H := by
  cases b0 with
  | false => exact s_F q
  | true => exact s_T (hb _ q)
theorem s_stq {Q : List V → Hp → Prop} (q : te σ H fun x H1 => ∃ p xs, x = V.ref p ∧ (SqT K H1 p xs ∨ SqL K H1 p xs) ∧ A σ H1 fun ys H2 => Q (xs ++ ys) H2) : StX.tStar K te A σ H Q := q
theorem s_rep {k : Int} (h : H p = some (.lst xs)) (h0 : -(2 ^ 63) ≤ k) (h1 : k < 2 ^ 63) (hl : xs.length * k.toNat ≤ sizeLine) (q : ∀ p, H p = none → Q (.ref p) (upd H p (.lst (List.replicate k.toNat xs).flatten))) : rRep (.ref p) (.int k) H Q := ⟨p, k, xs, rfl, rfl, h, h0, h1, hl, q⟩
end
end Y
/-! ### a dict of the module with text keys -/
namespace Y
open PySem PySem.Spec PyProof.Rows L2
def valZ (kvs : List (Str × V)) (z : Str) : Option V := (kvs.find? fun q => decide (q.1 = z)).map (·.2)
def KdAt (K : PySem.W.Frag) (d : Addr) (z : Str) : Option V → Prop
  | some v => ∃ u, PySem.W.nsIn K d z = some (some u) ∧ RelV v u
  | none => PySem.W.nsIn K d z = some none
def DictAt (K : PySem.W.Frag) (w : World) (d : Addr) (kvs : List (Str × V)) : Prop := (∃ es n, KDict K w d es n) ∧ ∀ z, KdAt K d z (valZ kvs z)
def rInDict (d : Addr) (kvs : List (Str × V)) (neg : Bool) : R2 := fun x y H Q => ∃ z, x = .str z ∧ y = .ref d ∧ Q (.bl (if neg then !(valZ kvs z).isSome else (valZ kvs z).isSome)) H
def rIxDict (d : Addr) (kvs : List (Str × V)) : R2 := fun x y H Q => ∃ z v, x = .ref d ∧ y = .str z ∧ valZ kvs z = some v ∧ Q v H
theorem kdAt_some {K : PySem.W.Frag} {d : Addr} {z : Str} {o : Option V} (h : KdAt K d z o) : ∃ r : Option Value, PySem.W.nsIn K d z = some r ∧ r.isSome = o.isSome := by
  cases o with
  | none => exact ⟨_, h, rfl⟩
  | some v => obtain ⟨u, h, _⟩ := h; exact ⟨_, h, rfl⟩
section
variable {X : Cx} {d : Addr} {kvs : List (Str × V)}
theorem op_in_dict (D : DictAt X.K X.w d kvs) : OpR X (compareOp .In) (rInDict d kvs false) := by
  obtain ⟨⟨es, n, D⟩, f⟩ := D
  intro pins s σ H x y v u Q I rx ry h
  obtain ⟨z, rfl, rfl, q⟩ := h
  obtain ⟨r, e, es⟩ := kdAt_some (f z)
  exact op_in_kd D pins s σ H _ _ v u Q I rx ry ⟨z, r, rfl, rfl, e, by rw [es]; exact q⟩
theorem op_notIn_dict (D : DictAt X.K X.w d kvs) : OpR X (compareOp .NotIn) (rInDict d kvs true) := by
  obtain ⟨⟨es, n, D⟩, f⟩ := D
  intro pins s σ H x y v u Q I rx ry h
  obtain ⟨z, rfl, rfl, q⟩ := h
  obtain ⟨r, e, es⟩ := kdAt_some (f z)
  exact op_notIn_kd D pins s σ H _ _ v u Q I rx ry ⟨z, r, rfl, rfl, e, by rw [es]; exact q⟩
theorem ix_dict (D : DictAt X.K X.w d kvs) : IxR X (rIxDict d kvs) := by
  obtain ⟨⟨es, n, D⟩, f⟩ := D
  intro value slice pins s σ H x y v u Q I rx ry h hs
  obtain ⟨z, r, rfl, rfl, e, q⟩ := h
  have g := f z
  rw [e] at g
  obtain ⟨u0, e2, rr⟩ := g
  exact ix_kdict value slice pins s σ H _ _ v u Q I rx ry ⟨d, z, r, rfl, rfl, ⟨es, n, u0, D.at_, D.lit, e2, rr⟩, q⟩ hs
theorem s_inDict {H : Hp} {Q : VK} {z : Str} {b : Bool} (e : (valZ kvs z).isSome = b) (q : Q (.bl b) H) : rInDict d kvs false (.str z) (.ref d) H Q := ⟨z, rfl, rfl, by rw [e]; exact q⟩
theorem s_ninDict {H : Hp} {Q : VK} {z : Str} {b : Bool} (e : (valZ kvs z).isSome = b) (q : Q (.bl (!b)) H) : rInDict d kvs true (.str z) (.ref d) H Q := ⟨z, rfl, rfl, by rw [e]; exact q⟩
theorem s_ixDict {H : Hp} {Q : VK} {z : Str} {v : V} (e : valZ kvs z = some v) (q : Q v H) : rIxDict d kvs (.ref d) (.str z) H Q := ⟨z, v, rfl, rfl, e, q⟩
end
end Y
namespace G
open PySem PySem.Spec L2 Y
/-! its facts in the head -/
def valAt (x z : Str) (K : PySem.W.Frag) : Addr := match PySem.W.nsIn K (He.ga K x) z with
  | some (some (.ref a)) => a
  | _ => 0
/-- a tuple at an address found by a path -/
def tupP (K : PySem.W.Frag) (p : PySem.W.Frag → Addr) (vs : List He.Dv) : Bool := match K.lookup (p K) with
  | some ⟨.type c, _, .seq its _, _⟩ => decide (c = "tuple") && (decide (its.size ≤ sizeLine) && He.relAll (vs.map (He.Dv.v K)) its.toList)
  | _ => false
theorem tupP_ok {K : PySem.W.Frag} {p : PySem.W.Frag → Addr} {vs : List He.Dv} (h : tupP K p vs = true) (H : Hp) : SqT K H (p K) (vs.map (He.Dv.v K)) := by
  unfold tupP at h
  split at h
  · rename_i c od its n sl q
    obtain ⟨h1, h2⟩ := He.ba h
    obtain ⟨h3, h4⟩ := He.ba h2
    exact .inr ⟨_, its, n, q, congrArg Value.type (of_decide_eq_true h1), rfl, of_decide_eq_true h3, He.relAll_ok h4⟩
  · cases h
def keysB (K : PySem.W.Frag) (x : Str) (ks : List Str) : Bool := match K.lookup (He.ga K x) with
  | some ⟨_, _, .dict es _, _⟩ => (es.toList.all fun e => ks.any fun z => e.key.isStr z) && !(es.toList.any fun e => e.refKey)
  | _ => false
theorem keysB_none {K : PySem.W.Frag} {x : Str} {ks : List Str} (h : keysB K x ks = true) {z : Str} (hz : z ∉ ks) : PySem.W.nsIn K (He.ga K x) z = some none := by
  unfold keysB at h
  split at h
  · rename_i a b es n sl q
    obtain ⟨h1, h2⟩ := He.ba h
    unfold PySem.W.nsIn
    rw [q]
    have e1 : es.toList.find? (fun e => e.key.isStr z) = none := by
      refine List.find?_eq_none.mpr fun e he hk => ?_
      obtain ⟨y, hy, hk2⟩ := List.any_eq_true.mp (List.all_eq_true.mp h1 e he)
      exact hz (by rw [Value.isStr_inj _ _ _ hk hk2]; exact hy)
    have e2 : (es.toList.any fun e => e.refKey) = false := by
      cases c : es.toList.any fun e => e.refKey with
      | false => rfl
      | true => rw [c] at h2; cases h2
    show (match es.toList.find? (fun e => e.key.isStr z) with
      | some e => some (some e.val)
      | none => if (es.toList.any fun e => e.refKey) then none else some none) = some none
    rw [e1, e2]
    rfl
  · cases h
theorem dictAt_of {K : PySem.W.Frag} {w : World} {x : Str} {kvs : List (Str × He.Dv)} (D : ∃ es n, KDict K w (He.ga K x) es n) (hk : keysB K x (kvs.map (·.1)) = true) (hv : He.valsB K (He.ga K x) kvs = true) : DictAt K w (He.ga K x) (kvs.map fun q => (q.1, q.2.v K)) := by
  refine ⟨D, fun z => ?_⟩
  unfold valZ
  cases e : (kvs.map fun q => (q.1, q.2.v K)).find? fun q => decide (q.1 = z) with
  | none =>
    show PySem.W.nsIn K _ z = some none
    refine keysB_none hk fun m => ?_
    obtain ⟨q, hq, e2⟩ := List.mem_map.mp m
    have := List.find?_eq_none.mp e (q.1, q.2.v K) (List.mem_map_of_mem hq)
    exact this (decide_eq_true e2)
  | some p =>
    have h1 := List.find?_some e
    have h2 := List.mem_of_find?_eq_some e
    obtain ⟨q, hq, rfl⟩ := List.mem_map.mp h2
    obtain ⟨u, h3, h4⟩ := He.valsB_ok hv hq
    have e3 : q.1 = z := of_decide_eq_true h1
    show ∃ u, PySem.W.nsIn K _ z = some (some u) ∧ RelV (q.2.v K) u
    exact ⟨u, by rw [← e3]; exact h3, h4⟩
end G
namespace G
open PySem L2 C8
def top (i : Nat) : Stmt := PySem.Challenge.pw_guestworlds_k15_written_and_read.main.body.getD i (.Pass ⟨0, 0, 0, 0⟩)
/-- what the top leaves of the built-ins -/
structure Txt (K : PySem.W.Frag) (mg : Str → Option Value) : Prop where
  n_all : mg "all" = none
  n_any : mg "any" = none
  n_bool : mg "bool" = none
  n_enumerate : mg "enumerate" = none
  n_int : mg "int" = none
  n_isinstance : mg "isinstance" = none
  n_len : mg "len" = none
  n_list : mg "list" = none
  n_range : mg "range" = none
  n_str : mg "str" = none
  n_tuple : mg "tuple" = none
  n_zip : mg "zip" = none
def spDrawn (K : PySem.W.Frag) : Sp := fun vs H Q _ => ∃ (a : Addr) (k : Int), vs = [.ref a, .int k] ∧ StAt K H a ∧ 0 < k ∧ k < 1000000 ∧ ∀ (x : Int) (H' : Hp), 0 ≤ x → x < k → Fr a H H' → StAt K H' a → Q (.int x) H'
theorem u_drawn {K : PySem.W.Frag} {H : Hp} {Q : VK} {E : XK} {a : Addr} {k : Int} (h : StAt K H a) (h0 : 0 < k) (h1 : k < 1000000) (q : ∀ (x : Int) (H' : Hp), 0 ≤ x → x < k → Fr a H H' → StAt K H' a → Q (.int x) H') : spDrawn K ([.ref a, .int k] ++ []) H Q E :=
  ⟨a, k, rfl, h, h0, h1, q⟩
section
variable {P : Program} {w : World} {K : PySem.W.Frag} {mg : Str → Option Value} {base : Heap}
abbrev s__law_drawn : Stmt := top 25
theorem sc__law_drawn : FnScope ["_law_state", "_law_many", "_law_found", "_law_cell"] ["_law_state", "_law_many"] (fnScope s__law_drawn) := fnScope_by (by decide +kernel)
theorem ok__law_drawn {f : Addr} {fd : FuncData} (F : Def K mg "_law_drawn" s__law_drawn f fd) (b : Binds K fd ["_law_state", "_law_many"] []) (T : Txt K mg) : Cal P w K mg base 1 "_law_drawn" (spDrawn K) [] := by
  refine cal0 F b .nil sc__law_drawn (fun vs H Q E h => ?_) (fun cdv A outer s H vs Q E hr h => ?_)
  · obtain ⟨a, k, rfl, _⟩ := h
    rfl
  · obtain ⟨a, k, rfl, ⟨s, ns, i, m, r, hA, hs, h0, h1, h2⟩, hk, hk2, q⟩ := h
    have nd := sc__law_drawn.nd
    refine ⟨_, (pss_cons (ps_if (pt_cmpR op_gt (pe_ix ix_seq (pv 0) pe_int (fun _ _ => rfl)) pe_int (nomark _))
      (pss_cons (ps_set (i := 2) nd rfl (by first | exact Or.inl rfl | exact Or.inr rfl) (pe_op op_mod (pe_ix ix_seq (pv 0) pe_int (fun _ _ => rfl)) (pv 1)))
      (pss_cons (ps_asg (pe_op op_fdivN (pe_ix ix_seq (pv 0) pe_int (fun _ _ => rfl)) (pv 1)) (pg_sub (pv 0) pe_int set_list))
      (pss_one (ps_ret (pv 2)))))
      pss_nil)
      (pss_cons (ps_asg (pe_op op_add (pe_ix ix_seq (pv 0) pe_int (fun _ _ => rfl)) pe_int) (pg_sub (pv 0) pe_int set_list))
      (pss_cons (ps_if (pt_cmpR op_le (pe_ix ix_seq (pv 0) pe_int (fun _ _ => rfl)) (pe_callB Y.cl_len (by rfl) T.n_len PySem.boot_len (pa_cons (pe_ix ix_seq (pv 0) pe_int (fun _ _ => rfl)) pa_nil)) (nomark _))
      (pss_cons (ps_set (i := 3) nd rfl (by first | exact Or.inl rfl | exact Or.inr rfl) (pe_ix ix_seq (pe_ix ix_seq (pv 0) pe_int (fun _ _ => rfl)) (pe_op op_sub (pe_ix ix_seq (pv 0) pe_int (fun _ _ => rfl)) pe_int) (fun _ _ => rfl)))
      (pss_cons (ps_asg (pe_ifExp (pt_cmpR op_ge (pv 3) (pe_op op_pow pe_int pe_int) (nomark _)) (pe_op op_fdivN (pv 3) (pv 1)) pe_int) (pg_sub (pv 0) pe_int set_list))
      (pss_one (ps_ret (pe_op op_mod (pv 3) (pv 1))))))
      pss_nil)
      (pss_cons (ps_asg (pe_op op_mod (pe_op op_add (pe_op op_mul (pe_ix ix_seq (pv 0) pe_int (fun _ _ => rfl)) pe_int) pe_int) pe_int) (pg_sub (pv 0) pe_int set_list))
      (pss_one (ps_ret (pe_op op_mod (pe_op op_fdivN (pe_ix ix_seq (pv 0) pe_int (fun _ _ => rfl)) pe_int) (pv 1)))))))), ?_⟩
    have hx : ∀ o, Lk K (upd H a o) s (ns.map V.int) := fun o => hs.upd hA
    have hs' : ∀ o, SqL K (upd H a o) s (ns.map V.int) := fun o => (hx o).sq
    have f' : ∀ o, Fr a H (upd H a o) := fun o => (Fr.refl a H).upd
    have f2 : ∀ o u, Fr a H (upd (upd H a o) a u) := fun o u => (f' o).upd
    walk_at "b"
    refine Y.s_d2 (fun hr0 => ?_) (fun hr0 => ?_)
    · walk_at "s"
      refine Y.s_rI hk ?_
      walk_at "s"
      refine Y.s_rI ⟨by omega, by omega⟩ ?_
      walk_at "s"
      exact q _ _ (Int.emod_nonneg _ (by omega)) (Int.emod_lt_of_pos _ hk) (f' _) ⟨s, ns, i, m, _, upd_same, hx _, h0, h1, h2⟩
    · walk_at "s"
      refine Y.s_lenL (hs' _) ?_
      walk_at "s"
      refine Y.s_d2 (fun hl => ?_) (fun hl => ?_)
      · walk_at "s"
        rw [List.length_map] at hl
        obtain ⟨c, hc⟩ : ∃ c, ns[i.toNat]? = some c := ⟨_, List.getElem?_eq_getElem (by omega)⟩
        refine Y.s_ixL (hs' _) (at_of (j := i.toNat) (v := .int c) (by omega) (by rw [List.getElem?_map, hc]; rfl)) ?_
        walk_at "s"
        refine Y.s_rI ⟨by decide, by decide, by decide⟩ ?_
        walk_at "s"
        refine Y.s_d2 (fun hb => ?_) (fun hb => ?_)
        · walk_at "s"
          refine Y.s_rI ⟨by omega, by omega⟩ ?_
          walk_at "s"
          refine Y.s_rI hk ?_
          walk_at "s"
          exact q _ _ (Int.emod_nonneg _ (by omega)) (Int.emod_lt_of_pos _ hk) (f2 _ _) ⟨s, ns, i + 1, m, _, upd_same, (hx _).upd upd_same, by omega, h1, h2⟩
        · walk_at "s"
          refine Y.s_rI hk ?_
          walk_at "s"
          exact q _ _ (Int.emod_nonneg _ (by omega)) (Int.emod_lt_of_pos _ hk) (f2 _ _) ⟨s, ns, i + 1, m, _, upd_same, (hx _).upd upd_same, by omega, h1, h2⟩
      · walk_at "s"
        refine Y.s_rI (.inl ⟨by omega, by omega⟩) ?_
        walk_at "s"
        refine Y.s_rI hk ?_
        walk_at "s"
        exact q _ _ (Int.emod_nonneg _ (by omega)) (Int.emod_lt_of_pos _ hk) (f2 _ _) ⟨s, ns, i + 1, _, r, upd_same, (hx _).upd upd_same, by omega, Int.emod_nonneg _ (by omega), Int.emod_lt_of_pos _ (by omega)⟩
def spStart (K : PySem.W.Frag) : Sp := fun vs H Q _ => ∃ (s : Addr) (ns : List Int), vs = [.ref s] ∧ Lk K H s (ns.map V.int) ∧ ∀ (a : Addr) (H' : Hp), H a = none → Same H H' → StAt K H' a → Q (.ref a) H'
abbrev s__law_start : Stmt := top 24
theorem sc__law_start : FnScope ["_law_script", "_law_mixed", "_law_cell"] ["_law_script"] (fnScope s__law_start) := fnScope_by (by decide +kernel)
theorem ok__law_start {f : Addr} {fd : FuncData} (F : Def K mg "_law_start" s__law_start f fd) (b : Binds K fd ["_law_script"] []) (T : Txt K mg) : Cal P w K mg base 1 "_law_start" (spStart K) [] := by
  refine cal0 F b .nil sc__law_start (fun vs H Q E h => ?_) (fun cdv A outer s H vs Q E hr h => ?_)
  · obtain ⟨a, k, rfl, _⟩ := h
    rfl
  · obtain ⟨s, ns, rfl, hs, q⟩ := h
    have nd := sc__law_start.nd
    refine ⟨_, (pss_cons (ps_set (i := 1) nd rfl (by first | exact Or.inl rfl | exact Or.inr rfl) pe_int)
      (pss_cons (ps_for PassesOwn.never rfl (pi_list (pv 0)) (pg_name (i := 2) nd rfl (by first | exact Or.inl rfl | exact Or.inr rfl))
      (pss_one (ps_set (i := 1) nd rfl (by first | exact Or.inl rfl | exact Or.inr rfl) (pe_op op_mod (pe_op op_add (pe_op op_add (pe_op op_mul (pv 1) pe_int) (pv 2)) pe_int) pe_int))))
      (pss_one (ps_ret (pe_lst (pa_cons (pv 0) (pa_cons pe_int (pa_cons (pv 1) (pa_cons pe_int pa_nil))))))))), ?_⟩
    walk_at "b"
    refine Y.s_forL hs.sq (fun i σ H' => H' = H ∧ ∃ (m : Int) (v : Option V), σ = [some (.ref s), some (.int m), v] ∧ 0 ≤ m ∧ m < 2147483647) ⟨rfl, _, _, rfl, by decide, by decide⟩ (fun i σ H' ⟨e, _⟩ => e ▸ hs.sq) ?_ ?_
    · rintro i x σ H' hi ⟨rfl, m, v, rfl, h0, h1⟩
      obtain ⟨u, rfl⟩ : ∃ u, x = V.int u := by
        rw [List.getElem?_map] at hi
        cases e : ns[i]? with
        | none => rw [e] at hi; cases hi
        | some u => rw [e] at hi; exact ⟨u, (Option.some.inj hi).symm⟩
      walk_at "s"
      refine Y.s_rI (.inl ⟨by omega, by omega⟩) ?_
      walk_at "s"
      exact ⟨rfl, _, _, rfl, Int.emod_nonneg _ (by omega), Int.emod_lt_of_pos _ (by omega)⟩
    · rintro σ H' ⟨rfl, m, v, rfl, h0, h1⟩
      walk_at "s"
      refine ⟨by show 4 ≤ sizeLine; decide, fun p hp => ?_⟩
      walk_at "s"
      exact q p _ hp (fun b o e => by rw [upd_ne (ne_of_none e hp)]; exact e) ⟨s, ns, 0, m, 0, upd_same, hs.new hp, by decide, h0, h1⟩
end
end G
/-! ### the head, with tables: what the top leaves, by one run -/
namespace G
open PySem L2 C8
def d_is_number : He.DefD := ⟨("is_number", none), "is_number", "is_number", fnArgs (top 7), fnBody (top 7), fnScope (top 7), [], []⟩
def d_is_row : He.DefD := ⟨("is_row", none), "is_row", "is_row", fnArgs (top 8), fnBody (top 8), fnScope (top 8), [], []⟩
def d_is_thing : He.DefD := ⟨("is_thing", none), "is_thing", "is_thing", fnArgs (top 9), fnBody (top 9), fnScope (top 9), [], []⟩
def d_check_cells : He.DefD := ⟨("check_cells", none), "check_cells", "check_cells", fnArgs (top 13), fnBody (top 13), fnScope (top 13), [], []⟩
def d_written : He.DefD := ⟨("written", none), "written", "written", fnArgs (top 17), fnBody (top 17), fnScope (top 17), [], []⟩
def d_written_thing : He.DefD := ⟨("written_thing", none), "written_thing", "written_thing", fnArgs (top 18), fnBody (top 18), fnScope (top 18), [], []⟩
def d_read : He.DefD := ⟨("read", none), "read", "read", fnArgs (top 19), fnBody (top 19), fnScope (top 19), [], []⟩
def d_is_written : He.DefD := ⟨("is_written", none), "is_written", "is_written", fnArgs (top 20), fnBody (top 20), fnScope (top 20), [], []⟩
def d_is_figures : He.DefD := ⟨("is_figures", none), "is_figures", "is_figures", fnArgs (top 21), fnBody (top 21), fnScope (top 21), [], []⟩
def d_thing_of : He.DefD := ⟨("thing_of", none), "thing_of", "thing_of", fnArgs (top 22), fnBody (top 22), fnScope (top 22), [], []⟩
def d__law_start : He.DefD := ⟨("_law_start", none), "_law_start", "_law_start", fnArgs (top 24), fnBody (top 24), fnScope (top 24), [], []⟩
def d__law_drawn : He.DefD := ⟨("_law_drawn", none), "_law_drawn", "_law_drawn", fnArgs (top 25), fnBody (top 25), fnScope (top 25), [], []⟩
def d__law_same : He.DefD := ⟨("_law_same", none), "_law_same", "_law_same", fnArgs (top 26), fnBody (top 26), fnScope (top 26), [], []⟩
def d__law_number : He.DefD := ⟨("_law_number", none), "_law_number", "_law_number", fnArgs (top 27), fnBody (top 27), fnScope (top 27), [], []⟩
def d__law_row : He.DefD := ⟨("_law_row", none), "_law_row", "_law_row", fnArgs (top 28), fnBody (top 28), fnScope (top 28), [], []⟩
def d__law_any : He.DefD := ⟨("_law_any", none), "_law_any", "_law_any", fnArgs (top 29), fnBody (top 29), fnScope (top 29), [], []⟩
def d__law_ruler : He.DefD := ⟨("_law_ruler", none), "_law_ruler", "_law_ruler", fnArgs (top 30), fnBody (top 30), fnScope (top 30), [], []⟩
def d__law_cells : He.DefD := ⟨("_law_cells", none), "_law_cells", "_law_cells", fnArgs (top 31), fnBody (top 31), fnScope (top 31), [], []⟩
def d__law_kind : He.DefD := ⟨("_law_kind", none), "_law_kind", "_law_kind", fnArgs (top 32), fnBody (top 32), fnScope (top 32), [], []⟩
def d__law_ear : He.DefD := ⟨("_law_ear", none), "_law_ear", "_law_ear", fnArgs (top 33), fnBody (top 33), fnScope (top 33), [], []⟩
def d_law : He.DefD := ⟨("law", none), "law", "law", fnArgs (top 34), fnBody (top 34), fnScope (top 34), [], []⟩
def hfn : List He.DefD := [d_is_number, d_is_row, d_is_thing, d_check_cells, d_written, d_written_thing, d_read, d_is_written, d_is_figures, d_thing_of, d__law_start, d__law_drawn, d__law_same, d__law_number, d__law_row, d__law_any, d__law_ruler, d__law_cells, d__law_kind, d__law_ear, d_law]
def hfa : List He.Fa := ([.glo "WorldError", .glo "BadCells", .glo "BadText", .glo "is_number", .glo "is_row", .glo "is_thing", .glo "check_cells", .glo "written", .glo "written_thing", .glo "read", .glo "is_written", .glo "is_figures", .glo "thing_of", .glo "_law_start", .glo "_law_drawn", .glo "_law_same", .glo "_law_number", .glo "_law_row", .glo "_law_any", .glo "_law_ruler", .glo "_law_cells", .glo "_law_kind", .glo "_law_ear", .glo "law", .int "LAST_NUMBER" 999, .glo "LIMITS", .int "FEWEST_CELLS" 16, .int "MOST_CELLS" 40, .str "FIGURES" "0123456789", .int "MOST_FIGURES" 3] : List He.Fa) ++ ([.free "all", .free "any", .free "bool", .free "enumerate", .free "int", .free "isinstance", .free "len", .free "list", .free "range", .free "str", .free "tuple", .free "zip"] : List He.Fa)
def loose : List PySem.Str := (["WorldError", "BadCells", "BadText", "LAST_NUMBER", "LIMITS", "is_number", "is_row", "is_thing", "FEWEST_CELLS", "MOST_CELLS", "check_cells", "FIGURES", "MOST_FIGURES", "written", "written_thing", "read", "is_written", "is_figures", "thing_of", "_law_start", "_law_drawn", "_law_same", "_law_number", "_law_row", "_law_any", "_law_ruler", "_law_cells", "_law_kind", "_law_ear"] : List PySem.Str)
def hex : List (PySem.W.Frag → Bool) := [fun K => keysB K "LIMITS" (([("put", .adr (valAt "LIMITS" "put")), ("add", .adr (valAt "LIMITS" "add")), ("less", .adr (valAt "LIMITS" "less")), ("load", .adr (valAt "LIMITS" "load")), ("store", .adr (valAt "LIMITS" "store")), ("zero", .adr (valAt "LIMITS" "zero")), ("go", .adr (valAt "LIMITS" "go")), ("call", .adr (valAt "LIMITS" "call")), ("say", .adr (valAt "LIMITS" "say")), ("hear", .adr (valAt "LIMITS" "hear")), ("which", .adr (valAt "LIMITS" "which")), ("room", .adr (valAt "LIMITS" "room")), ("enter", .adr (valAt "LIMITS" "enter")), ("alarm", .adr (valAt "LIMITS" "alarm")), ("stop", .adr (valAt "LIMITS" "stop"))] : List (PySem.Str × He.Dv)).map (·.1)),
  fun K => He.valsB K (He.ga K "LIMITS") ([("put", .adr (valAt "LIMITS" "put")), ("add", .adr (valAt "LIMITS" "add")), ("less", .adr (valAt "LIMITS" "less")), ("load", .adr (valAt "LIMITS" "load")), ("store", .adr (valAt "LIMITS" "store")), ("zero", .adr (valAt "LIMITS" "zero")), ("go", .adr (valAt "LIMITS" "go")), ("call", .adr (valAt "LIMITS" "call")), ("say", .adr (valAt "LIMITS" "say")), ("hear", .adr (valAt "LIMITS" "hear")), ("which", .adr (valAt "LIMITS" "which")), ("room", .adr (valAt "LIMITS" "room")), ("enter", .adr (valAt "LIMITS" "enter")), ("alarm", .adr (valAt "LIMITS" "alarm")), ("stop", .adr (valAt "LIMITS" "stop"))] : List (PySem.Str × He.Dv)),
  fun K => tupP K (valAt "LIMITS" "put") [.int 3, .int 999],
  fun K => tupP K (valAt "LIMITS" "add") [.int 3, .int 3, .int 3],
  fun K => tupP K (valAt "LIMITS" "less") [.int 3, .int 3, .int 3],
  fun K => tupP K (valAt "LIMITS" "load") [.int 3, .int 3],
  fun K => tupP K (valAt "LIMITS" "store") [.int 3, .int 3],
  fun K => tupP K (valAt "LIMITS" "zero") [.int 3, .int 999],
  fun K => tupP K (valAt "LIMITS" "go") [.int 999],
  fun K => tupP K (valAt "LIMITS" "call") [.int 999],
  fun K => tupP K (valAt "LIMITS" "say") [.int 3],
  fun K => tupP K (valAt "LIMITS" "hear") [.int 3],
  fun K => tupP K (valAt "LIMITS" "which") [.int 3],
  fun K => tupP K (valAt "LIMITS" "room") [.int 3],
  fun K => tupP K (valAt "LIMITS" "enter") [.int 1],
  fun K => tupP K (valAt "LIMITS" "alarm") [.int 3],
  fun K => tupP K (valAt "LIMITS" "stop") []]
def htab : List He.Tab := [(fun K => He.ga K "LIMITS", ([("put", .adr (valAt "LIMITS" "put")), ("add", .adr (valAt "LIMITS" "add")), ("less", .adr (valAt "LIMITS" "less")), ("load", .adr (valAt "LIMITS" "load")), ("store", .adr (valAt "LIMITS" "store")), ("zero", .adr (valAt "LIMITS" "zero")), ("go", .adr (valAt "LIMITS" "go")), ("call", .adr (valAt "LIMITS" "call")), ("say", .adr (valAt "LIMITS" "say")), ("hear", .adr (valAt "LIMITS" "hear")), ("which", .adr (valAt "LIMITS" "which")), ("room", .adr (valAt "LIMITS" "room")), ("enter", .adr (valAt "LIMITS" "enter")), ("alarm", .adr (valAt "LIMITS" "alarm")), ("stop", .adr (valAt "LIMITS" "stop"))] : List (PySem.Str × He.Dv)).map (·.1))]
abbrev R : PySem.W.OpenRow := PySem.W.OpenLaw.row PySem.Challenge.rw_guestworlds_k15_written_and_read
abbrev hk : PySem.W.Hook := hookE 4 hfa hfn htab hex
def ob (s : PySem.W.SharedT) : AlE := obE 4 hfa hfn htab hex (HandSHeadRun.getT s)
theorem ob_eq (s : PySem.W.SharedT) : ob s = hk.obs s.abs := obE_eq _ _ _ _ _ (HandSHeadRun.getT_eq s)
theorem run (w : World) : HandSHeadRun.RunEq R (PySem.W.view R.prog [34]) hk ob 8000 loose w :=
  PySem.W.byRow2 "special-get-raises" (P := fun w => HandSHeadRun.RunEq R (PySem.W.view R.prog [34]) hk ob 8000 loose w) (fun w os => by kernel_rfl) (fun w os => by kernel_rfl) w
end G
/-! ### one bundle for all that is known of the heap: the draws' state, the frame, each live object (to come in the place of hp, ne, st, fr) -/
namespace G
open PySem L2
/-- since H0: the state of the draws stands at a, all else is kept, and of the objects of L (laid since H0) this is known -/
structure Bd (K : PySem.W.Frag) (a : Addr) (H0 H : Hp) (L : List (Addr × HO)) : Prop where
  st : StAt K H a
  fr : Fr a H0 H
  al : ∀ x ∈ L, H0 x.1 = none ∧ x.1 ≠ a ∧ H x.1 = some x.2
theorem Bd.start {K : PySem.W.Frag} {a : Addr} {H : Hp} (h : StAt K H a) : Bd K a H H [] := ⟨h, Fr.refl a H, fun _ m => nomatch m⟩
theorem Bd.get {K : PySem.W.Frag} {a p : Addr} {H0 H : Hp} {L : List (Addr × HO)} {o : HO} (k : Bd K a H0 H L) (m : (p, o) ∈ L) : H p = some o := (k.al _ m).2.2
theorem Bd.none {K : PySem.W.Frag} {a p : Addr} {H0 H : Hp} {L : List (Addr × HO)} (k : Bd K a H0 H L) (h : H p = .none) : H0 p = .none := k.fr.free h (ne_of_none k.st.spec h).symm
/-- a new object -/
theorem Bd.new {K : PySem.W.Frag} {a p : Addr} {H0 H : Hp} {L : List (Addr × HO)} {o : HO} (h : H p = .none) (k : Bd K a H0 H L) : Bd K a H0 (upd H p o) ((p, o) :: L) := by
  refine ⟨k.st.new h, k.fr.new h, fun x m => ?_⟩
  rcases List.mem_cons.mp m with rfl | m
  · exact ⟨k.none h, (ne_of_none k.st.spec h).symm, upd_same⟩
  · obtain ⟨h1, h2, h3⟩ := k.al x m
    exact ⟨h1, h2, by rw [upd_ne (ne_of_none h3 h)]; exact h3⟩
/-- a call that keeps all but a -/
theorem Bd.step {K : PySem.W.Frag} {a : Addr} {H0 H H' : Hp} {L : List (Addr × HO)} (f : Fr a H H') (s : StAt K H' a) (k : Bd K a H0 H L) : Bd K a H0 H' L :=
  ⟨s, k.fr.trans f, fun x m => ⟨(k.al x m).1, (k.al x m).2.1, f _ _ (k.al x m).2.1 (k.al x m).2.2⟩⟩
/-- less is known -/
theorem Bd.less {K : PySem.W.Frag} {a : Addr} {H0 H : Hp} {L L' : List (Addr × HO)} (k : Bd K a H0 H L) (h : ∀ x ∈ L', x ∈ L) : Bd K a H0 H L' := ⟨k.st, k.fr, fun x m => k.al x (h x m)⟩
/-- a list of L is written -/
theorem Bd.set {K : PySem.W.Frag} {a p : Addr} {H0 H : Hp} {L : List (Addr × HO)} {xs : List V} {o : HO} (k : Bd K a H0 H L) (m : (p, HO.lst xs) ∈ L) : Bd K a H0 (upd H p o) ((p, o) :: L.filter fun x => decide (x.1 ≠ p)) := by
  have e := k.get m
  obtain ⟨h0, na, _⟩ := k.al _ m
  refine ⟨k.st.own e na.symm, k.fr.own h0, fun x mx => ?_⟩
  rcases List.mem_cons.mp mx with rfl | mx
  · exact ⟨h0, na, upd_same⟩
  · obtain ⟨mx, ne⟩ := List.mem_filter.mp mx
    obtain ⟨h1, h2, h3⟩ := k.al x mx
    exact ⟨h1, h2, by rw [upd_ne (of_decide_eq_true ne)]; exact h3⟩
theorem Bd.setD {K : PySem.W.Frag} {a p : Addr} {H0 H : Hp} {L : List (Addr × HO)} {xs : List (Key × V)} {o : HO} (k : Bd K a H0 H L) (m : (p, HO.dK xs) ∈ L) : Bd K a H0 (upd H p o) ((p, o) :: L.filter fun x => decide (x.1 ≠ p)) := by
  have e := k.get m
  obtain ⟨h0, na, _⟩ := k.al _ m
  refine ⟨k.st.dic e, k.fr.own h0, fun x mx => ?_⟩
  rcases List.mem_cons.mp mx with rfl | mx
  · exact ⟨h0, na, upd_same⟩
  · obtain ⟨mx, ne⟩ := List.mem_filter.mp mx
    obtain ⟨h1, h2, h3⟩ := k.al x mx
    exact ⟨h1, h2, by rw [upd_ne (of_decide_eq_true ne)]; exact h3⟩
/-- a list or dict of L is written; of the others, L' in L with other addresses -/
theorem Bd.put {K : PySem.W.Frag} {a p : Addr} {H0 H : Hp} {L : List (Addr × HO)} {o u : HO} (L' : List (Addr × HO)) (k : Bd K a H0 H L) (m : (p, u) ∈ L) (hu : (∃ xs, u = .lst xs) ∨ ∃ xs, u = .dK xs) (h : ∀ x ∈ L', x ∈ L) (ht : ∀ x ∈ L', ∃ xs, x.2 = .tup xs) : Bd K a H0 (upd H p o) ((p, o) :: L') := by
  have e := k.get m
  obtain ⟨h0, na, _⟩ := k.al _ m
  refine ⟨?_, k.fr.own h0, fun x mx => ?_⟩
  · rcases hu with ⟨xs, rfl⟩ | ⟨xs, rfl⟩
    · exact k.st.own e na.symm
    · exact k.st.dic e
  · rcases List.mem_cons.mp mx with rfl | mx
    · exact ⟨h0, na, upd_same⟩
    · obtain ⟨h1, h2, h3⟩ := k.al x (h x mx)
      obtain ⟨xs, hx⟩ := ht x mx
      refine ⟨h1, h2, ?_⟩
      rw [upd_ne (fun z => ?_)]
      · exact h3
      · rw [z, e, hx] at h3
        rcases hu with ⟨ys, rfl⟩ | ⟨ys, rfl⟩ <;> cases h3
/-- all tuples of L are tuples since -/
theorem Bd.tu {K : PySem.W.Frag} {a : Addr} {H0 H : Hp} {L : List (Addr × HO)} (k : Bd K a H0 H L) (s : StAt K H0 a) : Tu H0 H := fun p xs h => k.fr p _ (ne_of h s.spec (fun z => nomatch z)) h
theorem s_newT {K : PySem.W.Frag} {a : Addr} {H0 H : Hp} {L : List (Addr × HO)} {xs : List V} {R : Addr → Prop} (k : Bd K a H0 H L) (h : Nat.ble xs.length 1000 = true) (q : ∀ p, H p = none → Bd K a H0 (upd H p (.tup xs)) ((p, .tup xs) :: L) → R p) : xs.length ≤ sizeLine ∧ ∀ p, H p = none → R p :=
  Y.s_new h fun p hp => q p hp (k.new hp)
theorem s_newL {K : PySem.W.Frag} {a : Addr} {H0 H : Hp} {L : List (Addr × HO)} {xs : List V} {R : Addr → Prop} (k : Bd K a H0 H L) (h : Nat.ble xs.length 1000 = true) (q : ∀ p, H p = none → Bd K a H0 (upd H p (.lst xs)) ((p, .lst xs) :: L) → R p) : xs.length ≤ sizeLine ∧ ∀ p, H p = none → R p :=
  Y.s_new h fun p hp => q p hp (k.new hp)
end G
namespace G
open PySem L2 C8
/-! ### rows and things -/
inductive Row where
  | put (b n : Int) | add (b c d : Int) | less (b c d : Int) | load (b c : Int) | store (c b : Int) | zero (b n : Int) | go (n : Int) | call (n : Int)
  | say (b : Int) | hear (b : Int) | which (b : Int) | room (b : Int) | enter (b : Int) | alarm (b : Int) | stop
def Row.vs : Row → List V
  | .put b n => [.str "put", .int b, .int n]
  | .add b c d => [.str "add", .int b, .int c, .int d]
  | .less b c d => [.str "less", .int b, .int c, .int d]
  | .load b c => [.str "load", .int b, .int c]
  | .store c b => [.str "store", .int c, .int b]
  | .zero b n => [.str "zero", .int b, .int n]
  | .go n => [.str "go", .int n]
  | .call n => [.str "call", .int n]
  | .say b => [.str "say", .int b]
  | .hear b => [.str "hear", .int b]
  | .which b => [.str "which", .int b]
  | .room b => [.str "room", .int b]
  | .enter b => [.str "enter", .int b]
  | .alarm b => [.str "alarm", .int b]
  | .stop => [.str "stop"]
def Bx (b : Int) : Prop := 0 ≤ b ∧ b < 4
def Nm (n : Int) : Prop := 0 ≤ n ∧ n < 1000
def Row.ok : Row → Prop
  | .put b n => Bx b ∧ Nm n
  | .add b c d => Bx b ∧ Bx c ∧ Bx d
  | .less b c d => Bx b ∧ Bx c ∧ Bx d
  | .load b c => Bx b ∧ Bx c
  | .store c b => Bx c ∧ Bx b
  | .zero b n => Bx b ∧ Nm n
  | .go n => Nm n
  | .call n => Nm n
  | .say b => Bx b
  | .hear b => Bx b
  | .which b => Bx b
  | .room b => Bx b
  | .enter b => 0 ≤ b ∧ b < 2
  | .alarm b => Bx b
  | .stop => True
inductive Thing where
  | num (n : Int) | row (p : Addr) (r : Row)
def Thing.v : Thing → V
  | .num n => .int n
  | .row p _ => .ref p
def Thing.At (H : Hp) : Thing → Prop
  | .num n => Nm n
  | .row p r => H p = some (.tup r.vs) ∧ r.ok
def Things (H : Hp) (ts : List Thing) : Prop := ∀ t ∈ ts, t.At H
theorem Thing.At.tu {H H' : Hp} {t : Thing} (h : t.At H) (f : Tu H H') : t.At H' := by
  cases t with
  | num n => exact h
  | row p r => exact ⟨f _ _ h.1, h.2⟩
theorem Things.tu {H H' : Hp} {ts : List Thing} (h : Things H ts) (f : Tu H H') : Things H' ts := fun t m => (h t m).tu f
theorem thing_snoc {H : Hp} {ts : List Thing} {t : Thing} (h : Things H ts) (g : t.At H) : Things H (ts ++ [t]) := fun u m => by
  rcases List.mem_append.mp m with m | m
  · exact h u m
  · rw [List.mem_singleton] at m; rw [m]; exact g
def spNumber (K : PySem.W.Frag) : Sp := fun vs H Q _ => ∃ (a : Addr), vs = [.ref a] ∧ StAt K H a ∧ ∀ (x : Int) (H' : Hp), Nm x → Fr a H H' → StAt K H' a → Q (.int x) H'
def spRow (K : PySem.W.Frag) : Sp := fun vs H Q _ => ∃ (a : Addr) (l : Int), vs = [.ref a, .int l] ∧ StAt K H a ∧ 0 ≤ l ∧ l ≤ 900 ∧ ∀ (p : Addr) (r : Row) (H' : Hp), Fr a H H' → StAt K H' a → (Thing.row p r).At H' → Q (.ref p) H'
theorem u_number {K : PySem.W.Frag} {H : Hp} {Q : VK} {E : XK} {a : Addr} (h : StAt K H a) (q : ∀ (x : Int) (H' : Hp), Nm x → Fr a H H' → StAt K H' a → Q (.int x) H') : spNumber K ([.ref a] ++ []) H Q E := ⟨a, rfl, h, q⟩
section
variable {P : Program} {w : World} {K : PySem.W.Frag} {mg : Str → Option Value} {base : Heap}
abbrev s__law_number : Stmt := top 27
theorem sc__law_number : FnScope ["_law_state"] ["_law_state"] (fnScope s__law_number) := fnScope_by (by decide +kernel)
theorem ok__law_number {f : Addr} {fd : FuncData} (F : Def K mg "_law_number" s__law_number f fd) (b : Binds K fd ["_law_state"] []) (T : Txt K mg)
    (c__law_drawn : Cal P w K mg base 1 "_law_drawn" (spDrawn K) []) : Cal P w K mg base 2 "_law_number" (spNumber K) [] := by
  refine cal0 F b .nil sc__law_number (fun vs H Q E h => ?_) (fun cdv A outer s H vs Q E hr h => ?_)
  · obtain ⟨a, rfl, _⟩ := h
    rfl
  · obtain ⟨a, rfl, hS, q⟩ := h
    have nd := sc__law_number.nd
    refine ⟨_, (pss_one (ps_ret (pe_c c__law_drawn hr (by first | decide | omega) (by rfl) (pa_cons (pv 0) (pa_cons (pe_ix ix_list (pe_lst (pa_cons pe_int (pa_cons pe_int (pa_cons pe_int (pa_cons pe_int pa_nil))))) (pe_c c__law_drawn hr (by first | decide | omega) (by rfl) (pa_cons (pv 0) (pa_cons pe_int pa_nil))) (fun _ _ => rfl)) pa_nil))))), ?_⟩
    walk_at "b"
    refine Y.s_new rfl fun p hp => ?_
    walk_at "s"
    refine u_drawn (hS.new hp) (by decide) (by decide) fun x H1 h0 h1 f1 S1 => ?_
    have hp1 := f1 p _ (ne_of_none hS.spec hp).symm upd_same
    obtain ⟨v, e, k, rfl, k0, k1⟩ := Y.at_all (P := fun v => ∃ k, v = V.int k ∧ 0 < k ∧ k ≤ 1000) (xs := [V.int 4, V.int 41, V.int 41, V.int 1000]) (i := x) (by
      intro v hv
      simp only [List.mem_cons, List.not_mem_nil, or_false] at hv
      rcases hv with rfl | rfl | rfl | rfl <;> exact ⟨_, rfl, by decide, by decide⟩) h0 h1
    refine Y.s_ixL' (SqL.of hp1) e ?_
    walk_at "s"
    refine u_drawn S1 k0 (by omega) fun y H2 g0 g1 f2 S2 => ?_
    exact q y H2 ⟨g0, by omega⟩ (((Fr.refl a H).new hp).trans (f1.trans f2)) S2
abbrev s__law_row : Stmt := top 28
theorem sc__law_row : FnScope ["_law_state", "_law_low", "_law_words", "_law_word", "_law_b", "_law_c", "_law_d", "_law_near", "_law_k"] ["_law_state", "_law_low"] (fnScope s__law_row) := fnScope_by (by decide +kernel)
theorem ok__law_row {f : Addr} {fd : FuncData} (F : Def K mg "_law_row" s__law_row f fd) (b : Binds K fd ["_law_state", "_law_low"] []) (T : Txt K mg)
    (c__law_drawn : Cal P w K mg base 1 "_law_drawn" (spDrawn K) []) (c__law_number : Cal P w K mg base 2 "_law_number" (spNumber K) []) : Cal P w K mg base 3 "_law_row" (spRow K) [] := by
  refine cal0 F b .nil sc__law_row (fun vs H Q E h => ?_) (fun cdv A outer s H vs Q E hr h => ?_)
  · obtain ⟨a, l, rfl, _⟩ := h
    rfl
  · obtain ⟨a, l, rfl, hS, hl0, hl1, q⟩ := h
    obtain ⟨ha, hA⟩ := hS.lst
    have nd := sc__law_row.nd
    have hu := hu_of hr
    refine ⟨_, (pss_cons (ps_set (i := 2) nd rfl (by first | exact Or.inl rfl | exact Or.inr rfl) (pe_lst (pa_cons pe_str (pa_cons pe_str (pa_cons pe_str (pa_cons pe_str (pa_cons pe_str (pa_cons pe_str (pa_cons pe_str (pa_cons pe_str (pa_cons pe_str (pa_cons pe_str (pa_cons pe_str (pa_cons pe_str (pa_cons pe_str pa_nil)))))))))))))))
      (pss_cons (ps_set (i := 2) nd rfl (by first | exact Or.inl rfl | exact Or.inr rfl) (pe_op op_cat (pv 2) (pe_lst (pa_cons pe_str (pa_cons pe_str (pa_cons pe_str pa_nil))))))
      (pss_cons (ps_set (i := 3) nd rfl (by first | exact Or.inl rfl | exact Or.inr rfl) (pe_ix ix_list (pv 2) (pe_c c__law_drawn hr (by first | decide | omega) (by rfl) (pa_cons (pv 0) (pa_cons pe_int pa_nil))) (fun _ _ => rfl)))
      (pss_cons (ps_asg (pe_lc (own := [("_law_k", 8)]) (g := gName 8) (by rfl) nd (pi_range1 rfl T.n_range (pa_cons pe_int pa_nil)) (blkOk_by (N := ["_law_state", "_law_low", "_law_words", "_law_word", "_law_b", "_law_c", "_law_d", "_law_near", "_law_k"]) (sc := fnScope s__law_row) (by decide +kernel)) (fun _ _ _ _ _ => (pg_name (i := 8) nd rfl (by first | exact Or.inl rfl | exact Or.inr rfl))) (fun _ _ _ _ _ => pts_nil) (fun _ _ _ _ _ => (pe_c c__law_drawn hr (by first | decide | omega) (by rfl) (pa_cons (pv 0) (pa_cons pe_int pa_nil))))) (pg_unl (by rfl) (pgs_cons (pg_name (i := 4) nd rfl (by first | exact Or.inl rfl | exact Or.inr rfl)) (pgs_cons (pg_name (i := 5) nd rfl (by first | exact Or.inl rfl | exact Or.inr rfl)) (pgs_cons (pg_name (i := 6) nd rfl (by first | exact Or.inl rfl | exact Or.inr rfl)) pgs_nil)))))
      (pss_cons (ps_set (i := 7) nd rfl (by first | exact Or.inl rfl | exact Or.inr rfl) (pe_ix ix_list (pe_lst (pa_cons (pe_op op_add (pv 1) (pe_c c__law_drawn hr (by first | decide | omega) (by rfl) (pa_cons (pv 0) (pa_cons pe_int pa_nil)))) (pa_cons (pe_c c__law_number hr (by first | decide | omega) (by rfl) (pa_cons (pv 0) pa_nil)) pa_nil))) (pe_op op_fdivN (pe_c c__law_drawn hr (by first | decide | omega) (by rfl) (pa_cons (pv 0) (pa_cons pe_int pa_nil))) pe_int) (fun _ _ => rfl)))
      (pss_cons (ps_if (pt_cmpR op_in_seq (pv 3) (pe_tup (pa_cons pe_str (pa_cons pe_str (pa_cons pe_str (pa_cons pe_str pa_nil))))) (by rfl))
      (pss_one (ps_ret (pe_dget2 hu (pe_disp (pps_cons pe_str (pe_tup (pa_cons pe_str (pa_cons (pv 4) (pa_cons (pe_c c__law_number hr (by first | decide | omega) (by rfl) (pa_cons (pv 0) pa_nil)) pa_nil)))) (pps_cons pe_str (pe_tup (pa_cons pe_str (pa_cons (pv 4) (pa_cons (pv 7) pa_nil)))) pps_nil)) (by rfl) (by rfl) (fun z => by cases z) (by decide)) (pv 3) (pe_tup (pa_cons (pv 3) (pa_cons (pv 7) pa_nil))) ⟨rfl, rfl, rfl, rfl⟩)))
      pss_nil)
      (pss_cons (ps_if (pt_cmpR op_in_seq (pv 3) (pe_tup (pa_cons pe_str (pa_cons pe_str pa_nil))) (by rfl))
      (pss_one (ps_ret (pe_tup (pa_cons (pv 3) (pa_cons (pv 4) (pa_cons (pv 5) (pa_cons (pv 6) pa_nil)))))))
      pss_nil)
      (pss_cons (ps_if (pt_cmpR op_in_seq (pv 3) (pe_tup (pa_cons pe_str (pa_cons pe_str pa_nil))) (by rfl))
      (pss_one (ps_ret (pe_tup (pa_cons (pv 3) (pa_cons (pv 4) (pa_cons (pv 5) pa_nil))))))
      pss_nil)
      (pss_one (ps_ret (pe_ifExp (pt_cmpR op_eq (pv 3) pe_str (nomark _)) (pe_tup (pa_cons pe_str pa_nil)) (pe_tup (pa_cons (pv 3) (pa_cons (pe_ifExp (pt_cmpR op_eq (pv 3) pe_str (nomark _)) (pe_op op_mod (pv 4) pe_int) (pv 4)) pa_nil)))))))))))))), ?_⟩
    walk_at "b"
    have k := Bd.start hS
    refine s_newL k rfl fun p1 hp1 k => ?_
    walk_at "s"
    refine s_newL k rfl fun p2 hp2 k => ?_
    walk_at "s"
    refine fun p3 hp3 => ?_
    walk_at "s"
    have k := k.new (o := .lst ([V.str "put", V.str "put", V.str "add", V.str "less", V.str "load", V.str "store", V.str "zero", V.str "go", V.str "call", V.str "say", V.str "hear", V.str "which", V.str "room"] ++ [V.str "enter", V.str "alarm", V.str "stop"])) hp3
    refine u_drawn k.st (by decide) (by decide) fun x H1 h0 h1 f1 S1 => ?_
    have k := k.step f1 S1
    obtain ⟨z, e, hz⟩ := Y.at_str (ws := ["put", "put", "add", "less", "load", "store", "zero", "go", "call", "say", "hear", "which", "room", "enter", "alarm", "stop"]) (i := x) h0 h1
    refine Y.s_ixL' (SqL.of (k.get (.head _))) e ?_
    walk_at "s"
    have k : Bd K a H H1 [] := k.less (fun _ m => nomatch m)
    refine Y.s_lcR (by decide) (by decide) fun D hD => ⟨fun i acc Hx => Bd K a H Hx [(D, .lst acc)] ∧ acc.length = i ∧ ∀ v ∈ acc, ∃ b, v = V.int b ∧ Bx b, ?_, ?_, ?_⟩
    · exact ⟨k.new hD, rfl, fun v m => nomatch m⟩
    · rintro i acc Hx hi hl hD2 ⟨k, el, hb⟩
      walk_at "s"
      refine u_drawn k.st (by decide) (by decide) fun y H2 g0 g1 f2 S2 => ?_
      have k := k.step f2 S2
      refine Y.s_lcE (k.get (.head _)) hl (by omega) ⟨k.put [] (.head _) (.inl ⟨_, rfl⟩) (fun _ m => nomatch m) (fun _ m => nomatch m), by simp [el], ?_⟩
      intro v hv
      rcases List.mem_append.mp hv with hv | hv
      · exact hb v hv
      · exact ⟨y, by simpa using hv, g0, g1⟩
    · rintro acc Hx hD2 hl ⟨k, el, hb⟩
      match acc, el with
      | [v1, v2, v3], _ =>
        obtain ⟨b1, rfl, hb1⟩ := hb v1 (by simp)
        obtain ⟨b2, rfl, hb2⟩ := hb v2 (by simp)
        obtain ⟨b3, rfl, hb3⟩ := hb v3 (by simp)
        refine ⟨D, _, rfl, SqL.of hD2, rfl, _, _, rfl, _, _, rfl, _, _, rfl, rfl, ?_⟩
        walk_at "s"
        refine u_drawn k.st (by decide) (by decide) fun y H2 g0 g1 f2 S2 => ?_
        have k := k.step f2 S2
        walk_at "s"
        refine u_number k.st fun y2 H3 hy2 f3 S3 => ?_
        have k := k.step f3 S3
        walk_at "s"
        refine s_newL k rfl fun p4 hp4 k => ?_
        walk_at "s"
        refine u_drawn k.st (by decide) (by decide) fun x4 H4 k0 k1 f4 S4 => ?_
        have k := k.step f4 S4
        walk_at "s"
        obtain ⟨v, e4, near, rfl, hnear⟩ := Y.at_all (P := fun v => ∃ k, v = V.int k ∧ Nm k) (xs := [V.int (l + y), V.int y2]) (i := x4.fdiv 3) (by
          intro v hv
          simp only [List.mem_cons, List.not_mem_nil, or_false] at hv
          rcases hv with rfl | rfl
          · exact ⟨_, rfl, by omega, by omega⟩
          · exact ⟨_, rfl, hy2⟩) (by rw [Int.fdiv_eq_ediv_of_nonneg _ (by decide)]; omega) (by rw [Int.fdiv_eq_ediv_of_nonneg _ (by decide)]; show x4 / 3 < 2; omega)
        refine Y.s_ixL' (SqL.of (k.get (.head _))) e4 ?_
        walk_at "t"
        have k : Bd K a H H4 [] := k.less (fun _ m => nomatch m)
        refine Y.fgt (fun H' => Bd K a H H' []) k fun HB k => ?_
        simp only [List.mem_cons, List.not_mem_nil, or_false] at hz
        rcases hz with rfl | rfl | rfl | rfl | rfl | rfl | rfl | rfl | rfl | rfl | rfl | rfl | rfl | rfl | rfl | rfl
        · walk_at "s"
          refine s_newT k rfl fun p5 hp5 k => ?_
          walk_at "s"
          refine fun pd hpd => ?_
          have k := k.new (o := .dK []) hpd
          walk_at "s"
          refine u_number k.st fun y5 H5 hy5 f5 S5 => ?_
          have k := k.step f5 S5
          walk_at "s"
          refine s_newT k rfl fun p6 hp6 k => ?_
          walk_at "s"
          refine s_newT k rfl fun p7 hp7 k => ?_
          walk_at "s"
          refine Y.s_dend ["put", "zero"] [V.ref p6, V.ref p7] (k.get (.tail _ (.tail _ (.head _)))) rfl (by decide +kernel) rfl ?_
          have k := k.put (o := .dK ((["put", "zero"].zip [V.ref p6, V.ref p7]).map fun kv => ((Sum.inr kv.1 : Key), kv.2))) [(p7, _), (p6, _)] (.tail _ (.tail _ (.head _))) (.inr ⟨_, rfl⟩) (fun x m => by
            rcases List.mem_cons.mp m with rfl | m
            · exact .head _
            · rcases List.mem_cons.mp m with rfl | m
              · exact .tail _ (.head _)
              · cases m) (fun x m => by
            rcases List.mem_cons.mp m with rfl | m
            · exact ⟨_, rfl⟩
            · rcases List.mem_cons.mp m with rfl | m
              · exact ⟨_, rfl⟩
              · cases m)
          walk_at "s"
          refine s_newT k rfl fun p8 hp8 k => ?_
          refine Y.s_dgS (k.get (.tail _ (.head _))) rfl ?_
          walk_at "s"
          exact q p6 (.put b1 y5) _ k.fr k.st ⟨k.get (.tail _ (.tail _ (.tail _ (.head _)))), hb1, hy5⟩
        · walk_at "s"
          refine s_newT k rfl fun p5 hp5 k => ?_
          walk_at "s"
          refine fun pd hpd => ?_
          have k := k.new (o := .dK []) hpd
          walk_at "s"
          refine u_number k.st fun y5 H5 hy5 f5 S5 => ?_
          have k := k.step f5 S5
          walk_at "s"
          refine s_newT k rfl fun p6 hp6 k => ?_
          walk_at "s"
          refine s_newT k rfl fun p7 hp7 k => ?_
          walk_at "s"
          refine Y.s_dend ["put", "zero"] [V.ref p6, V.ref p7] (k.get (.tail _ (.tail _ (.head _)))) rfl (by decide +kernel) rfl ?_
          have k := k.put (o := .dK ((["put", "zero"].zip [V.ref p6, V.ref p7]).map fun kv => ((Sum.inr kv.1 : Key), kv.2))) [(p7, _), (p6, _)] (.tail _ (.tail _ (.head _))) (.inr ⟨_, rfl⟩) (fun x m => by
            rcases List.mem_cons.mp m with rfl | m
            · exact .head _
            · rcases List.mem_cons.mp m with rfl | m
              · exact .tail _ (.head _)
              · cases m) (fun x m => by
            rcases List.mem_cons.mp m with rfl | m
            · exact ⟨_, rfl⟩
            · rcases List.mem_cons.mp m with rfl | m
              · exact ⟨_, rfl⟩
              · cases m)
          walk_at "s"
          refine s_newT k rfl fun p8 hp8 k => ?_
          refine Y.s_dgS (k.get (.tail _ (.head _))) rfl ?_
          walk_at "s"
          exact q p6 (.put b1 y5) _ k.fr k.st ⟨k.get (.tail _ (.tail _ (.tail _ (.head _)))), hb1, hy5⟩
        · walk_at "s"
          refine s_newT k rfl fun p5 hp5 k => ?_
          walk_at "s"
          refine s_newT k rfl fun p6 hp6 k => ?_
          walk_at "s"
          refine s_newT k rfl fun p7 hp7 k => ?_
          walk_at "s"
          exact q p7 (.add b1 b2 b3) _ k.fr k.st ⟨k.get (.head _), hb1, hb2, hb3⟩
        · walk_at "s"
          refine s_newT k rfl fun p5 hp5 k => ?_
          walk_at "s"
          refine s_newT k rfl fun p6 hp6 k => ?_
          walk_at "s"
          refine s_newT k rfl fun p7 hp7 k => ?_
          walk_at "s"
          exact q p7 (.less b1 b2 b3) _ k.fr k.st ⟨k.get (.head _), hb1, hb2, hb3⟩
        · walk_at "s"
          refine s_newT k rfl fun p5 hp5 k => ?_
          walk_at "s"
          refine s_newT k rfl fun p6 hp6 k => ?_
          walk_at "s"
          refine s_newT k rfl fun p7 hp7 k => ?_
          walk_at "s"
          refine s_newT k rfl fun p8 hp8 k => ?_
          walk_at "s"
          exact q p8 (.load b1 b2) _ k.fr k.st ⟨k.get (.head _), hb1, hb2⟩
        · walk_at "s"
          refine s_newT k rfl fun p5 hp5 k => ?_
          walk_at "s"
          refine s_newT k rfl fun p6 hp6 k => ?_
          walk_at "s"
          refine s_newT k rfl fun p7 hp7 k => ?_
          walk_at "s"
          refine s_newT k rfl fun p8 hp8 k => ?_
          walk_at "s"
          exact q p8 (.store b1 b2) _ k.fr k.st ⟨k.get (.head _), hb1, hb2⟩
        · walk_at "s"
          refine s_newT k rfl fun p5 hp5 k => ?_
          walk_at "s"
          refine fun pd hpd => ?_
          have k := k.new (o := .dK []) hpd
          walk_at "s"
          refine u_number k.st fun y5 H5 hy5 f5 S5 => ?_
          have k := k.step f5 S5
          walk_at "s"
          refine s_newT k rfl fun p6 hp6 k => ?_
          walk_at "s"
          refine s_newT k rfl fun p7 hp7 k => ?_
          walk_at "s"
          refine Y.s_dend ["put", "zero"] [V.ref p6, V.ref p7] (k.get (.tail _ (.tail _ (.head _)))) rfl (by decide +kernel) rfl ?_
          have k := k.put (o := .dK ((["put", "zero"].zip [V.ref p6, V.ref p7]).map fun kv => ((Sum.inr kv.1 : Key), kv.2))) [(p7, _), (p6, _)] (.tail _ (.tail _ (.head _))) (.inr ⟨_, rfl⟩) (fun x m => by
            rcases List.mem_cons.mp m with rfl | m
            · exact .head _
            · rcases List.mem_cons.mp m with rfl | m
              · exact .tail _ (.head _)
              · cases m) (fun x m => by
            rcases List.mem_cons.mp m with rfl | m
            · exact ⟨_, rfl⟩
            · rcases List.mem_cons.mp m with rfl | m
              · exact ⟨_, rfl⟩
              · cases m)
          walk_at "s"
          refine s_newT k rfl fun p8 hp8 k => ?_
          refine Y.s_dgS (k.get (.tail _ (.head _))) rfl ?_
          walk_at "s"
          exact q p7 (.zero b1 near) _ k.fr k.st ⟨k.get (.tail _ (.tail _ (.head _))), hb1, hnear⟩
        · walk_at "s"
          refine s_newT k rfl fun p5 hp5 k => ?_
          walk_at "s"
          refine fun pd hpd => ?_
          have k := k.new (o := .dK []) hpd
          walk_at "s"
          refine u_number k.st fun y5 H5 hy5 f5 S5 => ?_
          have k := k.step f5 S5
          walk_at "s"
          refine s_newT k rfl fun p6 hp6 k => ?_
          walk_at "s"
          refine s_newT k rfl fun p7 hp7 k => ?_
          walk_at "s"
          refine Y.s_dend ["put", "zero"] [V.ref p6, V.ref p7] (k.get (.tail _ (.tail _ (.head _)))) rfl (by decide +kernel) rfl ?_
          have k := k.put (o := .dK ((["put", "zero"].zip [V.ref p6, V.ref p7]).map fun kv => ((Sum.inr kv.1 : Key), kv.2))) [(p7, _), (p6, _)] (.tail _ (.tail _ (.head _))) (.inr ⟨_, rfl⟩) (fun x m => by
            rcases List.mem_cons.mp m with rfl | m
            · exact .head _
            · rcases List.mem_cons.mp m with rfl | m
              · exact .tail _ (.head _)
              · cases m) (fun x m => by
            rcases List.mem_cons.mp m with rfl | m
            · exact ⟨_, rfl⟩
            · rcases List.mem_cons.mp m with rfl | m
              · exact ⟨_, rfl⟩
              · cases m)
          walk_at "s"
          refine s_newT k rfl fun p8 hp8 k => ?_
          refine Y.s_dgS (k.get (.tail _ (.head _))) rfl ?_
          walk_at "s"
          exact q p8 (.go near) _ k.fr k.st ⟨k.get (.head _), hnear⟩
        · walk_at "s"
          refine s_newT k rfl fun p5 hp5 k => ?_
          walk_at "s"
          refine fun pd hpd => ?_
          have k := k.new (o := .dK []) hpd
          walk_at "s"
          refine u_number k.st fun y5 H5 hy5 f5 S5 => ?_
          have k := k.step f5 S5
          walk_at "s"
          refine s_newT k rfl fun p6 hp6 k => ?_
          walk_at "s"
          refine s_newT k rfl fun p7 hp7 k => ?_
          walk_at "s"
          refine Y.s_dend ["put", "zero"] [V.ref p6, V.ref p7] (k.get (.tail _ (.tail _ (.head _)))) rfl (by decide +kernel) rfl ?_
          have k := k.put (o := .dK ((["put", "zero"].zip [V.ref p6, V.ref p7]).map fun kv => ((Sum.inr kv.1 : Key), kv.2))) [(p7, _), (p6, _)] (.tail _ (.tail _ (.head _))) (.inr ⟨_, rfl⟩) (fun x m => by
            rcases List.mem_cons.mp m with rfl | m
            · exact .head _
            · rcases List.mem_cons.mp m with rfl | m
              · exact .tail _ (.head _)
              · cases m) (fun x m => by
            rcases List.mem_cons.mp m with rfl | m
            · exact ⟨_, rfl⟩
            · rcases List.mem_cons.mp m with rfl | m
              · exact ⟨_, rfl⟩
              · cases m)
          walk_at "s"
          refine s_newT k rfl fun p8 hp8 k => ?_
          refine Y.s_dgS (k.get (.tail _ (.head _))) rfl ?_
          walk_at "s"
          exact q p8 (.call near) _ k.fr k.st ⟨k.get (.head _), hnear⟩
        · walk_at "s"
          refine s_newT k rfl fun p5 hp5 k => ?_
          walk_at "s"
          refine s_newT k rfl fun p6 hp6 k => ?_
          walk_at "s"
          refine s_newT k rfl fun p7 hp7 k => ?_
          walk_at "s"
          refine s_newT k rfl fun p8 hp8 k => ?_
          walk_at "s"
          exact q p8 (.say b1) _ k.fr k.st ⟨k.get (.head _), hb1⟩
        · walk_at "s"
          refine s_newT k rfl fun p5 hp5 k => ?_
          walk_at "s"
          refine s_newT k rfl fun p6 hp6 k => ?_
          walk_at "s"
          refine s_newT k rfl fun p7 hp7 k => ?_
          walk_at "s"
          refine s_newT k rfl fun p8 hp8 k => ?_
          walk_at "s"
          exact q p8 (.hear b1) _ k.fr k.st ⟨k.get (.head _), hb1⟩
        · walk_at "s"
          refine s_newT k rfl fun p5 hp5 k => ?_
          walk_at "s"
          refine s_newT k rfl fun p6 hp6 k => ?_
          walk_at "s"
          refine s_newT k rfl fun p7 hp7 k => ?_
          walk_at "s"
          refine s_newT k rfl fun p8 hp8 k => ?_
          walk_at "s"
          exact q p8 (.which b1) _ k.fr k.st ⟨k.get (.head _), hb1⟩
        · walk_at "s"
          refine s_newT k rfl fun p5 hp5 k => ?_
          walk_at "s"
          refine s_newT k rfl fun p6 hp6 k => ?_
          walk_at "s"
          refine s_newT k rfl fun p7 hp7 k => ?_
          walk_at "s"
          refine s_newT k rfl fun p8 hp8 k => ?_
          walk_at "s"
          exact q p8 (.room b1) _ k.fr k.st ⟨k.get (.head _), hb1⟩
        · walk_at "s"
          refine s_newT k rfl fun p5 hp5 k => ?_
          walk_at "s"
          refine s_newT k rfl fun p6 hp6 k => ?_
          walk_at "s"
          refine s_newT k rfl fun p7 hp7 k => ?_
          walk_at "s"
          refine s_newT k rfl fun p8 hp8 k => ?_
          walk_at "s"
          exact q p8 (.enter (b1 % 2)) _ k.fr k.st ⟨k.get (.head _), Int.emod_nonneg _ (by decide), Int.emod_lt_of_pos _ (by decide)⟩
        · walk_at "s"
          refine s_newT k rfl fun p5 hp5 k => ?_
          walk_at "s"
          refine s_newT k rfl fun p6 hp6 k => ?_
          walk_at "s"
          refine s_newT k rfl fun p7 hp7 k => ?_
          walk_at "s"
          refine s_newT k rfl fun p8 hp8 k => ?_
          walk_at "s"
          exact q p8 (.alarm b1) _ k.fr k.st ⟨k.get (.head _), hb1⟩
        · walk_at "s"
          refine s_newT k rfl fun p5 hp5 k => ?_
          walk_at "s"
          refine s_newT k rfl fun p6 hp6 k => ?_
          walk_at "s"
          refine s_newT k rfl fun p7 hp7 k => ?_
          walk_at "s"
          refine s_newT k rfl fun p8 hp8 k => ?_
          walk_at "s"
          exact q p8 (.stop) _ k.fr k.st ⟨k.get (.head _), True.intro⟩
end
end G
namespace G
open PySem L2 C8
theorem u_row {K : PySem.W.Frag} {H : Hp} {Q : VK} {E : XK} {a : Addr} {l : Int} (h : StAt K H a) (h0 : 0 ≤ l) (h1 : l ≤ 900) (q : ∀ (p : Addr) (r : Row) (H' : Hp), Fr a H H' → StAt K H' a → (Thing.row p r).At H' → Q (.ref p) H') : spRow K ([.ref a, .int l] ++ []) H Q E := ⟨a, l, rfl, h, h0, h1, q⟩
/-- a new list of things -/
def CellsAt (H : Hp) (p : Addr) (ts : List Thing) : Prop := H p = some (.lst (ts.map Thing.v)) ∧ Things H ts ∧ 16 ≤ ts.length ∧ ts.length ≤ 40
def spCells (K : PySem.W.Frag) : Sp := fun vs H Q _ => ∃ (a : Addr), vs = [.ref a] ∧ StAt K H a ∧ ∀ (p : Addr) (ts : List Thing) (H' : Hp), H p = none → Fr a H H' → StAt K H' a → CellsAt H' p ts → Q (.ref p) H'
def spEar (K : PySem.W.Frag) : Sp := fun vs H Q _ => ∃ (a : Addr), vs = [.ref a] ∧ StAt K H a ∧ ∀ (p : Addr) (ns : List Int) (H' : Hp), H p = none → Fr a H H' → StAt K H' a → H' p = some (.lst (ns.map V.int)) → (∀ n ∈ ns, Nm n) → ns.length ≤ 20 → Q (.ref p) H'
def spKind (K : PySem.W.Frag) : Sp := fun vs H Q _ => ∃ (a : Addr), vs = [.ref a] ∧ StAt K H a ∧ ∀ (p : Addr) (bs : List Bool) (H' : Hp), Fr a H H' → StAt K H' a → H' p = some (.tup (bs.map V.bl)) → bs.length = 7 → Q (.ref p) H'
section
variable {P : Program} {w : World} {K : PySem.W.Frag} {mg : Str → Option Value} {base : Heap}
abbrev s__law_any : Stmt := top 29
theorem sc__law_any : FnScope ["_law_state", "_law_many", "_law_often", "_law_at"] ["_law_state"] (fnScope s__law_any) := fnScope_by (by decide +kernel)
theorem ok__law_any {f : Addr} {fd : FuncData} (F : Def K mg "_law_any" s__law_any f fd) (b : Binds K fd ["_law_state"] []) (T : Txt K mg)
    (c__law_drawn : Cal P w K mg base 1 "_law_drawn" (spDrawn K) []) (c__law_number : Cal P w K mg base 2 "_law_number" (spNumber K) []) (c__law_row : Cal P w K mg base 3 "_law_row" (spRow K) []) : Cal P w K mg base 4 "_law_any" (spCells K) [] := by
  refine cal0 F b .nil sc__law_any (fun vs H Q E h => ?_) (fun cdv A outer s H vs Q E hr h => ?_)
  · obtain ⟨a, rfl, _⟩ := h
    rfl
  · obtain ⟨a, rfl, hS, q⟩ := h
    have nd := sc__law_any.nd
    refine ⟨_, (pss_cons (ps_set (i := 1) nd rfl (by first | exact Or.inl rfl | exact Or.inr rfl) (pe_op op_add pe_int (pe_c c__law_drawn hr (by first | decide | omega) (by rfl) (pa_cons (pv 0) (pa_cons pe_int pa_nil)))))
      (pss_cons (ps_set (i := 2) nd rfl (by first | exact Or.inl rfl | exact Or.inr rfl) (pe_op op_add pe_int (pe_c c__law_drawn hr (by first | decide | omega) (by rfl) (pa_cons (pv 0) (pa_cons pe_int pa_nil)))))
      (pss_one (ps_ret (pe_lc (own := [("_law_at", 3)]) (g := gName 3) (by rfl) nd (pi_range1 rfl T.n_range (pa_cons (pv 1) pa_nil)) (blkOk_by (N := ["_law_state", "_law_many", "_law_often", "_law_at"]) (sc := fnScope s__law_any) (by decide +kernel)) (fun _ _ _ _ _ => (pg_name (i := 3) nd rfl (by first | exact Or.inl rfl | exact Or.inr rfl))) (fun _ _ _ _ _ => pts_nil) (fun _ _ _ _ _ => (pe_ifExp (pt_cmpR op_eq (pe_c c__law_drawn hr (by first | decide | omega) (by rfl) (pa_cons (pv 0) (pa_cons (pv 2) pa_nil))) pe_int (nomark _)) (pe_c c__law_number hr (by first | decide | omega) (by rfl) (pa_cons (pv 0) pa_nil)) (pe_c c__law_row hr (by first | decide | omega) (by rfl) (pa_cons (pv 0) (pa_cons pe_int pa_nil)))))))))), ?_⟩
    walk_at "b"
    refine u_drawn hS (by decide) (by decide) fun x H1 x0 x1 f1 S1 => ?_
    walk_at "s"
    refine u_drawn S1 (by decide) (by decide) fun y H2 y0 y1 f2 S2 => ?_
    walk_at "s"
    refine Y.s_lcR (by omega) (by omega) fun D hD => ⟨fun i acc Hx => Fr a H2 Hx ∧ StAt K Hx a ∧ ∃ ts : List Thing, acc = ts.map Thing.v ∧ Things Hx ts ∧ ts.length = i, ?_, ?_, ?_⟩
    · exact ⟨by walk_at "fr", by walk_at "st", [], rfl, fun t m => (nomatch m), rfl⟩
    · rintro i acc Hx hi hl hD2 ⟨fx, Sx, ts, rfl, ht, el⟩
      walk_at "s"
      refine u_drawn Sx (by omega) (by omega) fun z H3 z0 z1 f3 S3 => ?_
      walk_at "s"
      refine Y.s_d2 (fun _ => ?_) (fun _ => ?_)
      · walk_at "s"
        refine u_number S3 fun n H4 hn f4 S4 => ?_
        have t4 : Tu Hx H4 := by walk_at "tu"
        have e4 : H4 D = some (.lst (ts.map Thing.v)) := by walk_at "hp"
        exact Y.s_lcE e4 hl (by omega) ⟨by walk_at "fr", by walk_at "st", ts ++ [.num n], by rw [List.map_append]; rfl, thing_snoc (t := .num n) (ht.tu ((Tu.lst t4 e4))) hn, by rw [List.length_append, el]; rfl⟩
      · walk_at "s"
        refine u_row S3 (by decide) (by decide) fun p r H4 f4 S4 hp4 => ?_
        have t4 : Tu Hx H4 := by walk_at "tu"
        have e4 : H4 D = some (.lst (ts.map Thing.v)) := by walk_at "hp"
        exact Y.s_lcE e4 hl (by omega) ⟨by walk_at "fr", by walk_at "st", ts ++ [.row p r], by rw [List.map_append]; rfl, thing_snoc (t := .row p r) (ht.tu ((Tu.lst t4 e4))) (hp4.tu (Tu.lst (Tu.refl _) e4)), by rw [List.length_append, el]; rfl⟩
    · rintro acc Hx hD2 hl ⟨fx, Sx, ts, rfl, ht, el⟩
      have hn := (f1.trans f2).free hD (ne_of_none S2.spec hD).symm
      walk_at "s"
      exact q D ts Hx hn (by walk_at "fr") Sx ⟨hD2, ht, by omega, by omega⟩
abbrev s__law_ear : Stmt := top 33
theorem sc__law_ear : FnScope ["_law_state", "_law_k"] ["_law_state"] (fnScope s__law_ear) := fnScope_by (by decide +kernel)
theorem ok__law_ear {f : Addr} {fd : FuncData} (F : Def K mg "_law_ear" s__law_ear f fd) (b : Binds K fd ["_law_state"] []) (T : Txt K mg)
    (c__law_drawn : Cal P w K mg base 1 "_law_drawn" (spDrawn K) []) (c__law_number : Cal P w K mg base 2 "_law_number" (spNumber K) []) : Cal P w K mg base 3 "_law_ear" (spEar K) [] := by
  refine cal0 F b .nil sc__law_ear (fun vs H Q E h => ?_) (fun cdv A outer s H vs Q E hr h => ?_)
  · obtain ⟨a, rfl, _⟩ := h
    rfl
  · obtain ⟨a, rfl, hS, q⟩ := h
    have nd := sc__law_ear.nd
    refine ⟨_, (pss_one (ps_ret (pe_lc (own := [("_law_k", 1)]) (g := gName 1) (by rfl) nd (pi_range1 rfl T.n_range (pa_cons (pe_c c__law_drawn hr (by first | decide | omega) (by rfl) (pa_cons (pv 0) (pa_cons (pe_ix ix_list (pe_lst (pa_cons pe_int (pa_cons pe_int pa_nil))) (pe_c c__law_drawn hr (by first | decide | omega) (by rfl) (pa_cons (pv 0) (pa_cons pe_int pa_nil))) (fun _ _ => rfl)) pa_nil))) pa_nil)) (blkOk_by (N := ["_law_state", "_law_k"]) (sc := fnScope s__law_ear) (by decide +kernel)) (fun _ _ _ _ _ => (pg_name (i := 1) nd rfl (by first | exact Or.inl rfl | exact Or.inr rfl))) (fun _ _ _ _ _ => pts_nil) (fun _ _ _ _ _ => (pe_c c__law_number hr (by first | decide | omega) (by rfl) (pa_cons (pv 0) pa_nil)))))), ?_⟩
    walk_at "b"
    refine Y.s_new rfl fun p1 hp1 => ?_
    walk_at "s"
    refine u_drawn (by walk_at "st") (by decide) (by decide) fun x H1 x0 x1 f1 S1 => ?_
    obtain ⟨v, e, k, rfl, k0, k1⟩ := Y.at_all (P := fun v => ∃ k, v = V.int k ∧ 0 < k ∧ k ≤ 21) (xs := [V.int 4, V.int 21]) (i := x) (by
      intro v hv
      simp only [List.mem_cons, List.not_mem_nil, or_false] at hv
      rcases hv with rfl | rfl <;> exact ⟨_, rfl, by decide, by decide⟩) x0 x1
    refine Y.s_ixL' (SqL.of (f1 p1 _ (by walk_at "ne") upd_same)) e ?_
    walk_at "s"
    refine u_drawn S1 k0 (by omega) fun y H2 y0 y1 f2 S2 => ?_
    walk_at "s"
    refine Y.s_lcR y0 (by omega) fun D hD => ⟨fun i acc Hx => Fr a H2 Hx ∧ StAt K Hx a ∧ ∃ ns : List Int, acc = ns.map V.int ∧ (∀ n ∈ ns, Nm n) ∧ ns.length = i, ?_, ?_, ?_⟩
    · exact ⟨by walk_at "fr", by walk_at "st", [], rfl, fun t m => (nomatch m), rfl⟩
    · rintro i acc Hx hi hl hD2 ⟨fx, Sx, ns, rfl, ht, el⟩
      walk_at "s"
      refine u_number Sx fun n H4 hn f4 S4 => ?_
      have e4 : H4 D = some (.lst (ns.map V.int)) := by walk_at "hp"
      refine Y.s_lcE e4 hl (by omega) ⟨by walk_at "fr", by walk_at "st", ns ++ [n], by rw [List.map_append]; rfl, fun m hm => ?_, by rw [List.length_append, el]; rfl⟩
      rcases List.mem_append.mp hm with hm | hm
      · exact ht m hm
      · rw [List.mem_singleton] at hm; rw [hm]; exact hn
    · rintro acc Hx hD2 hl ⟨fx, Sx, ns, rfl, ht, el⟩
      have h1 := (f1.trans f2).free hD (ne_of_none S2.spec hD).symm
      have hn : H D = none := ((Fr.refl a H).new hp1).free h1 (ne_of_none S2.spec hD).symm
      walk_at "s"
      exact q D ns Hx hn (by walk_at "fr") Sx hD2 ht (by omega)
abbrev s__law_kind : Stmt := top 32
theorem sc__law_kind : FnScope ["_law_state", "_law_way", "_law_one", "_law_k"] ["_law_state"] (fnScope s__law_kind) := fnScope_by (by decide +kernel)
theorem ok__law_kind {f : Addr} {fd : FuncData} (F : Def K mg "_law_kind" s__law_kind f fd) (b : Binds K fd ["_law_state"] []) (T : Txt K mg)
    (c__law_drawn : Cal P w K mg base 1 "_law_drawn" (spDrawn K) []) : Cal P w K mg base 2 "_law_kind" (spKind K) [] := by
  refine cal0 F b .nil sc__law_kind (fun vs H Q E h => ?_) (fun cdv A outer s H vs Q E hr h => ?_)
  · obtain ⟨a, rfl, _⟩ := h
    rfl
  · obtain ⟨a, rfl, hS, q⟩ := h
    have nd := sc__law_kind.nd
    refine ⟨_, (pss_cons (ps_set (i := 1) nd rfl (by first | exact Or.inl rfl | exact Or.inr rfl) (pe_c c__law_drawn hr (by first | decide | omega) (by rfl) (pa_cons (pv 0) (pa_cons pe_int pa_nil))))
      (pss_cons (ps_if (pt_cmpR op_eq (pv 1) pe_int (nomark _))
      (pss_one (ps_ret (pe_op op_repT (pe_tup (pa_cons pe_bl pa_nil)) pe_int)))
      pss_nil)
      (pss_cons (ps_set (i := 2) nd rfl (by first | exact Or.inl rfl | exact Or.inr rfl) (pe_c c__law_drawn hr (by first | decide | omega) (by rfl) (pa_cons (pv 0) (pa_cons pe_int pa_nil))))
      (pss_one (ps_ret (pe_callTy Y.cl_tuple (by rfl) T.n_tuple (by decide +kernel) (pa_cons (pe_lc (own := [("_law_k", 3)]) (g := gName 3) (by rfl) nd (pi_range1 rfl T.n_range (pa_cons pe_int pa_nil)) (blkOk_by (N := ["_law_state", "_law_way", "_law_one", "_law_k"]) (sc := fnScope s__law_kind) (by decide +kernel)) (fun _ _ _ _ _ => (pg_name (i := 3) nd rfl (by first | exact Or.inl rfl | exact Or.inr rfl))) (fun _ _ _ _ _ => pts_nil) (fun _ _ _ _ _ => (pe_ifExp (pt_cmpR op_eq (pv 1) pe_int (nomark _)) (pe_cmpR op_eq (pe_c c__law_drawn hr (by first | decide | omega) (by rfl) (pa_cons (pv 0) (pa_cons pe_int pa_nil))) pe_int (nomark _)) (pe_cmpR op_ne (pv 3) (pv 2) (nomark _))))) pa_nil))))))), ?_⟩
    walk_at "b"
    refine u_drawn hS (by decide) (by decide) fun x H1 x0 x1 f1 S1 => ?_
    walk_at "s"
    refine Y.s_d2 (fun _ => ?_) (fun _ => ?_)
    · walk_at "s"
      refine Y.s_new rfl fun p1 hp1 => ?_
      walk_at "s"
      refine Y.s_repT (by walk_at "sq") (by simp) (by decide) (by decide) (by decide) fun p2 hp2 => ?_
      walk_at "s"
      exact q p2 (List.replicate 7 true) _ (by walk_at "fr") (by walk_at "st") upd_same rfl
    · walk_at "s"
      refine u_drawn S1 (by decide) (by decide) fun y H2 y0 y1 f2 S2 => ?_
      walk_at "s"
      refine Y.s_lcR (by decide) (by decide) fun D hD => ⟨fun i acc Hx => Fr a H2 Hx ∧ StAt K Hx a ∧ ∃ bs : List Bool, acc = bs.map V.bl ∧ bs.length = i, ?_, ?_, ?_⟩
      · exact ⟨by walk_at "fr", by walk_at "st", [], rfl, rfl⟩
      · rintro i acc Hx hi hl hD2 ⟨fx, Sx, bs, rfl, el⟩
        walk_at "s"
        refine Y.s_d2 (fun _ => ?_) (fun _ => ?_)
        · walk_at "s"
          refine u_drawn Sx (by decide) (by decide) fun z H3 z0 z1 f3 S3 => ?_
          walk_at "s"
          have e4 : H3 D = some (.lst (bs.map V.bl)) := by walk_at "hp"
          exact Y.s_lcE e4 hl (by omega) ⟨by walk_at "fr", by walk_at "st", bs ++ [_], by rw [List.map_append]; rfl, by rw [List.length_append, el]; rfl⟩
        · walk_at "s"
          exact Y.s_lcE hD2 hl (by omega) ⟨by walk_at "fr", by walk_at "st", bs ++ [_], by rw [List.map_append]; rfl, by rw [List.length_append, el]; rfl⟩
      · rintro acc Hx hD2 hl ⟨fx, Sx, bs, rfl, el⟩
        walk_at "s"
        intro t ht
        exact q t bs _ (by walk_at "fr") (by walk_at "st") upd_same el
end
end G
/-! ### the bundle, with lists of things -/
namespace G
open PySem L2
section
variable {α : Type} {x y0 y1 y2 y3 y4 y5 y6 y7 : α} {l : List α}
theorem i0 : x ∈ x :: l := .head _
theorem i1 : x ∈ y0 :: x :: l := .tail _ (.head _)
theorem i2 : x ∈ y0 :: y1 :: x :: l := .tail _ i1
theorem i3 : x ∈ y0 :: y1 :: y2 :: x :: l := .tail _ i2
theorem i4 : x ∈ y0 :: y1 :: y2 :: y3 :: x :: l := .tail _ i3
theorem i5 : x ∈ y0 :: y1 :: y2 :: y3 :: y4 :: x :: l := .tail _ i4
theorem i6 : x ∈ y0 :: y1 :: y2 :: y3 :: y4 :: y5 :: x :: l := .tail _ i5
theorem i7 : x ∈ y0 :: y1 :: y2 :: y3 :: y4 :: y5 :: y6 :: x :: l := .tail _ i6
theorem i8 : x ∈ y0 :: y1 :: y2 :: y3 :: y4 :: y5 :: y6 :: y7 :: x :: l := .tail _ i7
theorem sub0 : ∀ z ∈ ([] : List α), z ∈ l := fun _ m => nomatch m
theorem sub_cons {r : List α} (h : x ∈ l) (t : ∀ z ∈ r, z ∈ l) : ∀ z ∈ x :: r, z ∈ l := fun z m => by
  rcases List.mem_cons.mp m with rfl | m
  · exact h
  · exact t z m
theorem sub1 (h : x ∈ l) : ∀ z ∈ [x], z ∈ l := sub_cons h sub0
theorem sub2 (h : x ∈ l) (h2 : y0 ∈ l) : ∀ z ∈ [x, y0], z ∈ l := sub_cons h (sub1 h2)
theorem sub3 (h : x ∈ l) (h2 : y0 ∈ l) (h3 : y1 ∈ l) : ∀ z ∈ [x, y0, y1], z ∈ l := sub_cons h (sub2 h2 h3)
theorem ks0 {p : Addr} {L : List (Addr × HO)} : ∀ z ∈ ([] : List (Addr × HO)), z ∈ L ∧ z.1 ≠ p := fun _ m => nomatch m
theorem ks_cons {p : Addr} {L r : List (Addr × HO)} {x : Addr × HO} (h : x ∈ L) (n : x.1 ≠ p) (t : ∀ z ∈ r, z ∈ L ∧ z.1 ≠ p) : ∀ z ∈ x :: r, z ∈ L ∧ z.1 ≠ p := fun z m => by
  rcases List.mem_cons.mp m with rfl | m
  · exact ⟨h, n⟩
  · exact t z m
end
theorem things_nil {H : Hp} : Things H [] := fun _ m => nomatch m
theorem things_cons {H : Hp} {t : Thing} {ts : List Thing} (g : t.At H) (h : Things H ts) : Things H (t :: ts) := fun u m => by
  rcases List.mem_cons.mp m with rfl | m
  · exact g
  · exact h u m
theorem things_set {H : Hp} {t : Thing} {ts : List Thing} {i : Nat} (h : Things H ts) (g : t.At H) : Things H (ts.set i t) := fun u m => by
  rcases List.mem_or_eq_of_mem_set m with m | rfl
  · exact h u m
  · exact g
theorem things_app {H : Hp} {ts us : List Thing} (h : Things H ts) (g : Things H us) : Things H (ts ++ us) := fun u m => by
  rcases List.mem_append.mp m with m | m
  · exact h u m
  · exact g u m
theorem at_th {ts : List Thing} {i : Int} (h0 : 0 ≤ i) (h1 : i < ts.length) : ∃ t, atI (ts.map Thing.v) i = some t.v ∧ t ∈ ts := by
  have e : ts[i.toNat]? = some ts[i.toNat] := List.getElem?_eq_getElem (by omega)
  exact ⟨_, at_of (j := i.toNat) (by omega) (by rw [List.getElem?_map, e]; rfl), List.getElem_mem _⟩
theorem ixN_nat {n k : Nat} (h : k < n) : ixN n (k : Int) = some k := by
  unfold ixN
  rw [if_pos (by omega), if_pos (by omega)]
  simp
structure Bt (K : PySem.W.Frag) (a : Addr) (H0 H : Hp) (L : List (Addr × HO)) (T : List (List Thing)) : Prop where
  b : Bd K a H0 H L
  t : ∀ ts ∈ T, Things H ts
section
variable {K : PySem.W.Frag} {a p : Addr} {H0 H H' : Hp} {L : List (Addr × HO)} {T : List (List Thing)} {o : HO} {xs ys : List V}
theorem Bt.st (k : Bt K a H0 H L T) : StAt K H a := k.b.st
theorem Bt.fr (k : Bt K a H0 H L T) : Fr a H0 H := k.b.fr
theorem Bt.get (k : Bt K a H0 H L T) (m : (p, o) ∈ L) : H p = some o := k.b.get m
theorem Bt.start (h : StAt K H a) : Bt K a H H [] [] := ⟨Bd.start h, fun _ m => nomatch m⟩
theorem Bt.new (h : H p = .none) (k : Bt K a H0 H L T) : Bt K a H0 (upd H p o) ((p, o) :: L) T :=
  ⟨k.b.new h, fun ts m => (k.t ts m).tu (Tu.new (Tu.refl H) h)⟩
theorem Bt.step (f : Fr a H H') (s : StAt K H' a) (k : Bt K a H0 H L T) : Bt K a H0 H' L T :=
  ⟨k.b.step f s, fun ts m => (k.t ts m).tu (Tu.fr (Tu.refl H) f k.st.spec)⟩
theorem Bt.less (k : Bt K a H0 H L T) {L' : List (Addr × HO)} {T' : List (List Thing)} (h : ∀ x ∈ L', x ∈ L) (ht : ∀ x ∈ T', x ∈ T) : Bt K a H0 H L' T' := ⟨k.b.less h, fun ts m => k.t ts (ht ts m)⟩
theorem Bt.set (k : Bt K a H0 H L T) (m : (p, HO.lst xs) ∈ L) : Bt K a H0 (upd H p o) ((p, o) :: L.filter fun x => decide (x.1 ≠ p)) T :=
  ⟨k.b.set m, fun ts mt => (k.t ts mt).tu (Tu.lst (Tu.refl H) (k.get m))⟩
/-- a list is written; nothing else of L is kept -/
theorem Bt.put1 (k : Bt K a H0 H L T) (m : (p, HO.lst xs) ∈ L) : Bt K a H0 (upd H p o) [(p, o)] T :=
  ⟨k.b.put [] m (.inl ⟨_, rfl⟩) (fun _ m => nomatch m) (fun _ m => nomatch m), fun ts mt => (k.t ts mt).tu (Tu.lst (Tu.refl H) (k.get m))⟩
theorem Bd.setK (k : Bd K a H0 H L) {L' : List (Addr × HO)} (m : (p, HO.lst xs) ∈ L) (h : ∀ x ∈ L', x ∈ L ∧ x.1 ≠ p) : Bd K a H0 (upd H p o) ((p, o) :: L') := by
  have e := k.get m
  obtain ⟨h0, na, _⟩ := k.al _ m
  refine ⟨k.st.own e na.symm, k.fr.own h0, fun x mx => ?_⟩
  rcases List.mem_cons.mp mx with rfl | mx
  · exact ⟨h0, na, upd_same⟩
  · obtain ⟨mx, ne⟩ := h x mx
    obtain ⟨h1, h2, h3⟩ := k.al x mx
    exact ⟨h1, h2, by rw [upd_ne ne]; exact h3⟩
theorem Bt.setK (k : Bt K a H0 H L T) {L' : List (Addr × HO)} (m : (p, HO.lst xs) ∈ L) (h : ∀ x ∈ L', x ∈ L ∧ x.1 ≠ p) : Bt K a H0 (upd H p o) ((p, o) :: L') T :=
  ⟨k.b.setK m h, fun ts mt => (k.t ts mt).tu (Tu.lst (Tu.refl H) (k.get m))⟩
theorem Bt.add (k : Bt K a H0 H L T) {ts : List Thing} (h : Things H ts) : Bt K a H0 H L (ts :: T) := ⟨k.b, fun us m => by
  rcases List.mem_cons.mp m with rfl | m
  · exact h
  · exact k.t us m⟩
theorem Bt.row (k : Bt K a H0 H L T) (r : Row) (m : (p, HO.tup r.vs) ∈ L) (h : r.ok) : (Thing.row p r).At H := ⟨k.get m, h⟩
theorem b_newT {R : Addr → Prop} (k : Bt K a H0 H L T) (h : Nat.ble xs.length 1000 = true) (q : ∀ p, H p = none → Bt K a H0 (upd H p (.tup xs)) ((p, .tup xs) :: L) T → R p) : xs.length ≤ sizeLine ∧ ∀ p, H p = none → R p :=
  Y.s_new h fun p hp => q p hp (k.new hp)
theorem b_newL {R : Addr → Prop} (k : Bt K a H0 H L T) (h : Nat.ble xs.length 1000 = true) (q : ∀ p, H p = none → Bt K a H0 (upd H p (.lst xs)) ((p, .lst xs) :: L) T → R p) : xs.length ≤ sizeLine ∧ ∀ p, H p = none → R p :=
  Y.s_new h fun p hp => q p hp (k.new hp)
theorem Bt.none (k : Bt K a H0 H L T) (h : H p = .none) : H0 p = .none := k.b.none h
end
end G
namespace G
open PySem L2 C8
section
variable {P : Program} {w : World} {K : PySem.W.Frag} {mg : Str → Option Value} {base : Heap}
abbrev s__law_ruler : Stmt := top 30
theorem sc__law_ruler : FnScope ["_law_state", "_law_many", "_law_cells_here", "_law_first", "_law_size", "_law_start_here", "_law_begin", "_law_looks", "_law_ends", "_law_at", "_law_k"] ["_law_state"] (fnScope s__law_ruler) := fnScope_by (by decide +kernel)
theorem ok__law_ruler {f : Addr} {fd : FuncData} (F : Def K mg "_law_ruler" s__law_ruler f fd) (b : Binds K fd ["_law_state"] []) (T : Txt K mg)
    (c__law_drawn : Cal P w K mg base 1 "_law_drawn" (spDrawn K) []) (c__law_number : Cal P w K mg base 2 "_law_number" (spNumber K) []) (c__law_row : Cal P w K mg base 3 "_law_row" (spRow K) []) : Cal P w K mg base 4 "_law_ruler" (spCells K) [] := by
  refine cal0 F b .nil sc__law_ruler (fun vs H Q E h => ?_) (fun cdv A outer s H vs Q E hr h => ?_)
  · obtain ⟨a, rfl, _⟩ := h
    rfl
  · obtain ⟨a, rfl, hS, q⟩ := h
    have nd := sc__law_ruler.nd
    refine ⟨_, (pss_cons (ps_set (i := 1) nd rfl (by first | exact Or.inl rfl | exact Or.inr rfl) (pe_op op_add pe_int (pe_c c__law_drawn hr (by first | decide | omega) (by rfl) (pa_cons (pv 0) (pa_cons pe_int pa_nil)))))
      (pss_cons (ps_set (i := 2) nd rfl (by first | exact Or.inl rfl | exact Or.inr rfl) (pe_op op_cat (pe_lst (pa_cons (pe_tup (pa_cons pe_str (pa_cons pe_int pa_nil))) pa_nil)) (pe_lc (own := [("_law_at", 9)]) (g := gName 9) (by rfl) nd (pi_range1 rfl T.n_range (pa_cons pe_int pa_nil)) (blkOk_by (N := ["_law_state", "_law_many", "_law_cells_here", "_law_first", "_law_size", "_law_start_here", "_law_begin", "_law_looks", "_law_ends", "_law_at", "_law_k"]) (sc := fnScope s__law_ruler) (by decide +kernel)) (fun _ _ _ _ _ => (pg_name (i := 9) nd rfl (by first | exact Or.inl rfl | exact Or.inr rfl))) (fun _ _ _ _ _ => pts_nil) (fun _ _ _ _ _ => (pe_c c__law_number hr (by first | decide | omega) (by rfl) (pa_cons (pv 0) pa_nil))))))
      (pss_cons (ps_asg pe_int (pg_sub (pv 2) pe_int set_list))
      (pss_cons (ps_set (i := 3) nd rfl (by first | exact Or.inl rfl | exact Or.inr rfl) (pe_c c__law_drawn hr (by first | decide | omega) (by rfl) (pa_cons (pv 0) (pa_cons pe_int pa_nil))))
      (pss_cons (ps_set (i := 4) nd rfl (by first | exact Or.inl rfl | exact Or.inr rfl) (pe_ix ix_list (pe_lst (pa_cons (pe_op op_sub (pv 1) (pv 3)) (pa_cons (pe_op op_add pe_int (pe_c c__law_drawn hr (by first | decide | omega) (by rfl) (pa_cons (pv 0) (pa_cons pe_int pa_nil)))) (pa_cons (pv 1) pa_nil)))) (pe_c c__law_drawn hr (by first | decide | omega) (by rfl) (pa_cons (pv 0) (pa_cons pe_int pa_nil))) (fun _ _ => rfl)))
      (pss_cons (ps_set (i := 5) nd rfl (by first | exact Or.inl rfl | exact Or.inr rfl) (pe_ix ix_list (pe_lst (pa_cons (pe_op op_sub pe_int (pv 3)) (pa_cons (pe_op op_add (pe_op op_sub pe_int (pv 3)) (pe_c c__law_drawn hr (by first | decide | omega) (by rfl) (pa_cons (pv 0) (pa_cons pe_int pa_nil)))) (pa_cons (pe_c c__law_drawn hr (by first | decide | omega) (by rfl) (pa_cons (pv 0) (pa_cons pe_int pa_nil))) pa_nil)))) (pe_c c__law_drawn hr (by first | decide | omega) (by rfl) (pa_cons (pv 0) (pa_cons pe_int pa_nil))) (fun _ _ => rfl)))
      (pss_cons (ps_set (i := 6) nd rfl (by first | exact Or.inl rfl | exact Or.inr rfl) (pe_lst (pa_cons (pe_tup (pa_cons pe_str (pa_cons pe_int (pa_cons (pe_c c__law_drawn hr (by first | decide | omega) (by rfl) (pa_cons (pv 0) (pa_cons pe_int pa_nil))) pa_nil)))) (pa_cons (pe_tup (pa_cons pe_str (pa_cons pe_int pa_nil))) (pa_cons (pe_tup (pa_cons pe_str (pa_cons pe_int (pa_cons (pv 3) pa_nil)))) (pa_cons (pe_tup (pa_cons pe_str (pa_cons pe_int (pa_cons (pv 4) pa_nil)))) (pa_cons (pe_tup (pa_cons pe_str (pa_cons pe_int (pa_cons (pv 5) pa_nil)))) pa_nil)))))))
      (pss_cons (ps_set (i := 2) nd rfl (by first | exact Or.inl rfl | exact Or.inr rfl) (pe_op op_cat (pe_op op_cat (pv 2) (pv 6)) (pe_lst (pa_cons (pe_tup (pa_cons pe_str (pa_cons pe_int pa_nil))) (pa_cons (pe_tup (pa_cons pe_str pa_nil)) pa_nil)))))
      (pss_cons (ps_set (i := 7) nd rfl (by first | exact Or.inl rfl | exact Or.inr rfl) (pe_lst (pa_cons (pe_tup (pa_cons pe_str (pa_cons pe_int (pa_cons pe_int pa_nil)))) (pa_cons (pe_tup (pa_cons pe_str (pa_cons pe_int (pa_cons pe_int pa_nil)))) (pa_cons (pe_tup (pa_cons pe_str (pa_cons pe_int pa_nil))) (pa_cons (pe_tup (pa_cons pe_str (pa_cons pe_int (pa_cons (pe_c c__law_drawn hr (by first | decide | omega) (by rfl) (pa_cons (pv 0) (pa_cons pe_int pa_nil))) pa_nil)))) (pa_cons (pe_tup (pa_cons pe_str (pa_cons pe_int pa_nil))) (pa_cons (pe_tup (pa_cons pe_str (pa_cons pe_int pa_nil))) pa_nil))))))))
      (pss_cons (ps_set (i := 8) nd rfl (by first | exact Or.inl rfl | exact Or.inr rfl) (pe_lst (pa_cons (pe_tup (pa_cons pe_str (pa_cons pe_int pa_nil))) (pa_cons (pe_tup (pa_cons pe_str (pa_cons pe_int pa_nil))) (pa_cons (pe_tup (pa_cons pe_str (pa_cons pe_int pa_nil))) (pa_cons (pe_tup (pa_cons pe_str (pa_cons pe_int pa_nil))) (pa_cons (pe_tup (pa_cons pe_str pa_nil)) pa_nil)))))))
      (pss_cons (ps_set (i := 2) nd rfl (by first | exact Or.inl rfl | exact Or.inr rfl) (pe_op op_cat (pe_op op_cat (pv 2) (pe_lc (own := [("_law_k", 10)]) (g := gName 10) (by rfl) nd (pi_range1 rfl T.n_range (pa_cons pe_int pa_nil)) (blkOk_by (N := ["_law_state", "_law_many", "_law_cells_here", "_law_first", "_law_size", "_law_start_here", "_law_begin", "_law_looks", "_law_ends", "_law_at", "_law_k"]) (sc := fnScope s__law_ruler) (by decide +kernel)) (fun _ _ _ _ _ => (pg_name (i := 10) nd rfl (by first | exact Or.inl rfl | exact Or.inr rfl))) (fun _ _ _ _ _ => pts_nil) (fun _ _ _ _ _ => (pe_ix (show IxR _ (rIxL K) from ix_list) (pv 7) (pe_c c__law_drawn hr (by first | decide | omega) (by rfl) (pa_cons (pv 0) (pa_cons pe_int pa_nil))) (fun _ _ => rfl))))) (pe_lst (pa_cons (pe_ix ix_list (pv 8) (pe_c c__law_drawn hr (by first | decide | omega) (by rfl) (pa_cons (pv 0) (pa_cons pe_int pa_nil))) (fun _ _ => rfl)) pa_nil))))
      (pss_one (ps_ret (pe_op op_cat (pv 2) (pe_lc (own := [("_law_at", 9)]) (g := gName 9) (by rfl) nd (pi_range1 rfl T.n_range (pa_cons (pe_op op_sub (pv 1) pe_int) pa_nil)) (blkOk_by (N := ["_law_state", "_law_many", "_law_cells_here", "_law_first", "_law_size", "_law_start_here", "_law_begin", "_law_looks", "_law_ends", "_law_at", "_law_k"]) (sc := fnScope s__law_ruler) (by decide +kernel)) (fun _ _ _ _ _ => (pg_name (i := 9) nd rfl (by first | exact Or.inl rfl | exact Or.inr rfl))) (fun _ _ _ _ _ => pts_nil) (fun _ _ _ _ _ => (pe_c c__law_row hr (by first | decide | omega) (by rfl) (pa_cons (pv 0) (pa_cons pe_int pa_nil))))))))))))))))))), ?_⟩
    walk_at "b"
    have k := Bt.start hS
    refine u_drawn k.st (by decide) (by decide) fun x H1 x0 x1 f1 S1 => ?_
    have k := k.step f1 S1
    walk_at "s"
    refine b_newT k rfl fun t1 ht1 k => ?_
    walk_at "s"
    refine b_newL k rfl fun l1 hl1 k => ?_
    walk_at "s"
    refine Y.s_lcR (by decide) (by decide) fun D hD => ?_
    have nt : t1 ≠ D := ne_of_none (k.get i1) hD
    have nl : l1 ≠ D := ne_of_none (k.get i0) hD
    refine ⟨fun i acc Hx => ∃ ns : List Int, Bt K a H Hx [(D, .lst (ns.map V.int)), (t1, .tup [.str "go", .int 10]), (l1, .lst [.ref t1])] [] ∧ acc = ns.map V.int ∧ (∀ n ∈ ns, Nm n) ∧ ns.length = i, ?_, ?_, ?_⟩
    · exact ⟨[], (k.new hD).less (sub3 i0 i2 i1) sub0, rfl, fun t m => (nomatch m), rfl⟩
    · rintro i acc Hx hi hl hD2 ⟨ns, k, rfl, ht, el⟩
      walk_at "s"
      refine u_number k.st fun n H4 hn f4 S4 => ?_
      have k := k.step f4 S4
      have en : ns.map V.int ++ [V.int n] = (ns ++ [n]).map V.int := by rw [List.map_append]; rfl
      refine Y.s_lcE (k.get i0) hl (by omega) ⟨ns ++ [n], ?_, en, fun m hm => ?_, by rw [List.length_append, el]; rfl⟩
      · rw [en]
        exact k.setK i0 (ks_cons i1 nt (ks_cons i2 nl ks0))
      rcases List.mem_append.mp hm with hm | hm
      · exact ht m hm
      · rw [List.mem_singleton] at hm; rw [hm]; exact hn
    · rintro acc Hx hD2 hl ⟨ns, k, rfl, ht, el⟩
      walk_at "t"
      refine Y.s_cat (k.get i2) (k.get i0) (by walk_at "len") fun l2 hl2 => ?_
      have tt : (Thing.row t1 (.go 10)).At Hx := k.row (.go 10) i1 ⟨by decide, by decide⟩
      have k := (k.add (things_cons tt (fun u m => by
          obtain ⟨n, hn, rfl⟩ := List.mem_map.mp m
          exact ht n hn) : Things Hx (.row t1 (.go 10) :: ns.map Thing.num))).new (o := .lst ([V.ref t1] ++ ns.map V.int)) hl2
      obtain ⟨ts, ets, tl2⟩ : ∃ ts : List Thing, ts = .row t1 (.go 10) :: ns.map Thing.num ∧ ts.length = 10 := ⟨_, rfl, by rw [List.length_cons, List.length_map, el]; rfl⟩
      have ev : [V.ref t1] ++ ns.map V.int = ts.map Thing.v := by rw [ets, List.map_cons, List.map_map]; rfl
      rw [← ets] at k
      rw [ev] at k ⊢
      walk_at "t"
      refine Y.fgt (fun H' => Bt K a H H' [(l2, .lst (ts.map Thing.v))] [ts]) (k.less (sub1 i0) (sub1 i0)) fun H2 k => ?_
      walk_at "s"
      refine Y.s_setL (xs := ts.map Thing.v) (k := 5) (k.get i0) (show ixN _ 5 = some 5 from ixN_nat (k := 5) (by rw [List.length_map]; omega)) ?_
      have e5 : (ts.map Thing.v).set 5 (V.int 17) = (ts.set 5 (.num 17)).map Thing.v := by rw [List.map_set]; rfl
      rw [e5]
      have k := (k.add (things_set (i := 5) (k.t ts i0) (show (Thing.num 17).At H2 from ⟨by decide, by decide⟩))).setK (o := .lst ((ts.set 5 (.num 17)).map Thing.v)) i0 ks0
      obtain ⟨t3, et3, tl3⟩ : ∃ t3 : List Thing, t3 = ts.set 5 (.num 17) ∧ t3.length = 10 := ⟨_, rfl, by rw [List.length_set]; exact tl2⟩
      rw [← et3] at k ⊢
      walk_at "t"
      refine Y.fgt (fun H' => Bt K a H H' [(l2, .lst (t3.map Thing.v))] [t3]) (k.less (sub1 i0) (sub1 i0)) fun H3 k => ?_
      walk_at "s"
      -- first
      refine u_drawn k.st (by decide) (by decide) fun fi H4 fi0 fi1 f4 S4 => ?_
      have k := k.step f4 S4
      walk_at "s"
      -- size
      refine u_drawn k.st (by decide) (by decide) fun y6 H6 y60 y61 f6 S6 => ?_
      have k := k.step f6 S6
      walk_at "s"
      refine b_newL k rfl fun l6 hl6 k => ?_
      walk_at "s"
      refine u_drawn k.st (by decide) (by decide) fun x7 H7 x70 x71 f7 S7 => ?_
      have k := k.step f7 S7
      obtain ⟨v, e7, size, rfl, hsize⟩ := Y.at_all (P := fun v => ∃ k, v = V.int k ∧ Nm k) (xs := [V.int (30 + x - fi), V.int (8 + y6), V.int (30 + x)]) (i := x7) (by
        intro v hv
        simp only [List.mem_cons, List.not_mem_nil, or_false] at hv
        rcases hv with rfl | rfl | rfl <;> exact ⟨_, rfl, by omega, by omega⟩) x70 x71
      refine Y.s_ixL' (SqL.of (k.get i0)) e7 ?_
      walk_at "t"
      have k := k.less (sub1 i1) (sub1 i0)
      walk_at "s"
      -- start
      refine u_drawn k.st (by decide) (by decide) fun y9 H9 y90 y91 f9 S9 => ?_
      have k := k.step f9 S9
      walk_at "s"
      refine u_drawn k.st (by decide) (by decide) fun z9 H10 z90 z91 f10 S10 => ?_
      have k := k.step f10 S10
      walk_at "s"
      refine b_newL k rfl fun l9 hl9 k => ?_
      walk_at "s"
      refine u_drawn k.st (by decide) (by decide) fun x11 H11 x110 x111 f11 S11 => ?_
      have k := k.step f11 S11
      obtain ⟨v, e11, start, rfl, hstart⟩ := Y.at_all (P := fun v => ∃ k, v = V.int k ∧ Nm k) (xs := [V.int (24 - fi), V.int (24 - fi + y9), V.int z9]) (i := x11) (by
        intro v hv
        simp only [List.mem_cons, List.not_mem_nil, or_false] at hv
        rcases hv with rfl | rfl | rfl <;> exact ⟨_, rfl, by omega, by omega⟩) x110 x111
      refine Y.s_ixL' (SqL.of (k.get i0)) e11 ?_
      walk_at "t"
      have k := k.less (sub1 i1) (sub1 i0)
      walk_at "s"
      -- begin
      refine u_drawn k.st (by decide) (by decide) fun y13 H13 y130 y131 f13 S13 => ?_
      have k := k.step f13 S13
      walk_at "s"
      refine b_newT k rfl fun q1 hq1 k => ?_
      walk_at "s"
      refine b_newT k rfl fun q2 hq2 k => ?_
      walk_at "s"
      refine b_newT k rfl fun q3 hq3 k => ?_
      walk_at "s"
      refine b_newT k rfl fun q4 hq4 k => ?_
      walk_at "s"
      refine b_newT k rfl fun q5 hq5 k => ?_
      have tb := things_cons (k.row (.put 3 y13) i4 ⟨⟨by decide, by decide⟩, by omega, by omega⟩) (things_cons (k.row (.alarm 3) i3 ⟨by decide, by decide⟩) (things_cons (k.row (.put 0 fi) i2 ⟨⟨by decide, by decide⟩, by omega, by omega⟩)
        (things_cons (k.row (.put 1 size) i1 ⟨⟨by decide, by decide⟩, hsize⟩) (things_cons (k.row (.put 2 start) i0 ⟨⟨by decide, by decide⟩, hstart⟩) things_nil))))
      have k := (k.less (sub1 i5) (sub1 i0)).add tb
      walk_at "s"
      refine b_newL k rfl fun lb hlb k => ?_
      walk_at "t"
      obtain ⟨u5, eu5, lu5, vu5⟩ : ∃ u5 : List Thing, u5 = [.row q1 (.put 3 y13), .row q2 (.alarm 3), .row q3 (.put 0 fi), .row q4 (.put 1 size), .row q5 (.put 2 start)] ∧ u5.length = 5 ∧ [V.ref q1, V.ref q2, V.ref q3, V.ref q4, V.ref q5] = u5.map Thing.v := ⟨_, rfl, rfl, rfl⟩
      rw [← eu5, vu5] at k
      refine Y.fgt (fun H' => Bt K a H H' [(lb, .lst (u5.map Thing.v)), (l2, .lst (t3.map Thing.v))] [u5, t3]) (by rw [vu5]; exact k) fun H14 k => ?_
      walk_at "s"
      -- cells + begin + [..]
      refine Y.s_cat (k.get i1) (k.get i0) (by walk_at "len") fun l3 hl3 => ?_
      have k := k.new (o := .lst (t3.map Thing.v ++ u5.map Thing.v)) hl3
      walk_at "s"
      refine b_newT k rfl fun q6 hq6 k => ?_
      walk_at "s"
      refine b_newT k rfl fun q7 hq7 k => ?_
      walk_at "s"
      refine b_newL k rfl fun l4 hl4 k => ?_
      walk_at "s"
      refine fun l5 hl5 => ?_
      have hap := things_app (things_app (k.t t3 i1) (k.t u5 i0)) (things_cons (k.row (.enter 0) i2 ⟨by decide, by decide⟩) (things_cons (k.row .stop i1 True.intro) things_nil))
      obtain ⟨t17, et17, l17, v17⟩ : ∃ t17 : List Thing, t17 = t3 ++ u5 ++ [.row q6 (.enter 0), .row q7 .stop] ∧ t17.length = 17 ∧ (t3.map Thing.v ++ u5.map Thing.v) ++ [V.ref q6, V.ref q7] = t17.map Thing.v := ⟨_, rfl, by rw [List.length_append, List.length_append, tl3, lu5]; rfl, by rw [List.map_append, List.map_append]; rfl⟩
      rw [← et17] at hap
      rw [v17]
      have k := (k.add hap).new (o := .lst (t17.map Thing.v)) hl5
      have k := k.less (sub1 i0) (sub1 i0)
      walk_at "t"
      refine Y.fgt (fun H' => Bt K a H H' [(l5, .lst (t17.map Thing.v))] [t17]) k fun H15 k => ?_
      walk_at "s"
      -- looks
      refine b_newT k rfl fun q1 hq1 k => ?_
      walk_at "s"
      refine b_newT k rfl fun q2 hq2 k => ?_
      walk_at "s"
      refine b_newT k rfl fun q3 hq3 k => ?_
      walk_at "s"
      refine u_drawn k.st (by decide) (by decide) fun y16 H16 y160 y161 f16 S16 => ?_
      have k := k.step f16 S16
      walk_at "s"
      refine b_newT k rfl fun q4 hq4 k => ?_
      walk_at "s"
      refine b_newT k rfl fun q5 hq5 k => ?_
      walk_at "s"
      refine b_newT k rfl fun q8 hq8 k => ?_
      have tb := things_cons (k.row (.put 3 3) i5 ⟨⟨by decide, by decide⟩, by decide, by decide⟩) (things_cons (k.row (.load 3 3) i4 ⟨⟨by decide, by decide⟩, by decide, by decide⟩) (things_cons (k.row (.say 3) i3 ⟨by decide, by decide⟩)
        (things_cons (k.row (.put 3 y16) i2 ⟨⟨by decide, by decide⟩, by omega, by omega⟩) (things_cons (k.row (.alarm 3) i1 ⟨by decide, by decide⟩) (things_cons (k.row (.hear 1) i0 ⟨by decide, by decide⟩) things_nil)))))
      have k := (k.less (sub1 i6) (sub1 i0)).add tb
      walk_at "s"
      refine b_newL k rfl fun lk hlk k => ?_
      walk_at "t"
      obtain ⟨u6, eu6, lu6, vu6⟩ : ∃ u6 : List Thing, u6 = [.row q1 (.put 3 3), .row q2 (.load 3 3), .row q3 (.say 3), .row q4 (.put 3 y16), .row q5 (.alarm 3), .row q8 (.hear 1)] ∧ u6.length = 6 ∧ [V.ref q1, V.ref q2, V.ref q3, V.ref q4, V.ref q5, V.ref q8] = u6.map Thing.v := ⟨_, rfl, rfl, rfl⟩
      rw [← eu6, vu6] at k
      refine Y.fgt (fun H' => Bt K a H H' [(lk, .lst (u6.map Thing.v)), (l5, .lst (t17.map Thing.v))] [u6, t17]) (by rw [vu6]; exact k) fun H17 k => ?_
      walk_at "s"
      -- ends
      refine b_newT k rfl fun q1 hq1 k => ?_
      walk_at "s"
      refine b_newT k rfl fun q2 hq2 k => ?_
      walk_at "s"
      refine b_newT k rfl fun q3 hq3 k => ?_
      walk_at "s"
      refine b_newT k rfl fun q4 hq4 k => ?_
      walk_at "s"
      refine b_newT k rfl fun q5 hq5 k => ?_
      have tb := things_cons (k.row (.enter 0) i4 ⟨by decide, by decide⟩) (things_cons (k.row (.go 10) i3 ⟨by decide, by decide⟩) (things_cons (k.row (.enter 1) i2 ⟨by decide, by decide⟩)
        (things_cons (k.row (.go 12) i1 ⟨by decide, by decide⟩) (things_cons (k.row .stop i0 True.intro) things_nil))))
      have k := (k.less (sub2 i5 i6) (sub2 i0 i1)).add tb
      walk_at "s"
      refine b_newL k rfl fun le hle k => ?_
      walk_at "t"
      obtain ⟨e5, ee5, le5, ve5⟩ : ∃ e5 : List Thing, e5 = [.row q1 (.enter 0), .row q2 (.go 10), .row q3 (.enter 1), .row q4 (.go 12), .row q5 .stop] ∧ e5.length = 5 ∧ [V.ref q1, V.ref q2, V.ref q3, V.ref q4, V.ref q5] = e5.map Thing.v := ⟨_, rfl, rfl, rfl⟩
      rw [← ee5, ve5] at k
      refine Y.fgt (fun H' => Bt K a H H' [(le, .lst (e5.map Thing.v)), (lk, .lst (u6.map Thing.v)), (l5, .lst (t17.map Thing.v))] [e5, u6, t17]) (by rw [ve5]; exact k) fun H18 k => ?_
      walk_at "s"
      -- looks drawn
      refine Y.s_lcR (by decide) (by decide) fun D6 hD6 => ?_
      have n1 : le ≠ D6 := ne_of_none (k.get i0) hD6
      have n2 : lk ≠ D6 := ne_of_none (k.get i1) hD6
      have n3 : l5 ≠ D6 := ne_of_none (k.get i2) hD6
      refine ⟨fun i acc Hx => ∃ ts : List Thing, Bt K a H Hx [(D6, .lst (ts.map Thing.v)), (le, .lst (e5.map Thing.v)), (lk, .lst (u6.map Thing.v)), (l5, .lst (t17.map Thing.v))] [ts, e5, u6, t17] ∧ acc = ts.map Thing.v ∧ ts.length = i, ?_, ?_, ?_⟩
      · exact ⟨[], (k.add things_nil).new hD6, rfl, rfl⟩
      · rintro i acc Hx hi hl hD2 ⟨ts, k, rfl, el⟩
        walk_at "s"
        refine u_drawn k.st (by decide) (by decide) fun y H4 y0 y1 f4 S4 => ?_
        have k := k.step f4 S4
        obtain ⟨t, et, mt⟩ := at_th (ts := u6) y0 (by rw [lu6]; exact y1)
        refine Y.s_ixL' (SqL.of (k.get i2)) et ?_
        have en : ts.map Thing.v ++ [t.v] = (ts ++ [t]).map Thing.v := by rw [List.map_append]; rfl
        refine Y.s_lcE (k.get i0) hl (by omega) ⟨ts ++ [t], ?_, en, by rw [List.length_append, el]; rfl⟩
        rw [en]
        exact ((k.add (thing_snoc (k.t ts i0) (k.t u6 i2 t mt))).setK i0 (ks_cons i1 n1 (ks_cons i2 n2 (ks_cons i3 n3 ks0)))).less (sub_cons i0 (sub3 i1 i2 i3)) (sub_cons i0 (sub3 i2 i3 i4))
      rintro acc Hx hD2 hl ⟨ts, k, rfl, el⟩
      walk_at "s"
      refine Y.s_cat (k.get i3) (k.get i0) (by walk_at "len") fun l6 hl6 => ?_
      have k := k.new (o := .lst (t17.map Thing.v ++ ts.map Thing.v)) hl6
      walk_at "s"
      refine u_drawn k.st (by decide) (by decide) fun y H19 y0 y1 f4 S4 => ?_
      have k := k.step f4 S4
      obtain ⟨t, et, mt⟩ := at_th (ts := e5) y0 (by rw [le5]; exact y1)
      refine Y.s_ixL' (SqL.of (k.get i2)) et ?_
      walk_at "s"
      refine b_newL k rfl fun l7 hl7 k => ?_
      walk_at "s"
      refine Y.s_cat (k.get i1) (k.get i0) (by walk_at "len") fun l8 hl8 => ?_
      have hap := things_app (things_app (k.t t17 i3) (k.t ts i0)) (things_cons (k.t e5 i1 t mt) things_nil)
      obtain ⟨t24, et24, l24, v24⟩ : ∃ t24 : List Thing, t24 = t17 ++ ts ++ [t] ∧ t24.length = 24 ∧ (t17.map Thing.v ++ ts.map Thing.v) ++ [t.v] = t24.map Thing.v := ⟨_, rfl, by rw [List.length_append, List.length_append, l17, el]; rfl, by rw [List.map_append, List.map_append]; rfl⟩
      rw [← et24] at hap
      rw [v24]
      have k := ((k.add hap).new (o := .lst (t24.map Thing.v)) hl8).less (sub1 i0) (sub1 i0)
      walk_at "t"
      refine Y.fgt (fun H' => Bt K a H H' [(l8, .lst (t24.map Thing.v))] [t24]) k fun H20 k => ?_
      walk_at "s"
      refine Y.s_lcR (by omega) (by omega) fun D9 hD9 => ?_
      have n9 : l8 ≠ D9 := ne_of_none (k.get i0) hD9
      refine ⟨fun i acc Hx => ∃ ts : List Thing, Bt K a H Hx [(D9, .lst (ts.map Thing.v)), (l8, .lst (t24.map Thing.v))] [ts, t24] ∧ acc = ts.map Thing.v ∧ ts.length = i, ?_, ?_, ?_⟩
      · exact ⟨[], (k.add things_nil).new hD9, rfl, rfl⟩
      · rintro i acc Hx hi hl hD2 ⟨ts, k, rfl, el⟩
        walk_at "s"
        refine u_row k.st (by decide) (by decide) fun p r H4 f4 S4 hr => ?_
        have k := k.step f4 S4
        have en : ts.map Thing.v ++ [V.ref p] = (ts ++ [Thing.row p r]).map Thing.v := by rw [List.map_append]; rfl
        refine Y.s_lcE (k.get i0) hl (by omega) ⟨ts ++ [Thing.row p r], ?_, en, by rw [List.length_append, el]; rfl⟩
        rw [en]
        exact ((k.add (thing_snoc (k.t ts i0) hr)).setK i0 (ks_cons i1 n9 ks0)).less (sub2 i0 i1) (sub2 i0 i2)
      rintro acc Hx hD2 hl ⟨us, k, rfl, el⟩
      walk_at "s"
      refine Y.s_cat (k.get i1) (k.get i0) (by rw [List.length_map, List.length_map, l24]; exact Nat.le_trans (m := 1000) (by omega) (by decide)) fun l10 hl10 => ?_
      have hap := things_app (k.t t24 i1) (k.t us i0)
      have v40 : t24.map Thing.v ++ us.map Thing.v = (t24 ++ us).map Thing.v := by rw [List.map_append]
      have e40 : (t24 ++ us).length = 24 + us.length := by rw [List.length_append, l24]
      rw [v40]
      have hn := k.none hl10
      have k := (k.add hap).new (o := .lst ((t24 ++ us).map Thing.v)) hl10
      walk_at "s"
      exact q l10 (t24 ++ us) _ hn k.fr k.st ⟨k.get i0, k.t _ i0, by omega, by omega⟩
end
end G
namespace G
open PySem L2 C8
section
variable {P : Program} {w : World} {K : PySem.W.Frag} {mg : Str → Option Value} {base : Heap}
theorem cal_at {k : Nat} {x : Str} {sp : Sp} (c : Cal P w K mg base k x sp []) : ∃ f : Addr, (∃ u, mg x = some u ∧ RelV (.ref f) u) ∧ CalAt P w K mg base k f sp := by
  obtain ⟨f, fd, ps, ds, F, hm, kp, b, d⟩ := c.ex
  cases d
  exact ⟨f, ⟨_, hm, rfl⟩, fd, ps, F, kp, b⟩
abbrev s__law_cells : Stmt := top 31
theorem sc__law_cells : FnScope ["_law_state"] ["_law_state"] (fnScope s__law_cells) := fnScope_by (by decide +kernel)
theorem ok__law_cells {f : Addr} {fd : FuncData} (F : Def K mg "_law_cells" s__law_cells f fd) (b : Binds K fd ["_law_state"] []) (T : Txt K mg)
    (c__law_drawn : Cal P w K mg base 1 "_law_drawn" (spDrawn K) []) (c__law_any : Cal P w K mg base 4 "_law_any" (spCells K) []) (c__law_ruler : Cal P w K mg base 4 "_law_ruler" (spCells K) []) : Cal P w K mg base 5 "_law_cells" (spCells K) [] := by
  obtain ⟨fA, v__law_any, cA⟩ := cal_at c__law_any
  obtain ⟨fR, v__law_ruler, cR⟩ := cal_at c__law_ruler
  refine cal0 F b .nil sc__law_cells (fun vs H Q E h => ?_) (fun cdv A outer s H vs Q E hr h => ?_)
  · obtain ⟨a, rfl, _⟩ := h
    rfl
  · obtain ⟨a, rfl, hS, q⟩ := h
    have nd := sc__law_cells.nd
    have cf_h : ∀ f, (f = fR ∨ f = fA) → CalAt P w K mg base 4 f (spCells K) := fun f hf => by
      rcases hf with rfl | rfl
      · exact cR
      · exact cA
    refine ⟨_, (pss_one (ps_ret (Y.pe_cf cf_h hr (by first | decide | omega) (pe_ix ix_list (pe_lst (pa_cons (pe_gc (by rfl) v__law_ruler) (pa_cons (pe_gc (by rfl) v__law_ruler) (pa_cons (pe_gc (by rfl) v__law_any) pa_nil)))) (pe_c c__law_drawn hr (by first | decide | omega) (by rfl) (pa_cons (pv 0) (pa_cons pe_int pa_nil))) (fun _ _ => rfl)) (pa_cons (pv 0) pa_nil)))), ?_⟩
    walk_at "b"
    have k := Bt.start hS
    refine b_newL k rfl fun l1 hl1 k => ?_
    walk_at "s"
    refine u_drawn k.st (by decide) (by decide) fun x H1 x0 x1 f1 S1 => ?_
    have k := k.step f1 S1
    obtain ⟨v, e, fz, rfl, hz⟩ := Y.at_all (P := fun v => ∃ f, v = V.ref f ∧ (f = fR ∨ f = fA)) (xs := [V.ref fR, V.ref fR, V.ref fA]) (i := x) (by
      intro v hv
      simp only [List.mem_cons, List.not_mem_nil, or_false] at hv
      rcases hv with rfl | rfl | rfl
      · exact ⟨_, rfl, .inl rfl⟩
      · exact ⟨_, rfl, .inl rfl⟩
      · exact ⟨_, rfl, .inr rfl⟩) x0 x1
    refine Y.s_ixL' (SqL.of (k.get i0)) e ?_
    refine ⟨fz, rfl, hz, ?_⟩
    walk_at "s"
    exact ⟨a, rfl, k.st, fun p ts H' hn f2 S2 hc => q p ts H' (k.none hn) (k.fr.trans f2) S2 hc⟩
end
end G
/-! ### more readings: enumerate, texts, chains -/
namespace Y
open PySem L2 C8
section
variable {σ : L2.St} {H : Hp} {Q : VK} {v x y z : V} {n k : Nat} {i j l : Int} {ta tb tc te : TE} {tt : TT} {A : TA} {K : PySem.W.Frag} {p p1 p2 : Addr} {xs ys : List V} {X : Cx}
def rAllN (K : PySem.W.Frag) : List V → Hp → VK → Prop := fun vs H Q => ∃ (a : Addr) (bs : List Bool), vs = [V.ref a] ∧ SqL K H a (bs.map V.bl) ∧ Q (.bl (bs.all id)) H
theorem cl_all (hc : X.calm = true) : CallR X (.builtin "all") (rAll X.K) := cr_all hc
theorem cl_any (hc : X.calm = true) : CallR X (.builtin "any") (rAny X.K) := cr_any hc
def rStrOf : List V → Hp → VK → Prop := fun xs H Q => (∃ i : Int, xs = [V.int i] ∧ i.natAbs.log2 < 1920 ∧ Q (.str (toString i)) H) ∨ ∃ a, xs = [V.str a] ∧ Q (.str a) H
theorem cl_str : CallR X (.type "str") rStrOf := by
  intro pins s σ H xs us Q I r h
  rcases h with h | h
  · exact call_str_int pins s σ H xs us Q I r h
  · exact SkE.call_str_str pins s σ H xs us Q I r h
theorem s_strI (h : i.natAbs.log2 < 1920) (q : Q (.str (toString i)) H) : rStrOf [.int i] H Q := .inl ⟨i, rfl, h, q⟩
theorem s_strS {a : Str} (q : Q (.str a) H) : rStrOf [.str a] H Q := .inr ⟨a, rfl, q⟩
def rLenS : List V → Hp → VK → Prop := fun xs H Q => ∃ z : Str, xs = [V.str z] ∧ z.length ≤ sizeLine ∧ Q (.int z.length) H
theorem cl_lenS : CallR X (.builtin "len") rLenS := call_len_str
theorem s_lenS {a : Str} (h : a.length ≤ sizeLine) (q : Q (.int a.length) H) : rLenS [.str a] H Q := ⟨a, rfl, h, q⟩
def rIntS : List V → Hp → VK → Prop := fun xs H Q => ∃ a n, xs = [V.str a] ∧ PySem.intText? a = some n ∧ a.length ≤ 640 ∧ Q (.int n) H
theorem cl_intS : CallR X (.type "int") rIntS := call_int_str
theorem s_intS {a : Str} {n : Int} (h : PySem.intText? a = some n) (hl : a.length ≤ 640) (q : Q (.int n) H) : rIntS [.str a] H Q := ⟨a, n, rfl, h, hl, q⟩
def rInSign (neg : Bool) : R2 := fun x y H Q => ∃ (c : Nat) (z : Str), x = .str ⟨#[c]⟩ ∧ y = .str z ∧ Q (.bl (if neg then !decide (c ∈ z.cps.toList) else decide (c ∈ z.cps.toList))) H
theorem op_inSign : OpR X (compareOp .In) (rInSign false) := op_in_sign
theorem op_ninSign : OpR X (compareOp .NotIn) (rInSign true) := op_notIn_sign
theorem s_ninSign {c : Nat} {z : Str} (q : Q (.bl (!decide (c ∈ z.cps.toList))) H) : rInSign true (.str ⟨#[c]⟩) (.str z) H Q := ⟨c, z, rfl, rfl, q⟩
def rJoin (K : PySem.W.Frag) : V → List V → Hp → VK → Prop := fun x xs H Q => ∃ a p, ∃ ys : List Str, x = V.str a ∧ xs = [.ref p] ∧ (SqL K H p (ys.map V.str) ∨ SqT K H p (ys.map V.str)) ∧ (ys.map (·.length)).sum + ys.length * a.length ≤ 16777216 ∧ Q (.str (Txt.join a ys)) H
def rSplit : V → List V → Hp → VK → Prop := fun x xs H Q => ∃ a b, x = V.str a ∧ xs = [.str b] ∧ (b.length == 0) = false ∧ a.length + 2 ≤ sizeLine ∧ rNewStrs (Txt.split a b) H Q
variable {o e : Expr} {to : TE}
theorem pe_join {apos pos : Pos} (ho : PE X o to) (he : PE X e te) (hs : starEach [e] X.env = [(false, eval e X.env)] := by rfl) (hbase : attributeBase o "join" X.env (eval o X.env) = eval o X.env := by rfl) (hline : (apos.endLine == pos.line) = true := by rfl) :
    PE X (.Call (.Attribute o "join" apos) [e] [] pos) (tM1 (rJoin X.K) to te) := L2.pe_join ho he hs hbase hline
theorem pe_split {apos pos : Pos} (ho : PE X o to) (he : PE X e te) (hs : starEach [e] X.env = [(false, eval e X.env)] := by rfl) (hbase : attributeBase o "split" X.env (eval o X.env) = eval o X.env := by rfl) (hline : (apos.endLine == pos.line) = true := by rfl) :
    PE X (.Call (.Attribute o "split" apos) [e] [] pos) (tM1 rSplit to te) := L2.pe_split ho he hs hbase hline
def M1R (te : TE) (σ : L2.St) (r : V → List V → Hp → VK → Prop) (Q : VK) : V → Hp → Prop := fun x H1 => (∃ a, x = V.str a) ∧ te σ H1 fun y H2 => r x [y] H2 Q
theorem s_m1 {r : V → List V → Hp → VK → Prop} (q : to σ H (M1R te σ r Q)) : tM1 r to te σ H Q := q
theorem s_m1s {r : V → List V → Hp → VK → Prop} {a : Str} (q : te σ H fun y H2 => r (.str a) [y] H2 Q) : M1R te σ r Q (.str a) H := ⟨⟨a, rfl⟩, q⟩
theorem s_joinL {a : Str} {ys : List Str} (h : SqL K H p (ys.map V.str)) (hl : (ys.map (·.length)).sum + ys.length * a.length ≤ 16777216) (q : Q (.str (Txt.join a ys)) H) : rJoin K (.str a) [.ref p] H Q := ⟨a, p, ys, rfl, rfl, .inl h, hl, q⟩
theorem s_split {a b : Str} (hb : (b.length == 0) = false) (ha : a.length + 2 ≤ sizeLine) (q : ∀ p, H p = none → Q (.ref p) (upd H p (.lst ((Txt.split a b).map V.str)))) : rSplit (.str a) [.str b] H Q := ⟨a, b, rfl, rfl, hb, ha, q⟩
/-- a chained comparison -/
theorem s_chain {r r' : R2} (q : ta σ H fun x H1 => tb σ H1 fun y H2 => r x y H2 fun z H3 => ∃ k, z = .bl k ∧ if k = true then tc σ H3 fun w H4 => r' y w H4 Q else Q (.bl false) H3) : tChain r r' ta tb tc σ H Q := q
/-- enumerate, behind its argument -/
def EnumRest (K : PySem.W.Frag) (R : It → Hp → Prop) : List V → Hp → Prop := fun vs H1 => ∃ a xs, vs = [.ref a] ∧ SqL K H1 a xs ∧ R (Ite K a) H1
theorem s_enum {R : It → Hp → Prop} (q : A σ H (EnumRest K R)) : iEnum K A σ H R := q
theorem s_forE {a : Addr} {g : TG} {tb : TS} {D : Ends} (ha : SqL K H a xs) (Pv : Nat → L2.St → Hp → Prop) (p0 : Pv 0 σ H) (hl : ∀ i σ H, Pv i σ H → SqL K H a xs)
    (hs : ∀ i x T σ H, xs[i]? = some x → Pv i σ H → H T = none → g (.ref T) σ (upd H T (.tup [.int (i : Nat), x])) fun σ2 H2 => tb { D with nx := Pv (i + 1), ct := Pv (i + 1), bk := D.nx } σ2 H2) (hd : ∀ σ H, Pv xs.length σ H → D.nx σ H) :
    EnumRest K (ForRest g tb D σ) [V.ref a] H := by
  refine ⟨a, xs, rfl, ha, for_it walk_enum Pv p0 (fun i σ H _ p => hl i σ H p) (fun i x σ H H' hi p yy => ?_) hd⟩
  obtain ⟨T, u, w, rfl, hT, rfl, f1, f2⟩ := yy
  cases f1
  exact hs i w T σ H f2 p hT
/-- a text, sign by sign -/
def StrRest (R : It → Hp → Prop) : V → Hp → Prop := fun x H1 => ∃ z, x = V.str z ∧ R (Its z) H1
theorem s_its {R : It → Hp → Prop} (q : te σ H (StrRest R)) : iStr te σ H R := q
theorem s_lcS {z : Str} (h : ∀ D, H D = none → ∃ Inv : Nat → List V → Hp → Prop, Inv 0 [] (upd H D (.lst [])) ∧
      (∀ (i : Nat) c acc H, z.cps[i]? = some c → acc.length ≤ i → H D = some (.lst acc) → Inv i acc H → tt ((σ.set k none).set k (some (.str ⟨#[c]⟩))) H fun b H3 =>
        if b = true then te ((σ.set k none).set k (some (.str ⟨#[c]⟩))) H3 fun y H4 => ∃ acc, H4 D = some (.lst acc) ∧ acc.length < sizeLine ∧ LcP D Inv (i + 1) (upd H4 D (.lst (acc ++ [y]))) else LcP D Inv (i + 1) H3) ∧
      ∀ acc H, H D = some (.lst acc) → acc.length ≤ z.cps.size → Inv z.cps.size acc H → Q (.ref D) H) :
    StrRest (LcRest (gName k) tt te [k] σ Q) (V.str z) H := by
  refine ⟨z, rfl, fun D hD => ?_⟩
  obtain ⟨Inv, i0, ht, hd⟩ := h D hD
  refine lc_it walk_str (LcP D Inv) ⟨[], upd_same, Nat.zero_le _, i0⟩ (fun _ _ _ _ => True.intro) (fun i x H H' hi pp yy => ?_) (fun H ⟨acc, ha, hl, hv⟩ => hd acc H ha hl hv)
  obtain ⟨acc, ha, hl, hv⟩ := pp
  obtain ⟨rfl, c, hc, rfl⟩ := yy
  show (((σ.set k none).set k _).set k none) = σ.set k none ∧ _
  refine ⟨by rw [List.set_set, List.set_set], ht i c acc _ hc hl ha hv⟩
theorem s_ixS {z : Str} {c : Nat} (h : z.length ≤ sizeLine) (e : atI z.cps.toList i = some c) (q : Q (.str ⟨#[c]⟩) H) : rIxS (.str z) (.int i) H Q := ⟨z, i, c, rfl, rfl, h, e, q⟩
theorem s_sl {r : V → Option Int → Option Int → Hp → VK → Prop} {tl th : TO} (q : te σ H fun x H1 => tl σ H1 fun l H2 => th σ H2 fun u H3 => r x l u H3 Q) : tSl r te tl th σ H Q := q
def PartR (Q : Option Int → Hp → Prop) : V → Hp → Prop := fun x H1 => ∃ i, x = V.int i ∧ Q (some i) H1
theorem s_part {Q : Option Int → Hp → Prop} (q : te σ H (PartR Q)) : tPart te σ H Q := q
theorem s_partI {Q : Option Int → Hp → Prop} (q : Q (some i) H) : PartR Q (.int i) H := ⟨i, rfl, q⟩
theorem s_noPart {Q : Option Int → Hp → Prop} (q : Q none H) : tNoPart σ H Q := q
theorem cut1 (x : V) (xs : List V) : cutV (x :: xs) (some 1) none = xs ∧ ¬ (HT.sIx (x :: xs).length 0 (some 1) = 0 ∧ HT.sIx (x :: xs).length (x :: xs).length none = (x :: xs).length) := by
  have e1 : HT.sIx (x :: xs).length 0 (some 1) = 1 := by
    simp [HT.sIx]
  have e2 : HT.sIx (x :: xs).length (x :: xs).length none = (x :: xs).length := rfl
  constructor
  · unfold cutV
    rw [e1, e2]
    simp
  · rw [e1]
    intro z
    exact absurd z.1 (by decide)
theorem s_slT1 (h : SqT K H p (x :: xs)) (q : ∀ p', H p' = none → Q (.ref p') (upd H p' (.tup xs))) : rSlT K (.ref p) (some 1) none H Q :=
  ⟨p, x :: xs, rfl, h, (cut1 x xs).2, by rw [(cut1 x xs).1]; exact q⟩
theorem s_slL1 (h : SqL K H p (x :: xs)) (q : ∀ p', H p' = none → Q (.ref p') (upd H p' (.lst xs))) : rSlL K (.ref p) (some 1) none H Q :=
  ⟨p, x :: xs, rfl, h, by rw [(cut1 x xs).1]; exact q⟩
end
end Y
namespace G
open PySem L2
theorem StAt.same {K : PySem.W.Frag} {H H' : Hp} {a : Addr} (h : StAt K H a) (s : Same H H') : StAt K H' a := by
  obtain ⟨p, ns, i, m, r, e, q, z⟩ := h
  refine ⟨p, ns, i, m, r, s _ _ e, ?_, z⟩
  rcases q with ⟨o, q⟩ | q
  · exact .inl ⟨o, s _ _ q⟩
  · exact .inr q
theorem Bt.same {K : PySem.W.Frag} {a : Addr} {H0 H H' : Hp} {L : List (Addr × HO)} {T : List (List Thing)} (k : Bt K a H0 H L T) (s : Same H H') : Bt K a H0 H' L T :=
  k.step (fun b u _ e => s b u e) (k.st.same s)
theorem Things.same {H H' : Hp} {ts : List Thing} (h : Things H ts) (s : Same H H') : Things H' ts := h.tu fun p xs e => s p _ e
end G
namespace G
open PySem L2 C8
/-! ### the checks of things and cells -/
theorem CellsAt.same {H H' : Hp} {p : Addr} {ts : List Thing} (h : CellsAt H p ts) (s : Same H H') : CellsAt H' p ts := ⟨s _ _ h.1, h.2.1.same s, h.2.2⟩
def limT : List (Str × List Int) := [("put", [3, 999]), ("add", [3, 3, 3]), ("less", [3, 3, 3]), ("load", [3, 3]), ("store", [3, 3]), ("zero", [3, 999]), ("go", [999]), ("call", [999]), ("say", [3]), ("hear", [3]), ("which", [3]), ("room", [3]), ("enter", [1]), ("alarm", [3]), ("stop", [])]
def limOf (z : Str) : Option (List Int) := (limT.find? fun q => decide (q.1 = z)).map (·.2)
def Row.word : Row → Str
  | .put _ _ => "put" | .add _ _ _ => "add" | .less _ _ _ => "less" | .load _ _ => "load" | .store _ _ => "store" | .zero _ _ => "zero" | .go _ => "go" | .call _ => "call"
  | .say _ => "say" | .hear _ => "hear" | .which _ => "which" | .room _ => "room" | .enter _ => "enter" | .alarm _ => "alarm" | .stop => "stop"
def Row.nums : Row → List Int
  | .put b n => [b, n] | .add b c d => [b, c, d] | .less b c d => [b, c, d] | .load b c => [b, c] | .store c b => [c, b] | .zero b n => [b, n] | .go n => [n] | .call n => [n]
  | .say b => [b] | .hear b => [b] | .which b => [b] | .room b => [b] | .enter b => [b] | .alarm b => [b] | .stop => []
theorem Row.vs_eq (r : Row) : r.vs = .str r.word :: r.nums.map V.int := by cases r <;> rfl
def Row.lims : Row → List Int
  | .put _ _ => [3, 999] | .add _ _ _ => [3, 3, 3] | .less _ _ _ => [3, 3, 3] | .load _ _ => [3, 3] | .store _ _ => [3, 3] | .zero _ _ => [3, 999] | .go _ => [999] | .call _ => [999]
  | .say _ => [3] | .hear _ => [3] | .which _ => [3] | .room _ => [3] | .enter _ => [1] | .alarm _ => [3] | .stop => []
theorem limOf_word (r : Row) : limOf r.word = some r.lims := by cases r <;> (dsimp only [Row.word, Row.lims]; decide +kernel)
/-- each number within its limit -/
def Within : List Int → List Int → Prop
  | [], [] => True
  | n :: ns, m :: ms => (0 ≤ n ∧ n ≤ m) ∧ Within ns ms
  | _, _ => False
theorem Row.within (r : Row) (h : r.ok) : Within r.nums r.lims := by
  cases r <;> simp only [Row.ok, Bx, Nm] at h <;> simp only [Row.nums, Row.lims, Within, and_true] <;> omega
theorem Within.len : ∀ {ns ms : List Int}, Within ns ms → ns.length = ms.length
  | [], [], _ => rfl
  | _ :: _, _ :: _, h => congrArg (· + 1) (Within.len h.2)
theorem Within.at_ : ∀ {ns ms : List Int}, Within ns ms → ∀ {i : Nat} {n m : Int}, ns[i]? = some n → ms[i]? = some m → 0 ≤ n ∧ n ≤ m
  | _ :: _, _ :: _, h, 0, _, _, e1, e2 => by cases e1; cases e2; exact h.1
  | _ :: _, _ :: _, h, _ + 1, _, _, e1, e2 => Within.at_ h.2 e1 e2
/-- the table of limits -/
structure LimAt (K : PySem.W.Frag) (w : World) (d : Addr) (kvs : List (Str × V)) : Prop where
  dct : Y.DictAt K w d kvs
  yes : ∀ z ls, limOf z = some ls → ∃ a, Y.valZ kvs z = some (.ref a) ∧ ∀ H : Hp, SqT K H a (ls.map V.int)
  no : ∀ z, limOf z = none → Y.valZ kvs z = none
def LimG (K : PySem.W.Frag) (w : World) (mg : Str → Option Value) : Prop := ∃ d kvs, (∃ u, mg "LIMITS" = some u ∧ RelV (.ref d) u) ∧ LimAt K w d kvs
def NumIs (H : Hp) (v : V) (lo hi : Int) (b : Bool) : Prop := (∃ i, v = .int i ∧ b = decide (lo ≤ i ∧ i ≤ hi)) ∨ (b = false ∧ ((∃ c, v = .bl c) ∨ (∃ z, v = .str z) ∨ (∃ p xs, v = .ref p ∧ (H p = some (.tup xs) ∨ H p = some (.lst xs)))))
def spIsNumber : Sp := fun vs H Q _ => ∃ v lo hi b, vs = [v, .int lo, .int hi] ∧ NumIs H v lo hi b ∧ Q (.bl b) H
def spIsRow : Sp := fun vs H Q _ => ∃ p r, vs = [.ref p] ∧ (Thing.row p r).At H ∧ ∀ H', Same H H' → Q (.bl true) H'
def spIsThing : Sp := fun vs H Q _ => ∃ t : Thing, vs = [t.v] ∧ t.At H ∧ ∀ H', Same H H' → Q (.bl true) H'
def spCheckCells : Sp := fun vs H Q _ => ∃ p ts, vs = [.ref p] ∧ CellsAt H p ts ∧ ∀ H', Same H H' → Q .non H'
section
variable {P : Program} {w : World} {K : PySem.W.Frag} {mg : Str → Option Value} {base : Heap}
abbrev s_is_number : Stmt := top 7
theorem sc_is_number : FnScope ["value", "least", "most"] ["value", "least", "most"] (fnScope s_is_number) := fnScope_by (by decide +kernel)
theorem ok_is_number {f : Addr} {fd : FuncData} (F : Def K mg "is_number" s_is_number f fd) (b : Binds K fd ["value", "least", "most"] []) (T : Txt K mg) : Cal P w K mg base 1 "is_number" spIsNumber [] := by
  refine cal0 F b .nil sc_is_number (fun vs H Q E h => ?_) (fun cdv A outer s H vs Q E hr h => ?_)
  · obtain ⟨v, lo, hi, b, rfl, _⟩ := h
    rfl
  · obtain ⟨v, lo, hi, b, rfl, h, q⟩ := h
    have nd := sc_is_number.nd
    refine ⟨_, (pss_one (ps_ret (pe_and (pe_callB call_isi (by rfl) T.n_isinstance (by decide +kernel) (pa_cons (pv 0) (pa_cons (Y.pe_bty (T := "int") (by rfl) T.n_int (by decide +kernel)) pa_nil))) (pe_and (pe_not (pe_callB call_isi (by rfl) T.n_isinstance (by decide +kernel) (pa_cons (pv 0) (pa_cons (Y.pe_bty (T := "bool") (by rfl) T.n_bool (by decide +kernel)) pa_nil)))) (pe_one (pe_chain op_le op_le (pv 1) (pv 0) (pv 2))))))), ?_⟩
    rcases h with ⟨i, rfl, rfl⟩ | ⟨rfl, ⟨c, rfl⟩ | ⟨z, rfl⟩ | ⟨p, xs, rfl, hp | hp⟩⟩
    · walk_at "b"
      refine Y.s_chain ?_
      walk_at "s"
      refine Y.s_d2 (fun h1 => ?_) (fun h1 => ?_)
      · walk_at "s"
        rw [show decide (lo ≤ i ∧ i ≤ hi) = decide (i ≤ hi) from by rw [decide_eq_decide]; exact ⟨And.right, And.intro h1⟩] at q
        exact q
      · rw [decide_eq_false (p := lo ≤ i ∧ i ≤ hi) (fun z => h1 z.1)] at q
        exact q
    · walk_at "b"
      exact q
    · walk_at "b"
      exact q
    · walk_at "b"
      exact q
    · walk_at "b"
      exact q
theorem u_isnum {H : Hp} {Q : VK} {E : XK} {v : V} {lo hi : Int} {b : Bool} (h : NumIs H v lo hi b) (q : Q (.bl b) H) : spIsNumber ([v, .int lo, .int hi] ++ []) H Q E := ⟨v, lo, hi, b, rfl, h, q⟩
abbrev s_is_row : Stmt := top 8
theorem sc_is_row : FnScope ["value", "word", "numbers", "number", "most"] ["value"] (fnScope s_is_row) := fnScope_by (by decide +kernel)
theorem ok_is_row {f : Addr} {fd : FuncData} (F : Def K mg "is_row" s_is_row f fd) (b : Binds K fd ["value"] []) (T : Txt K mg) (L : LimG K w mg) (c_is_number : Cal P w K mg base 1 "is_number" spIsNumber []) : Cal P w K mg base 2 "is_row" spIsRow [] := by
  obtain ⟨d, kvs, v_LIMITS, L⟩ := L
  have q_LIMITS := L.dct
  refine cal0 F b .nil sc_is_row (fun vs H Q E h => ?_) (fun cdv A outer s H vs Q E hr h => ?_)
  · obtain ⟨p, r, rfl, _⟩ := h
    rfl
  · obtain ⟨p, r, rfl, ⟨hp, hok⟩, q⟩ := h
    have nd := sc_is_row.nd
    refine ⟨_, (pss_cons (ps_if (PW.pt (pw_or (pt_not (pt_val (pe_callB call_isi (by rfl) T.n_isinstance (by decide +kernel) (pa_cons (pv 0) (pa_cons (Y.pe_bty (T := "tuple") (by rfl) T.n_tuple (by decide +kernel)) pa_nil))))) (pw_or1 (pt_cmpR op_eq (pe_callB Y.cl_len (by rfl) T.n_len PySem.boot_len (pa_cons (pv 0) pa_nil)) pe_int (nomark _)))))
      (pss_one (ps_ret pe_bl))
      pss_nil)
      (pss_cons (ps_set (i := 1) nd rfl (by first | exact Or.inl rfl | exact Or.inr rfl) (pe_ix ix_tup (pv 0) pe_int (fun _ _ => rfl)))
      (pss_cons (ps_set (i := 2) nd rfl (by first | exact Or.inl rfl | exact Or.inr rfl) (pe_slice sl_tup (pv 0) (po_some pe_int) po_none))
      (pss_cons (ps_if (PW.pt (pw_or (pt_cmpR (Y.op_notIn_dict q_LIMITS) (pv 1) (pe_gc (by rfl) v_LIMITS) (by rfl)) (pw_or1 (pt_cmpR op_ne (pe_callB Y.cl_len (by rfl) T.n_len PySem.boot_len (pa_cons (pv 2) pa_nil)) (pe_callB Y.cl_len (by rfl) T.n_len PySem.boot_len (pa_cons (pe_ix (Y.ix_dict q_LIMITS) (pe_gc (by rfl) v_LIMITS) (pv 1) (fun _ _ => rfl)) pa_nil)) (nomark _)))))
      (pss_one (ps_ret pe_bl))
      pss_nil)
      (pss_one (ps_ret (pe_callB (Y.cl_all rfl) (by rfl) T.n_all (by decide +kernel) (pa_cons (pe_lc (own := [("number", 3), ("most", 4)]) (g := gTup K 2 (gCons (gName 3) (gCons (gName 4) gNil))) (by rfl) nd (RZ.pi_zipA (by rfl) T.n_zip (pa_cons (pv 2) (pa_cons (pe_ix (Y.ix_dict q_LIMITS) (pe_gc (by rfl) v_LIMITS) (pv 1) (fun _ _ => rfl)) pa_nil))) (blkOk_by (N := ["value", "word", "numbers", "number", "most"]) (sc := fnScope s_is_row) (by decide +kernel)) (fun _ _ _ _ _ => (pg_tup (by rfl) (pgs_cons (pg_name (i := 3) nd rfl (by first | exact Or.inl rfl | exact Or.inr rfl)) (pgs_cons (pg_name (i := 4) nd rfl (by first | exact Or.inl rfl | exact Or.inr rfl)) pgs_nil)))) (fun _ _ _ _ _ => pts_nil) (fun _ _ _ _ _ => (pe_c c_is_number hr (by first | decide | omega) (by rfl) (pa_cons (pv 3) (pa_cons pe_int (pa_cons (pv 4) pa_nil)))))) pa_nil)))))))), ?_⟩
    rw [r.vs_eq] at hp
    obtain ⟨aL, eL, qL⟩ := L.yes _ _ (limOf_word r)
    have hw := r.within hok
    walk_at "b"
    refine Y.s_dF (by rw [List.length_cons]; omega) ?_
    walk_at "s"
    refine Y.s_ixT' (w := .str r.word) (SqT.of hp) (at_of (j := 0) rfl rfl) ?_
    walk_at "s"
    refine Y.s_sl ?_
    walk_at "s"
    refine Y.s_part ?_
    walk_at "s"
    refine Y.s_partI ?_
    refine Y.s_noPart ?_
    refine Y.s_slT1 (SqT.of hp) fun p2 hp2 => ?_
    walk_at "s"
    refine Y.s_ninDict (b := true) (by rw [eL]; rfl) ?_
    walk_at "s"
    refine Y.s_ixDict eL ?_
    walk_at "s"
    refine Y.s_lenT (qL _) ?_
    walk_at "s"
    refine Y.s_dNT (by rw [List.length_map, List.length_map, hw.len]) ?_
    walk_at "s"
    refine Y.s_zip ?_
    walk_at "s"
    refine Y.s_ixDict eL ?_
    walk_at "s"
    refine Y.s_lcZT (SqT.of upd_same) (qL _) (by rw [List.length_map, List.length_map, hw.len]) fun D hD => ⟨fun i acc Hx => Same (upd H p2 (.tup (r.nums.map V.int))) Hx ∧ acc = (List.replicate i true).map V.bl, ?_, ?_, ?_, ?_⟩
    · exact ⟨Y.same_new hD (Same.refl _), rfl⟩
    · rintro i acc Hx _ ⟨sx, _⟩
      exact ⟨SqT.of (sx _ _ upd_same), qL _⟩
    · rintro i x y t acc Hx hx hy hl2 hD2 ⟨sx, rfl⟩ ht
      obtain ⟨n, hn, rfl⟩ : ∃ n, r.nums[i]? = some n ∧ x = V.int n := by
        rw [List.getElem?_map] at hx
        cases e : r.nums[i]? with
        | none => rw [e] at hx; cases hx
        | some u => rw [e] at hx; exact ⟨u, rfl, (Option.some.inj hx).symm⟩
      obtain ⟨m, hm, rfl⟩ : ∃ m, r.lims[i]? = some m ∧ y = V.int m := by
        rw [List.getElem?_map] at hy
        cases e : r.lims[i]? with
        | none => rw [e] at hy; cases hy
        | some u => rw [e] at hy; exact ⟨u, rfl, (Option.some.inj hy).symm⟩
      obtain ⟨h0, h1⟩ := hw.at_ hn hm
      have hi : i < 1000 := by
        have := (List.getElem?_eq_some_iff.mp hn).1
        have : r.nums.length ≤ 3 := by cases r <;> exact Nat.le_of_ble_eq_true rfl
        omega
      refine Y.s_gTup (SqT.of upd_same) rfl ?_
      refine Y.s_gCons ?_
      walk_at "s"
      refine Y.s_gCons ?_
      walk_at "s"
      refine Y.s_gNil ⟨rfl, ?_⟩
      refine Y.s_yes ?_
      walk_at "s"
      refine u_isnum (b := true) (.inl ⟨n, rfl, (decide_eq_true ⟨h0, h1⟩).symm⟩) ?_
      have e6 : upd Hx t (.tup [.int n, .int m]) D = some (.lst ((List.replicate i true).map V.bl)) := by walk_at "hp"
      exact Y.s_lcE e6 hl2 (by omega) ⟨Y.same_own hD (Y.same_new ht sx), by rw [List.replicate_succ', List.map_append]; rfl⟩
    · rintro acc Hx hD2 hl2 ⟨sx, rfl⟩
      walk_at "s"
      refine Y.s_all (SqL.of hD2) ?_
      rw [Y.all_true]
      exact q _ (Y.same_tr sx (Y.same_new hp2 (Same.refl _)))
theorem u_isrow {H : Hp} {Q : VK} {E : XK} {p : Addr} {r : Row} (h : (Thing.row p r).At H) (q : ∀ H', Same H H' → Q (.bl true) H') : spIsRow ([.ref p] ++ []) H Q E := ⟨p, r, rfl, h, q⟩
abbrev s_is_thing : Stmt := top 9
theorem sc_is_thing : FnScope ["value"] ["value"] (fnScope s_is_thing) := fnScope_by (by decide +kernel)
theorem ok_is_thing {f : Addr} {fd : FuncData} (F : Def K mg "is_thing" s_is_thing f fd) (b : Binds K fd ["value"] []) (T : Txt K mg) (v_LAST_NUMBER : IntG mg "LAST_NUMBER" 999) (c_is_number : Cal P w K mg base 1 "is_number" spIsNumber []) (c_is_row : Cal P w K mg base 2 "is_row" spIsRow []) : Cal P w K mg base 3 "is_thing" spIsThing [] := by
  refine cal0 F b .nil sc_is_thing (fun vs H Q E h => ?_) (fun cdv A outer s H vs Q E hr h => ?_)
  · obtain ⟨t, rfl, _⟩ := h
    rfl
  · obtain ⟨t, rfl, ht, q⟩ := h
    have nd := sc_is_thing.nd
    refine ⟨_, (pss_one (ps_ret (pe_or (pe_c c_is_number hr (by first | decide | omega) (by rfl) (pa_cons (pv 0) (pa_cons pe_int (pa_cons (pe_gc (by rfl) v_LAST_NUMBER) pa_nil)))) (pe_one (pe_c c_is_row hr (by first | decide | omega) (by rfl) (pa_cons (pv 0) pa_nil)))))), ?_⟩
    walk_at "b"
    cases t with
    | num n =>
      refine u_isnum (b := true) (.inl ⟨n, rfl, (decide_eq_true ⟨ht.1, by have := ht.2; omega⟩).symm⟩) ?_
      walk_at "s"
      exact q _ (Same.refl _)
    | row p r =>
      refine u_isnum (b := false) (.inr ⟨rfl, .inr (.inr ⟨p, _, rfl, .inl ht.1⟩)⟩) ?_
      walk_at "s"
      exact u_isrow ht q
theorem u_isthing {H : Hp} {Q : VK} {E : XK} {t : Thing} {v : V} (e : v = t.v) (h : t.At H) (q : ∀ H', Same H H' → Q (.bl true) H') : spIsThing ([v] ++ []) H Q E := ⟨t, by rw [e]; rfl, h, q⟩
abbrev s_check_cells : Stmt := top 13
theorem sc_check_cells : FnScope ["cells", "at", "thing"] ["cells"] (fnScope s_check_cells) := fnScope_by (by decide +kernel)
theorem ok_check_cells {f : Addr} {fd : FuncData} (F : Def K mg "check_cells" s_check_cells f fd) (b : Binds K fd ["cells"] []) (T : Txt K mg) (v_MOST_CELLS : IntG mg "MOST_CELLS" 40) (v_FEWEST_CELLS : IntG mg "FEWEST_CELLS" 16) (c_is_thing : Cal P w K mg base 3 "is_thing" spIsThing []) : Cal P w K mg base 4 "check_cells" spCheckCells [] := by
  refine cal0 F b .nil sc_check_cells (fun vs H Q E h => ?_) (fun cdv A outer s H vs Q E hr h => ?_)
  · obtain ⟨p, ts, rfl, _⟩ := h
    rfl
  · obtain ⟨p, ts, rfl, ⟨hp, ht, l1, l2⟩, q⟩ := h
    have nd := sc_check_cells.nd
    refine ⟨_, (pss_cons (ps_for PassesOwn.never rfl (pi_enum (by rfl) T.n_enumerate (pa_cons (pv 0) pa_nil)) (pg_tup (by rfl) (pgs_cons (pg_name (i := 1) nd rfl (by first | exact Or.inl rfl | exact Or.inr rfl)) (pgs_cons (pg_name (i := 2) nd rfl (by first | exact Or.inl rfl | exact Or.inr rfl)) pgs_nil)))
      (pss_one (ps_if (PW.pt (pw_or (pt_cmpR op_eq (pv 1) (pe_gc (by rfl) v_MOST_CELLS) (nomark _)) (pw_or1 (pt_not (pt_val (pe_c c_is_thing hr (by first | decide | omega) (by rfl) (pa_cons (pv 2) pa_nil)))))))
      (pss_one ps_never)
      pss_nil)))
      (pss_one (ps_if (pt_cmpR op_lt (pe_callB Y.cl_len (by rfl) T.n_len PySem.boot_len (pa_cons (pv 0) pa_nil)) (pe_gc (by rfl) v_FEWEST_CELLS) (nomark _))
      (pss_one ps_never)
      pss_nil))), ?_⟩
    walk_at "b"
    refine Y.s_enum ?_
    walk_at "s"
    refine Y.s_forE (SqL.of hp) (fun i σ H' => Same H H' ∧ ∃ v1 v2, σ = [some (.ref p), v1, v2]) ⟨Same.refl _, _, _, rfl⟩ (fun i σ H' ⟨s1, _⟩ => SqL.of (s1 _ _ hp)) ?_ ?_
    · rintro i x t σ H1 hx ⟨s1, v1, v2, rfl⟩ hT
      obtain ⟨u, hu, rfl⟩ : ∃ u, ts[i]? = some u ∧ x = Thing.v u := by
        rw [List.getElem?_map] at hx
        cases e : ts[i]? with
        | none => rw [e] at hx; cases hx
        | some u => rw [e] at hx; exact ⟨u, rfl, (Option.some.inj hx).symm⟩
      have hi := (List.getElem?_eq_some_iff.mp hu).1
      refine Y.s_gTup (SqT.of upd_same) rfl ?_
      refine Y.s_gCons ?_
      walk_at "s"
      refine Y.s_gCons ?_
      walk_at "s"
      refine Y.s_gNil ?_
      walk_at "s"
      refine Y.s_dF (by omega) ?_
      walk_at "s"
      have s2 : Same H (upd H1 t (.tup [.int (i : Nat), u.v])) := Y.same_new hT s1
      refine u_isthing rfl ((ht u (List.mem_of_getElem? hu)).tu fun p xs h => s2 p _ h) fun H3 s3 => ?_
      walk_at "s"
      exact ⟨s2.trans s3, _, _, rfl⟩
    · rintro σ H1 ⟨s1, v1, v2, rfl⟩
      have hp1 := s1 _ _ hp
      walk_at "s"
      refine Y.s_dF (by rw [List.length_map]; omega) ?_
      walk_at "s"
      exact q _ s1
theorem u_ccells {H : Hp} {Q : VK} {E : XK} {p : Addr} {ts : List Thing} (h : CellsAt H p ts) (q : ∀ H', Same H H' → Q .non H') : spCheckCells ([.ref p] ++ []) H Q E := ⟨p, ts, rfl, h, q⟩
end
end G
namespace G
open PySem L2 C8
open SX (S S_len num_S)
/-! ### texts of numbers, rows, cells -/
def nS (i : Int) : Str := Str.ofString (toString i)
theorem nS_eq {i : Int} (h : 0 ≤ i) : nS i = S (TL.numL i.toNat) := by
  have e := num_S i.toNat
  rw [Int.toNat_of_nonneg h] at e
  exact e
theorem num_facts : ∀ n, n < 1000 → (TL.numL n).length ≤ 3 ∧ 1 ≤ (TL.numL n).length ∧ (TL.numL n).all (fun c => decide (48 ≤ c) && decide (c ≤ 57)) = true ∧ (TL.numL n = [48] ∨ (TL.numL n).head? ≠ some 48) := by decide +kernel
theorem nS_facts {i : Int} (h : Nm i) : ∃ l : List Nat, nS i = S l ∧ l.length ≤ 3 ∧ 1 ≤ l.length ∧ (∀ c ∈ l, 48 ≤ c ∧ c ≤ 57) ∧ (l = [48] ∨ l.head? ≠ some 48) := by
  obtain ⟨h1, h2, h3, h4⟩ := num_facts i.toNat (by have := h.1; have := h.2; omega)
  refine ⟨_, nS_eq h.1, h1, h2, fun c hc => ?_, h4⟩
  have := List.all_eq_true.mp h3 c hc
  rw [Bool.and_eq_true, decide_eq_true_eq, decide_eq_true_eq] at this
  exact this
theorem nS_int {i : Int} (h : Nm i) : intText? (nS i) = some i := by
  have h1 := (num_facts i.toNat (by have := h.1; have := h.2; omega)).1
  have e := TL.int_num (n := i.toNat) (by omega)
  rw [Int.toNat_of_nonneg h.1] at e
  exact e
theorem nS_len {i : Int} (h : Nm i) : (nS i).length ≤ 3 ∧ 1 ≤ (nS i).length := by
  obtain ⟨l, e, h1, h2, _⟩ := nS_facts h
  rw [e, S_len]
  exact ⟨h1, h2⟩
theorem limT_keys : ∀ p ∈ limT, ∃ c r, TL.tl p.1 = c :: r ∧ 57 < c := by
  intro p hp
  have : ∀ p ∈ limT, (match TL.tl p.1 with | c :: _ => decide (57 < c) | [] => false) = true := by decide +kernel
  have h := this p hp
  cases e : TL.tl p.1 with
  | nil => rw [e] at h; cases h
  | cons c r => rw [e] at h; exact ⟨c, r, rfl, of_decide_eq_true h⟩
theorem nS_lim {i : Int} (h : Nm i) : limOf (nS i) = none := by
  obtain ⟨l, e, _, h2, hd, _⟩ := nS_facts h
  unfold limOf
  have : limT.find? (fun q => decide (q.1 = nS i)) = none := by
    refine List.find?_eq_none.mpr fun p hp hk => ?_
    obtain ⟨c, r, e1, e2⟩ := limT_keys p hp
    have e3 : p.1 = nS i := of_decide_eq_true hk
    rw [e3, e] at e1
    have e4 : l = c :: r := e1
    have := hd c (by rw [e4]; exact .head _)
    omega
  rw [this]
  rfl
def Row.strs (r : Row) : List Str := r.word :: r.nums.map nS
def Thing.strs : Thing → List Str
  | .num n => [nS n]
  | .row _ r => r.strs
def sp1 : Str := " "
def nl : Str := "\n"
def Thing.text (t : Thing) : Str := Txt.join sp1 t.strs
theorem Row.nums_ok (r : Row) (h : r.ok) : (∀ n ∈ r.nums, Nm n) ∧ r.nums.length ≤ 3 := by
  cases r <;> simp only [Row.ok, Bx, Nm] at h <;> refine ⟨fun n hn => ?_, Nat.le_of_ble_eq_true rfl⟩ <;> simp only [Row.nums, List.mem_cons, List.not_mem_nil, or_false] at hn <;> unfold Nm <;> omega
theorem Row.word_len (r : Row) : r.word.length ≤ 5 ∧ (32 ∉ TL.tl r.word) ∧ (10 ∉ TL.tl r.word) ∧ r.word ≠ Str.empty := by cases r <;> (dsimp only [Row.word]; decide +kernel)
/-- each part is short, without blank and line end -/
def PartOk (s : Str) : Prop := s.length ≤ 5 ∧ (32 ∉ TL.tl s) ∧ (10 ∉ TL.tl s)
theorem nS_part {n : Int} (h : Nm n) : PartOk (nS n) := by
  obtain ⟨l, e, h1, _, hd, _⟩ := nS_facts h
  refine ⟨by have := (nS_len h).1; omega, ?_, ?_⟩
  · rw [e]; intro m; have := hd _ m; omega
  · rw [e]; intro m; have := hd _ m; omega
theorem Row.strs_ok (r : Row) (h : r.ok) : (∀ s ∈ r.strs, PartOk s) ∧ r.strs.length ≤ 4 := by
  obtain ⟨h1, h2⟩ := r.nums_ok h
  refine ⟨fun s hs => ?_, by unfold Row.strs; rw [List.length_cons, List.length_map]; omega⟩
  unfold Row.strs at hs
  rcases List.mem_cons.mp hs with rfl | hs
  · exact ⟨r.word_len.1, r.word_len.2.1, r.word_len.2.2.1⟩
  · obtain ⟨n, hn, rfl⟩ := List.mem_map.mp hs
    exact nS_part (h1 n hn)
theorem Thing.strs_ok {H : Hp} {t : Thing} (h : t.At H) : (∀ s ∈ t.strs, PartOk s) ∧ t.strs.length ≤ 4 ∧ t.strs ≠ [] := by
  cases t with
  | num n => exact ⟨fun s hs => by rw [List.mem_singleton.mp hs]; exact nS_part h, Nat.le_of_ble_eq_true rfl, fun z => nomatch z⟩
  | row p r => exact ⟨(r.strs_ok h.2).1, (r.strs_ok h.2).2, fun z => nomatch z⟩
theorem sum_le : ∀ {l : List Str} {b : Nat}, (∀ s ∈ l, s.length ≤ b) → (l.map (·.length)).sum ≤ l.length * b
  | [], _, _ => Nat.zero_le _
  | x :: r, b, h => by
    have h1 := sum_le (l := r) fun s hs => h s (List.mem_cons_of_mem _ hs)
    have h2 := h x (.head _)
    rw [List.map_cons, List.sum_cons, List.length_cons, Nat.add_mul, Nat.one_mul]
    omega
theorem joinL_len (s : List Nat) : ∀ ps : List (List Nat), (TL.joinL s ps).length ≤ (ps.map (·.length)).sum + ps.length * s.length
  | [] => Nat.zero_le _
  | [p] => by show p.length ≤ (p.length + 0) + _; omega
  | p :: q :: r => by
    have h := joinL_len s (q :: r)
    show (p ++ (s ++ TL.joinL s (q :: r))).length ≤ _
    rw [List.length_append, List.length_append, List.map_cons, List.sum_cons, List.length_cons, Nat.add_mul, Nat.one_mul]
    omega
theorem join_len (y : Str) (ps : List Str) : (Txt.join y ps).length ≤ (ps.map (·.length)).sum + ps.length * y.length := by
  rw [TL.join_eq]
  have e := TL.tl_join y ps
  have h := joinL_len (TL.tl y) (ps.map TL.tl)
  rw [← e, List.map_map, List.length_map] at h
  have e2 : ∀ x : Str, (TL.tl x).length = x.length := fun x => by simp [Str.length]
  rw [e2, e2] at h
  have e3 : ((fun x : List Nat => x.length) ∘ TL.tl) = fun x : Str => x.length := funext e2
  rw [e3] at h
  exact h
theorem joinL_mem {s : List Nat} {c : Nat} (hs : c ∉ s) : ∀ {ps : List (List Nat)}, (∀ p ∈ ps, c ∉ p) → c ∉ TL.joinL s ps
  | [], _ => fun m => nomatch m
  | [p], h => h p (.head _)
  | p :: q :: r, h => by
    show c ∉ p ++ (s ++ TL.joinL s (q :: r))
    intro m
    rcases List.mem_append.mp m with m | m
    · exact h p (.head _) m
    · rcases List.mem_append.mp m with m | m
      · exact hs m
      · exact joinL_mem hs (fun z hz => h z (List.mem_cons_of_mem _ hz)) m
theorem Thing.text_ok {H : Hp} {t : Thing} (h : t.At H) : t.text.length ≤ 24 ∧ 10 ∉ TL.tl t.text ∧ Txt.split t.text sp1 = t.strs := by
  obtain ⟨h1, h2, h3⟩ := t.strs_ok h
  refine ⟨?_, ?_, ?_⟩
  · have a := join_len sp1 t.strs
    have b := sum_le (b := 5) fun s hs => (h1 s hs).1
    have e : sp1.length = 1 := by decide +kernel
    rw [e] at a
    unfold Thing.text
    omega
  · unfold Thing.text
    rw [TL.join_eq, TL.tl_join]
    exact joinL_mem (by decide +kernel) fun p hp => by
      obtain ⟨z, hz, rfl⟩ := List.mem_map.mp hp
      exact (h1 z hz).2.2
  · exact TL.split_join (y := sp1) (s := 32) (S := []) (by decide +kernel) (by decide +kernel) h3 fun p hp => (h1 p hp).2.1
/-- the text of cells -/
def cellsText (ts : List Thing) : Str := Txt.join nl (ts.map Thing.text)
theorem cells_text_ok {H : Hp} {ts : List Thing} (h : Things H ts) (h0 : ts ≠ []) (hl : ts.length ≤ 40) : (cellsText ts).length ≤ 1000 ∧ Txt.split (cellsText ts) nl = ts.map Thing.text := by
  have ht : ∀ s ∈ ts.map Thing.text, s.length ≤ 24 ∧ 10 ∉ TL.tl s := fun s hs => by
    obtain ⟨t, ht, rfl⟩ := List.mem_map.mp hs
    exact ⟨(t.text_ok (h t ht)).1, (t.text_ok (h t ht)).2.1⟩
  refine ⟨?_, ?_⟩
  · have a := join_len nl (ts.map Thing.text)
    have b := sum_le (b := 24) fun s hs => (ht s hs).1
    have e : nl.length = 1 := by decide +kernel
    rw [e] at a
    rw [List.length_map] at a b
    unfold cellsText
    omega
  · exact TL.split_join (y := nl) (s := 10) (S := []) (by decide +kernel) (by decide +kernel) (fun e => h0 (List.map_eq_nil_iff.mp e)) fun p hp => (ht p hp).2
end G
namespace G
open PySem L2 C8
open SX (S S_len num_S)
def LcQ (D : Addr) (Inv : Nat → List V → Hp → Prop) (i : Nat) (H4 : Hp) (z : Str) : Prop := ∃ acc, H4 D = some (.lst acc) ∧ acc.length < sizeLine ∧ Y.LcP D Inv (i + 1) (upd H4 D (.lst (acc ++ [.str z])))
def spWrittenThing : Sp := fun vs H Q _ => ∃ t : Thing, vs = [t.v] ∧ t.At H ∧ ∀ H', Same H H' → Q (.str t.text) H'
def spWritten : Sp := fun vs H Q _ => ∃ p ts, vs = [.ref p] ∧ CellsAt H p ts ∧ ∀ H', Same H H' → Q (.str (cellsText ts)) H'
theorem u_wthing {H : Hp} {Q : VK} {E : XK} {t : Thing} {v : V} (e : v = t.v) (h : t.At H) (q : ∀ H', Same H H' → Q (.str t.text) H') : spWrittenThing ([v] ++ []) H Q E := ⟨t, by rw [e]; rfl, h, q⟩
theorem u_written {H : Hp} {Q : VK} {E : XK} {p : Addr} {ts : List Thing} (h : CellsAt H p ts) (q : ∀ H', Same H H' → Q (.str (cellsText ts)) H') : spWritten ([.ref p] ++ []) H Q E := ⟨p, ts, rfl, h, q⟩
theorem nm_log {n : Int} (h : Nm n) : n.natAbs.log2 < 1920 := by
  have h1 : n.natAbs < 1000 := by have := h.1; have := h.2; omega
  exact Nat.lt_of_le_of_lt (Nat.log2_le_self _) (by omega)
theorem one_mem {α : Type} {P : α → Prop} {l : List α} {i : Nat} {x : α} (h : ∀ x ∈ l, P x) (e : l[i]? = some x) : P x := h x (List.mem_of_getElem? e)
theorem map_at {α : Type} {f : α → V} {l : List α} {i : Nat} {x : V} (h : (l.map f)[i]? = some x) : ∃ u, l[i]? = some u ∧ x = f u := by
  rw [List.getElem?_map] at h
  cases e : l[i]? with
  | none => rw [e] at h; cases h
  | some u => rw [e] at h; exact ⟨u, rfl, (Option.some.inj h).symm⟩
theorem take_snoc {α : Type} {l : List α} {i : Nat} {x : α} (e : l[i]? = some x) : l.take (i + 1) = l.take i ++ [x] := by rw [List.take_succ, e]; rfl
section
variable {P : Program} {w : World} {K : PySem.W.Frag} {mg : Str → Option Value} {base : Heap}
abbrev s_written_thing : Stmt := top 18
theorem sc_written_thing : FnScope ["thing", "part"] ["thing"] (fnScope s_written_thing) := fnScope_by (by decide +kernel)
theorem ok_written_thing {f : Addr} {fd : FuncData} (F : Def K mg "written_thing" s_written_thing f fd) (b : Binds K fd ["thing"] []) (T : Txt K mg) : Cal P w K mg base 1 "written_thing" spWrittenThing [] := by
  refine cal0 F b .nil sc_written_thing (fun vs H Q E h => ?_) (fun cdv A outer s H vs Q E hr h => ?_)
  · obtain ⟨t, rfl, _⟩ := h
    rfl
  · obtain ⟨t, rfl, ht, q⟩ := h
    have nd := sc_written_thing.nd
    refine ⟨_, (pss_cons (ps_if (pt_val (pe_callB call_isi (by rfl) T.n_isinstance (by decide +kernel) (pa_cons (pv 0) (pa_cons (Y.pe_bty (T := "tuple") (by rfl) T.n_tuple (by decide +kernel)) pa_nil))))
      (pss_one (ps_ret (Y.pe_join pe_str (pe_lc (own := [("part", 1)]) (g := gName 1) (by rfl) nd (pi_tup (pv 0)) (blkOk_by (N := ["thing", "part"]) (sc := fnScope s_written_thing) (by decide +kernel)) (fun _ _ _ _ _ => (pg_name (i := 1) nd rfl (by first | exact Or.inl rfl | exact Or.inr rfl))) (fun _ _ _ _ _ => pts_nil) (fun _ _ _ _ _ => (pe_callTy Y.cl_str (by rfl) T.n_str (by decide +kernel) (pa_cons (pv 1) pa_nil)))))))
      pss_nil)
      (pss_one (ps_ret (pe_callTy Y.cl_str (by rfl) T.n_str (by decide +kernel) (pa_cons (pv 0) pa_nil))))), ?_⟩
    cases t with
    | num n =>
      dsimp only [Thing.v]
      walk_at "b"
      refine Y.s_strI (nm_log ht) ?_
      walk_at "s"
      exact q _ (Same.refl _)
    | row p r =>
      obtain ⟨hp, hok⟩ := ht
      dsimp only [Thing.v]
      walk_at "b"
      refine Y.s_m1 ?_
      walk_at "s"
      refine Y.s_m1s ?_
      walk_at "s"
      have eq : r.vs.length = r.strs.length := by rw [r.vs_eq]; unfold Row.strs; rw [List.length_cons, List.length_cons, List.length_map, List.length_map]
      refine Y.s_lcT (SqT.of hp) fun D hD => ⟨fun i acc Hx => Same H Hx ∧ acc = (r.strs.take i).map V.str, ?_, ?_, ?_, ?_⟩
      · exact ⟨Y.same_new hD (Same.refl _), rfl⟩
      · rintro i acc Hx _ ⟨sx, _⟩
        exact SqT.of (sx _ _ hp)
      · rintro i x acc Hx hx hl2 hD2 ⟨sx, rfl⟩
        have hi := (List.getElem?_eq_some_iff.mp hx).1
        have hl4 := (r.strs_ok hok).2
        refine Y.s_yes ?_
        rw [r.vs_eq] at hx
        have key : ∀ z, r.strs[i]? = some z → LcQ D (fun i acc Hx => Same H Hx ∧ acc = (r.strs.take i).map V.str) i Hx z := fun z ez =>
          Y.s_lcE hD2 hl2 (by omega) ⟨Y.same_own hD sx, by rw [take_snoc ez, List.map_append]; rfl⟩
        cases i with
        | zero =>
          cases hx
          walk_at "s"
          refine Y.s_strS ?_
          exact key r.word rfl
        | succ j =>
          obtain ⟨n, hn, rfl⟩ := map_at (show (r.nums.map V.int)[j]? = some x from hx)
          walk_at "s"
          refine Y.s_strI (nm_log ((r.nums_ok hok).1 n (List.mem_of_getElem? hn))) ?_
          exact key (nS n) (by unfold Row.strs; show (r.nums.map nS)[j]? = _; rw [List.getElem?_map, hn]; rfl)
      · rintro acc Hx hD2 hl2 ⟨sx, rfl⟩
        rw [eq, List.take_length] at hD2
        obtain ⟨h1, h2⟩ := r.strs_ok hok
        refine Y.s_joinL (SqL.of hD2) ?_ ?_
        · have a := sum_le (b := 5) fun s hs => (h1 s hs).1
          have e : Str.length " " = 1 := by decide +kernel
          rw [e]
          omega
        · walk_at "s"
          exact q _ sx
abbrev s_written : Stmt := top 17
theorem sc_written : FnScope ["cells", "thing"] ["cells"] (fnScope s_written) := fnScope_by (by decide +kernel)
theorem ok_written {f : Addr} {fd : FuncData} (F : Def K mg "written" s_written f fd) (b : Binds K fd ["cells"] []) (T : Txt K mg) (c_check_cells : Cal P w K mg base 4 "check_cells" spCheckCells []) (c_written_thing : Cal P w K mg base 1 "written_thing" spWrittenThing []) : Cal P w K mg base 5 "written" spWritten [] := by
  refine cal0 F b .nil sc_written (fun vs H Q E h => ?_) (fun cdv A outer s H vs Q E hr h => ?_)
  · obtain ⟨p, ts, rfl, _⟩ := h
    rfl
  · obtain ⟨p, ts, rfl, hc, q⟩ := h
    have nd := sc_written.nd
    refine ⟨_, (pss_cons (ps_expr (pe_c c_check_cells hr (by first | decide | omega) (by rfl) (pa_cons (pv 0) pa_nil)))
      (pss_one (ps_ret (Y.pe_join pe_str (pe_lc (own := [("thing", 1)]) (g := gName 1) (by rfl) nd (pi_list (pv 0)) (blkOk_by (N := ["cells", "thing"]) (sc := fnScope s_written) (by decide +kernel)) (fun _ _ _ _ _ => (pg_name (i := 1) nd rfl (by first | exact Or.inl rfl | exact Or.inr rfl))) (fun _ _ _ _ _ => pts_nil) (fun _ _ _ _ _ => (pe_c c_written_thing hr (by first | decide | omega) (by rfl) (pa_cons (pv 1) pa_nil)))))))), ?_⟩
    walk_at "b"
    refine u_ccells hc fun H1 s1 => ?_
    have hc1 := hc.same s1
    walk_at "s"
    refine Y.s_m1 ?_
    walk_at "s"
    refine Y.s_m1s ?_
    walk_at "s"
    refine Y.s_lcL (SqL.of hc1.1) fun D hD => ⟨fun i acc Hx => Same H1 Hx ∧ acc = ((ts.take i).map Thing.text).map V.str, ?_, ?_, ?_, ?_⟩
    · exact ⟨Y.same_new hD (Same.refl _), rfl⟩
    · rintro i acc Hx _ ⟨sx, _⟩
      exact SqL.of (sx _ _ hc1.1)
    · rintro i x acc Hx hx hl2 hD2 ⟨sx, rfl⟩
      obtain ⟨t, et, rfl⟩ := map_at hx
      have hi := (List.getElem?_eq_some_iff.mp et).1
      have h40 := hc.2.2.2
      walk_at "s"
      refine u_wthing rfl ((hc1.2.1.same sx) t (List.mem_of_getElem? et)) fun H2 s2 => ?_
      exact Y.s_lcE (s2 _ _ hD2) hl2 (by omega) ⟨Y.same_own hD (sx.trans s2), by rw [take_snoc et, List.map_append, List.map_append]; rfl⟩
    · rintro acc Hx hD2 hl2 ⟨sx, rfl⟩
      rw [List.length_map, List.take_length] at hD2
      have hl := hc.2.2.2
      refine Y.s_joinL (SqL.of hD2) ?_ ?_
      · have a := sum_le (l := ts.map Thing.text) (b := 24) fun s hs => by
          obtain ⟨t, ht, rfl⟩ := List.mem_map.mp hs
          exact (t.text_ok (hc.2.1 t ht)).1
        rw [List.length_map] at a ⊢
        have e : Str.length "\n" = 1 := by decide +kernel
        rw [e]
        omega
      · walk_at "s"
        exact q _ (s1.trans sx)
end
end G
namespace G
open PySem L2 C8
open SX (S S_len num_S)
def Thing.okd : Thing → Prop
  | .num n => Nm n
  | .row _ r => r.ok
/-- how many words stand ahead of its numbers; these -/
def Thing.wordN : Thing → Nat
  | .num _ => 0
  | .row _ _ => 1
def Thing.numsL : Thing → List Int
  | .num n => [n]
  | .row _ r => r.nums
def Thing.dat : Thing → Int ⊕ Row
  | .num n => .inl n
  | .row _ r => .inr r
theorem Thing.At.okd {H : Hp} {t : Thing} (h : t.At H) : t.okd := by
  cases t with
  | num n => exact h
  | row p r => exact h.2
def spIsFigures : Sp := fun vs H Q _ => ∃ n, vs = [.str (nS n)] ∧ Nm n ∧ ∀ H', Same H H' → Q (.bl true) H'
def spIsWritten : Sp := fun vs H Q _ => ∃ p t, vs = [.ref p] ∧ H p = some (.lst (t.strs.map V.str)) ∧ Thing.okd t ∧ ∀ H', Same H H' → Q (.bl true) H'
def spThingOf : Sp := fun vs H Q _ => ∃ p t, vs = [.ref p] ∧ H p = some (.lst (t.strs.map V.str)) ∧ Thing.okd t ∧ ∀ (t' : Thing) H', Same H H' → t'.dat = t.dat → t'.At H' → Q t'.v H'
def spRead : Sp := fun vs H Q _ => ∃ ts, vs = [.str (cellsText ts)] ∧ Things H ts ∧ 16 ≤ ts.length ∧ ts.length ≤ 40 ∧ ∀ p ts' H', Same H H' → H p = none → CellsAt H' p ts' → ts'.map Thing.dat = ts.map Thing.dat → Q (.ref p) H'
theorem u_figures {H : Hp} {Q : VK} {E : XK} {n : Int} {v : V} (e : v = .str (nS n)) (h : Nm n) (q : ∀ H', Same H H' → Q (.bl true) H') : spIsFigures ([v] ++ []) H Q E := ⟨n, by rw [e]; rfl, h, q⟩
theorem u_iswritten {H : Hp} {Q : VK} {E : XK} {p : Addr} (t : Thing) (h : H p = some (.lst (t.strs.map V.str))) (hk : t.okd) (q : ∀ H', Same H H' → Q (.bl true) H') : spIsWritten ([.ref p] ++ []) H Q E := ⟨p, t, rfl, h, hk, q⟩
theorem u_thingof {H : Hp} {Q : VK} {E : XK} {p : Addr} (t : Thing) (h : H p = some (.lst (t.strs.map V.str))) (hk : t.okd) (q : ∀ (t' : Thing) H', Same H H' → t'.dat = t.dat → t'.At H' → Q t'.v H') : spThingOf ([.ref p] ++ []) H Q E := ⟨p, t, rfl, h, hk, q⟩
theorem u_read {H : Hp} {Q : VK} {E : XK} {ts : List Thing} (h : Things H ts) (h1 : 16 ≤ ts.length) (h2 : ts.length ≤ 40) (q : ∀ p ts' H', Same H H' → H p = none → CellsAt H' p ts' → ts'.map Thing.dat = ts.map Thing.dat → Q (.ref p) H') : spRead ([.str (cellsText ts)] ++ []) H Q E := ⟨ts, rfl, h, h1, h2, q⟩
theorem at0 (c : Nat) (r : List Nat) : atI (SX.S (c :: r)).cps.toList 0 = some c := by
  show atI (c :: r) 0 = some c
  unfold atI
  rw [show ixN (c :: r).length (0 : Int) = some 0 from ixN_nat (k := 0) (by rw [List.length_cons]; omega)]
  rfl
/-! a list's own methods -/
def BMR (K : PySem.W.Frag) (T : String) (r : V → List V → Hp → VK → Prop) (t : TA) (σ : L2.St) (Q : VK) : V → Hp → Prop := fun x H1 => tyV K T x H1 ∧ t σ H1 fun xs H2 => r x xs H2 Q
theorem s_bm {K : PySem.W.Frag} {T : String} {r : V → List V → Hp → VK → Prop} {to : TE} {t : TA} {σ : L2.St} {H : Hp} {Q : VK} (q : to σ H (BMR K T r t σ Q)) : tBM K T r to t σ H Q := q
theorem s_bmL {K : PySem.W.Frag} {r : V → List V → Hp → VK → Prop} {t : TA} {σ : L2.St} {H : Hp} {Q : VK} {p : Addr} {xs : List V} (h : SqL K H p xs) (q : t σ H fun xs H2 => r (.ref p) xs H2 Q) : BMR K "list" r t σ Q (.ref p) H := ⟨.inl ⟨rfl, xs, h⟩, q⟩
theorem s_append {H : Hp} {Q : VK} {p : Addr} {xs : List V} {y : V} (h : H p = some (.lst xs)) (hl : xs.length < 100000) (q : Q .non (upd H p (.lst (xs ++ [y])))) : rAppend (.ref p) [y] H Q := ⟨p, xs, y, rfl, rfl, h, Nat.lt_of_lt_of_le hl (by decide), q⟩
theorem any_false (n : Nat) : (List.replicate n false).any id = false := by induction n with
  | zero => rfl
  | succ n ih => rw [List.replicate_succ]; exact ih
section
variable {P : Program} {w : World} {K : PySem.W.Frag} {mg : Str → Option Value} {base : Heap}
abbrev s_is_figures : Stmt := top 21
theorem sc_is_figures : FnScope ["part", "figure"] ["part"] (fnScope s_is_figures) := fnScope_by (by decide +kernel)
theorem ok_is_figures {f : Addr} {fd : FuncData} (F : Def K mg "is_figures" s_is_figures f fd) (b : Binds K fd ["part"] []) (T : Txt K mg) (v_MOST_FIGURES : IntG mg "MOST_FIGURES" 3) (v_FIGURES : StrG mg "FIGURES" "0123456789") : Cal P w K mg base 1 "is_figures" spIsFigures [] := by
  refine cal0 F b .nil sc_is_figures (fun vs H Q E h => ?_) (fun cdv A outer s H vs Q E hr h => ?_)
  · obtain ⟨n, rfl, _⟩ := h
    rfl
  · obtain ⟨n, rfl, hn, q⟩ := h
    have nd := sc_is_figures.nd
    refine ⟨_, (pss_cons (ps_if (PW.pt (pw_or (pt_cmpR op_eq (pv 0) pe_str (nomark _)) (pw_or (pt_cmpR op_gt (pe_callB Y.cl_lenS (by rfl) T.n_len PySem.boot_len (pa_cons (pv 0) pa_nil)) (pe_gc (by rfl) v_MOST_FIGURES) (nomark _)) (pw_or1 (pt_val (pe_callB (Y.cl_any rfl) (by rfl) T.n_any (by decide +kernel) (pa_cons (pe_lc (own := [("figure", 1)]) (g := gName 1) (by rfl) nd (pi_str (pv 0)) (blkOk_by (N := ["part", "figure"]) (sc := fnScope s_is_figures) (by decide +kernel)) (fun _ _ _ _ _ => (pg_name (i := 1) nd rfl (by first | exact Or.inl rfl | exact Or.inr rfl))) (fun _ _ _ _ _ => pts_nil) (fun _ _ _ _ _ => (pe_cmpR Y.op_ninSign (pv 1) (pe_gc (by rfl) v_FIGURES) (by rfl)))) pa_nil)))))))
      (pss_one (ps_ret pe_bl))
      pss_nil)
      (pss_one (ps_ret (pe_or (pe_cmpR op_eq (pv 0) pe_str (nomark _)) (pe_one (pe_cmpR op_ne (pe_ix ix_str (pv 0) pe_int (fun _ _ => rfl)) pe_str (nomark _))))))), ?_⟩
    obtain ⟨l, el, l3, l1, hd, h0⟩ := nS_facts hn
    rw [el]
    have hlen : (S l).length = l.length := S_len l
    walk_at "b"
    have ne : ¬ (S l = Str.ofString "") := fun z => by
      have : (S l).length = (Str.ofString "").length := congrArg Str.length z
      rw [hlen] at this
      have e0 : (Str.ofString "").length = 0 := by decide +kernel
      omega
    refine Y.s_dF ne ?_
    walk_at "s"
    have hl2 : (S l).length ≤ sizeLine := Nat.le_trans (m := 1000) (by omega) (by decide)
    refine Y.s_lenS hl2 ?_
    walk_at "s"
    refine Y.s_dF (by omega) ?_
    walk_at "s"
    refine Y.s_its ?_
    walk_at "s"
    refine Y.s_lcS fun D hD => ⟨fun i acc Hx => Same H Hx ∧ acc = (List.replicate i false).map V.bl, ?_, ?_, ?_⟩
    · exact ⟨Y.same_new hD (Same.refl _), rfl⟩
    · rintro i c acc Hx hc hl5 hD2 ⟨sx, rfl⟩
      have hi : i < 1000 := by
        have := (Array.getElem?_eq_some_iff.mp hc).1
        have e : (S l).cps.size = l.length := by simp
        omega
      have hm : c ∈ l := by
        have := Array.mem_of_getElem? hc
        simpa using this
      refine Y.s_yes ?_
      walk_at "s"
      refine Y.s_ninSign ?_
      have h2 : ∀ c : Nat, 48 ≤ c → c ≤ 57 → c ∈ (Str.ofString "0123456789").cps.toList := by
        intro c c1 c2
        have : c = 48 ∨ c = 49 ∨ c = 50 ∨ c = 51 ∨ c = 52 ∨ c = 53 ∨ c = 54 ∨ c = 55 ∨ c = 56 ∨ c = 57 := by omega
        rcases this with rfl | rfl | rfl | rfl | rfl | rfl | rfl | rfl | rfl | rfl <;> decide +kernel
      rw [decide_eq_true (h2 c (hd c hm).1 (hd c hm).2)]
      exact Y.s_lcE hD2 hl5 (by omega) ⟨Y.same_own hD sx, by rw [List.replicate_succ', List.map_append]; rfl⟩
    · rintro acc Hx hD2 hl5 ⟨sx, rfl⟩
      walk_at "s"
      refine Y.s_any (SqL.of hD2) ?_
      rw [any_false]
      walk_at "s"
      rcases h0 with h0 | h0
      · subst h0
        refine Y.s_dT (by decide +kernel) ?_
        walk_at "s"
        exact q _ sx
      · obtain ⟨c, r, rfl⟩ : ∃ c r, l = c :: r := by
          cases l with
          | nil => exact absurd l1 (by decide)
          | cons c r => exact ⟨c, r, rfl⟩
        have hc : c ≠ 48 := fun z => h0 (by rw [z]; rfl)
        refine Y.s_dF (fun z => ?_) ?_
        · have e1 : (S (c :: r)).cps.toList = (Str.ofString "0").cps.toList := congrArg (fun x : Str => x.cps.toList) z
          have e2 : (Str.ofString "0").cps.toList = [48] := by decide +kernel
          rw [e2] at e1
          exact hc (List.cons.inj e1).1
        walk_at "s"
        refine Y.s_ixS (c := c) hl2 (at0 c r) ?_
        walk_at "s"
        have n1 : ¬ ((⟨#[c]⟩ : Str) = Str.ofString "0") := fun z => by
          have e1 : (⟨#[c]⟩ : Str).cps.toList = (Str.ofString "0").cps.toList := congrArg (fun x : Str => x.cps.toList) z
          have e2 : (Str.ofString "0").cps.toList = [48] := by decide +kernel
          rw [e2] at e1
          exact hc (List.cons.inj e1).1
        rw [decide_eq_false n1]
        exact q _ sx
abbrev s_is_written : Stmt := top 20
theorem sc_is_written : FnScope ["parts", "part"] ["parts"] (fnScope s_is_written) := fnScope_by (by decide +kernel)
theorem ok_is_written {f : Addr} {fd : FuncData} (F : Def K mg "is_written" s_is_written f fd) (b : Binds K fd ["parts"] []) (T : Txt K mg) (L : LimG K w mg) (c_is_figures : Cal P w K mg base 1 "is_figures" spIsFigures []) : Cal P w K mg base 2 "is_written" spIsWritten [] := by
  obtain ⟨d, kvs, v_LIMITS, L⟩ := L
  have q_LIMITS := L.dct
  refine cal0 F b .nil sc_is_written (fun vs H Q E h => ?_) (fun cdv A outer s H vs Q E hr h => ?_)
  · obtain ⟨p, t, rfl, _⟩ := h
    rfl
  · obtain ⟨p, t, rfl, hp, ht, q⟩ := h
    have nd := sc_is_written.nd
    refine ⟨_, (pss_cons (ps_if (pt_cmpR (Y.op_in_dict q_LIMITS) (pe_ix ix_list (pv 0) pe_int (fun _ _ => rfl)) (pe_gc (by rfl) v_LIMITS) (by rfl))
      (pss_one (ps_ret (pe_and (pe_cmpR op_eq (pe_op op_sub (pe_callB Y.cl_len (by rfl) T.n_len PySem.boot_len (pa_cons (pv 0) pa_nil)) pe_int) (pe_callB Y.cl_len (by rfl) T.n_len PySem.boot_len (pa_cons (pe_ix (Y.ix_dict q_LIMITS) (pe_gc (by rfl) v_LIMITS) (pe_ix ix_list (pv 0) pe_int (fun _ _ => rfl)) (fun _ _ => rfl)) pa_nil)) (nomark _)) (pe_one (pe_callB (Y.cl_all rfl) (by rfl) T.n_all (by decide +kernel) (pa_cons (pe_lc (own := [("part", 1)]) (g := gName 1) (by rfl) nd (pi_list (pe_slice sl_list (pv 0) (po_some pe_int) po_none)) (blkOk_by (N := ["parts", "part"]) (sc := fnScope s_is_written) (by decide +kernel)) (fun _ _ _ _ _ => (pg_name (i := 1) nd rfl (by first | exact Or.inl rfl | exact Or.inr rfl))) (fun _ _ _ _ _ => pts_nil) (fun _ _ _ _ _ => (pe_c c_is_figures hr (by first | decide | omega) (by rfl) (pa_cons (pv 1) pa_nil)))) pa_nil))))))
      pss_nil)
      (pss_one (ps_ret (pe_and (pe_cmpR op_eq (pe_callB Y.cl_len (by rfl) T.n_len PySem.boot_len (pa_cons (pv 0) pa_nil)) pe_int (nomark _)) (pe_one (pe_c c_is_figures hr (by first | decide | omega) (by rfl) (pa_cons (pe_ix ix_list (pv 0) pe_int (fun _ _ => rfl)) pa_nil))))))), ?_⟩
    cases t with
    | num n =>
      have hp' : H p = some (.lst [.str (nS n)]) := hp
      clear hp
      walk_at "b"
      refine Y.s_inDict (b := false) (by rw [L.no _ (nS_lim ht)]; rfl) ?_
      walk_at "s"
      refine Y.s_dT rfl ?_
      walk_at "s"
      refine u_figures rfl ht fun H1 s1 => ?_
      exact q _ s1
    | row pp r =>
      have hp' : H p = some (.lst (.str r.word :: (r.nums.map nS).map V.str)) := hp
      clear hp
      obtain ⟨aL, eL, qL⟩ := L.yes _ _ (limOf_word r)
      have hw := r.within ht
      walk_at "b"
      refine Y.s_ixL' (w := .str r.word) (SqL.of hp') (at_of (j := 0) rfl rfl) ?_
      walk_at "s"
      refine Y.s_inDict (b := true) (by rw [eL]; rfl) ?_
      walk_at "s"
      refine Y.s_ixL' (w := .str r.word) (SqL.of hp') (at_of (j := 0) rfl rfl) ?_
      walk_at "s"
      refine Y.s_ixDict eL ?_
      walk_at "s"
      refine Y.s_lenT (qL _) ?_
      walk_at "s"
      have el : (((V.str r.word :: (r.nums.map nS).map V.str).length : Nat) : Int) - 1 = ((r.lims.map V.int).length : Nat) := by
        rw [List.length_cons, List.length_map, List.length_map, List.length_map, hw.len]; omega
      rw [decide_eq_true el]
      walk_at "s"
      refine Y.s_sl ?_
      walk_at "s"
      refine Y.s_part ?_
      walk_at "s"
      refine Y.s_partI ?_
      refine Y.s_noPart ?_
      refine Y.s_slL1 (SqL.of hp') fun p2 hp2 => ?_
      walk_at "s"
      refine Y.s_lcL (SqL.of upd_same) fun D hD => ⟨fun i acc Hx => Same (upd H p2 (.lst ((r.nums.map nS).map V.str))) Hx ∧ acc = (List.replicate i true).map V.bl, ?_, ?_, ?_, ?_⟩
      · exact ⟨Y.same_new hD (Same.refl _), rfl⟩
      · rintro i acc Hx _ ⟨sx, _⟩
        exact SqL.of (sx _ _ upd_same)
      · rintro i x acc Hx hx hl2 hD2 ⟨sx, rfl⟩
        obtain ⟨z, ez, rfl⟩ := map_at hx
        rw [List.getElem?_map] at ez
        obtain ⟨n, en, rfl⟩ : ∃ n, r.nums[i]? = some n ∧ z = nS n := by
          cases e : r.nums[i]? with
          | none => rw [e] at ez; cases ez
          | some u => rw [e] at ez; exact ⟨u, rfl, (Option.some.inj ez).symm⟩
        have hi := (List.getElem?_eq_some_iff.mp en).1
        obtain ⟨g1, g2⟩ := r.nums_ok ht
        refine Y.s_yes ?_
        walk_at "s"
        refine u_figures rfl (g1 n (List.mem_of_getElem? en)) fun H3 s3 => ?_
        exact Y.s_lcE (s3 _ _ hD2) hl2 (by omega) ⟨Y.same_own hD (sx.trans s3), by rw [List.replicate_succ', List.map_append]; rfl⟩
      · rintro acc Hx hD2 hl2 ⟨sx, rfl⟩
        walk_at "s"
        refine Y.s_all (SqL.of hD2) ?_
        rw [Y.all_true]
        exact q _ (Y.same_tr sx (Y.same_new hp2 (Same.refl _)))
abbrev s_thing_of : Stmt := top 22
theorem sc_thing_of : FnScope ["parts", "numbers", "part"] ["parts"] (fnScope s_thing_of) := fnScope_by (by decide +kernel)
theorem ok_thing_of {f : Addr} {fd : FuncData} (F : Def K mg "thing_of" s_thing_of f fd) (b : Binds K fd ["parts"] []) (T : Txt K mg) (L : LimG K w mg) : Cal P w K mg base 1 "thing_of" spThingOf [] := by
  obtain ⟨d, kvs, v_LIMITS, L⟩ := L
  have q_LIMITS := L.dct
  refine cal0 F b .nil sc_thing_of (fun vs H Q E h => ?_) (fun cdv A outer s H vs Q E hr h => ?_)
  · obtain ⟨p, t, rfl, _⟩ := h
    rfl
  · obtain ⟨p, t, rfl, hp, ht, q⟩ := h
    have nd := sc_thing_of.nd
    refine ⟨_, (pss_cons (ps_setLc (i := 1) (own := [("part", 2)]) (g := gName 2) (by rfl) nd rfl rfl (by first | exact sw_true rfl rfl rfl (by decide +kernel) | rfl) (pi_list (pv 0)) (blkOk_by (N := ["parts", "numbers", "part"]) (sc := fnScope s_thing_of) (by decide +kernel)) (fun _ _ _ _ _ => (pg_name (i := 2) nd rfl (by first | exact Or.inl rfl | exact Or.inr rfl))) (fun _ _ _ _ _ => (pts_one (pt_cmpR (Y.op_notIn_dict q_LIMITS) (pv 2) (pe_gc (by rfl) v_LIMITS) (by rfl)))) (fun _ _ _ _ _ => (pe_callTy Y.cl_intS (by rfl) T.n_int (by decide +kernel) (pa_cons (pv 2) pa_nil))))
      (pss_one (ps_ret (pe_ifExp (pt_cmpR (Y.op_in_dict q_LIMITS) (pe_ix ix_list (pv 0) pe_int (fun _ _ => rfl)) (pe_gc (by rfl) v_LIMITS) (by rfl)) (pe_tup (pa_cons (pe_ix ix_list (pv 0) pe_int (fun _ _ => rfl)) (StX.pa_star (pv 1) pa_nil))) (pe_ix ix_seq (pv 1) pe_int (fun _ _ => rfl)))))), ?_⟩
    walk_at "b"
    cases t with
    | num n =>
      have hp' : H p = some (.lst ([nS n].map V.str)) := hp
      refine Y.s_lcL (SqL.of hp') fun D hD => ⟨fun i acc Hx => Same H Hx ∧ acc = ([n].take i).map V.int, ?_, ?_, ?_, ?_⟩
      · exact ⟨Y.same_new hD (Same.refl _), rfl⟩
      · rintro i acc Hx _ ⟨sx, _⟩
        exact SqL.of (sx _ _ hp')
      · rintro i x acc Hx hx hl2 hD2 ⟨sx, rfl⟩
        match i, hx with
        | 0, hx =>
          cases hx
          walk_at "s"
          refine Y.s_ninDict (b := false) (by rw [L.no _ (nS_lim ht)]; rfl) ?_
          walk_at "s"
          refine Y.s_intS (nS_int ht) (by have := (nS_len ht).1; omega) ?_
          exact Y.s_lcE hD2 hl2 (by omega) ⟨Y.same_own hD sx, rfl⟩
      · rintro acc Hx hD2 hl2 ⟨sx, rfl⟩
        have hp1 := sx _ _ hp'
        walk_at "s"
        refine Y.s_inDict (b := false) (by rw [L.no _ (nS_lim ht)]; rfl) ?_
        walk_at "s"
        exact q (.num n) _ sx rfl ht
    | row pp r =>
      have hp' : H p = some (.lst ((r.word :: r.nums.map nS).map V.str)) := hp
      obtain ⟨aL, eL, qL⟩ := L.yes _ _ (limOf_word r)
      obtain ⟨g1, g2⟩ := r.nums_ok ht
      refine Y.s_lcL (SqL.of hp') fun D hD => ⟨fun i acc Hx => Same H Hx ∧ acc = (r.nums.take (i - 1)).map V.int, ?_, ?_, ?_, ?_⟩
      · exact ⟨Y.same_new hD (Same.refl _), rfl⟩
      · rintro i acc Hx _ ⟨sx, _⟩
        exact SqL.of (sx _ _ hp')
      · rintro i x acc Hx hx hl2 hD2 ⟨sx, rfl⟩
        obtain ⟨z, ez, rfl⟩ := map_at hx
        cases i with
        | zero =>
          cases ez
          walk_at "s"
          refine Y.s_ninDict (b := true) (by rw [eL]; rfl) ?_
          walk_at "s"
          exact Y.s_lcN hD2 hl2 ⟨sx, rfl⟩
        | succ j =>
          have ez' : (r.nums.map nS)[j]? = some z := ez
          rw [List.getElem?_map] at ez'
          obtain ⟨n, en, rfl⟩ : ∃ n, r.nums[j]? = some n ∧ z = nS n := by
            cases e : r.nums[j]? with
            | none => rw [e] at ez'; cases ez'
            | some u => rw [e] at ez'; exact ⟨u, rfl, (Option.some.inj ez').symm⟩
          have hn := g1 n (List.mem_of_getElem? en)
          have hi := (List.getElem?_eq_some_iff.mp en).1
          walk_at "s"
          refine Y.s_ninDict (b := false) (by rw [L.no _ (nS_lim hn)]; rfl) ?_
          walk_at "s"
          refine Y.s_intS (nS_int hn) (by have := (nS_len hn).1; omega) ?_
          exact Y.s_lcE hD2 hl2 (by omega) ⟨Y.same_own hD sx, by rw [Nat.add_sub_cancel, Nat.add_sub_cancel, take_snoc en, List.map_append]; rfl⟩
      · rintro acc Hx hD2 hl2 ⟨sx, rfl⟩
        have hp1 := sx _ _ hp'
        have e9 : (r.nums.take (((r.word :: r.nums.map nS).map V.str).length - 1)) = r.nums := by
          rw [List.length_map, List.length_cons, List.length_map, Nat.add_sub_cancel, List.take_length]
        rw [e9] at hD2
        walk_at "s"
        refine Y.s_ixL' (w := .str r.word) (SqL.of hp1) (at_of (j := 0) rfl rfl) ?_
        walk_at "s"
        refine Y.s_inDict (b := true) (by rw [eL]; rfl) ?_
        walk_at "s"
        refine Y.s_ixL' (w := .str r.word) (SqL.of hp1) (at_of (j := 0) rfl rfl) ?_
        walk_at "s"
        refine Y.s_stq ?_
        walk_at "s"
        refine ⟨_, _, rfl, .inr (SqL.of hD2), ?_⟩
        walk_at "s"
        refine ⟨Nat.le_trans (m := 1000) (by rw [List.length_cons, List.length_append, List.length_map, List.length_nil]; omega) (by decide), fun p9 hp9 => ?_⟩
        walk_at "s"
        exact q (.row p9 r) _ (Y.same_new hp9 sx) rfl ⟨by rw [r.vs_eq, upd_same, List.append_nil], ht⟩
abbrev s_read : Stmt := top 19
theorem sc_read : FnScope ["text", "cells", "at", "row", "parts"] ["text"] (fnScope s_read) := fnScope_by (by decide +kernel)
theorem ok_read {f : Addr} {fd : FuncData} (F : Def K mg "read" s_read f fd) (b : Binds K fd ["text"] []) (T : Txt K mg)
    (c_is_written : Cal P w K mg base 2 "is_written" spIsWritten []) (c_thing_of : Cal P w K mg base 1 "thing_of" spThingOf []) (c_check_cells : Cal P w K mg base 4 "check_cells" spCheckCells []) : Cal P w K mg base 5 "read" spRead [] := by
  refine cal0 F b .nil sc_read (fun vs H Q E h => ?_) (fun cdv A outer s H vs Q E hr h => ?_)
  · obtain ⟨ts, rfl, _⟩ := h
    rfl
  · obtain ⟨ts, rfl, ht, h1, h2, q⟩ := h
    have nd := sc_read.nd
    refine ⟨_, (pss_cons (ps_set (i := 1) nd rfl (by first | exact Or.inl rfl | exact Or.inr rfl) (pe_lst pa_nil))
      (pss_cons (ps_for PassesOwn.never rfl (pi_enum (by rfl) T.n_enumerate (pa_cons (Y.pe_split (pv 0) pe_str) pa_nil)) (pg_tup (by rfl) (pgs_cons (pg_name (i := 2) nd rfl (by first | exact Or.inl rfl | exact Or.inr rfl)) (pgs_cons (pg_name (i := 3) nd rfl (by first | exact Or.inl rfl | exact Or.inr rfl)) pgs_nil)))
      (pss_cons (ps_set (i := 4) nd rfl (by first | exact Or.inl rfl | exact Or.inr rfl) (Y.pe_split (pv 3) pe_str))
      (pss_cons (ps_if (pt_not (pt_val (pe_c c_is_written hr (by first | decide | omega) (by rfl) (pa_cons (pv 4) pa_nil))))
      (pss_one ps_never)
      pss_nil)
      (pss_one (ps_expr (pe_bm PySem.F.plainAttrs_list PySem.F.slot_list_append PySem.F.type_list_append mt_append (pv 1) (pa_cons (pe_c c_thing_of hr (by first | decide | omega) (by rfl) (pa_cons (pv 4) pa_nil)) pa_nil)))))))
      (pss_cons (ps_expr (pe_c c_check_cells hr (by first | decide | omega) (by rfl) (pa_cons (pv 1) pa_nil)))
      (pss_one (ps_ret (pv 1)))))), ?_⟩
    have h0 : ts ≠ [] := fun z => by rw [z] at h1; exact absurd h1 (by decide)
    obtain ⟨tl1, tl2⟩ := cells_text_ok ht h0 h2
    have tl2' : Txt.split (cellsText ts) (Str.ofString "\n") = ts.map Thing.text := tl2
    walk_at "b"
    refine Y.s_new rfl fun p0 hp0 => ?_
    walk_at "s"
    refine Y.s_enum ?_
    walk_at "s"
    refine Y.s_m1 ?_
    walk_at "s"
    refine Y.s_m1s ?_
    walk_at "s"
    refine Y.s_split (by decide +kernel) (Nat.le_trans (m := 2000) (by omega) (by decide)) fun p1 hp1 => ?_
    rw [tl2']
    have n10 : p1 ≠ p0 := (ne_of_none upd_same hp1).symm
    walk_at "s"
    refine Y.s_forE (xs := (ts.map Thing.text).map V.str) (SqL.of upd_same) (fun i σ H' => ∃ ts' : List Thing, Same H H' ∧ H' p1 = some (.lst ((ts.map Thing.text).map V.str)) ∧ H' p0 = some (.lst (ts'.map Thing.v)) ∧ Things H' ts' ∧ ts'.map Thing.dat = (ts.take i).map Thing.dat ∧ ∃ v2 v3 v4, σ = [some (.str (cellsText ts)), some (.ref p0), v2, v3, v4])
      ⟨[], Y.same_new hp1 (Y.same_new hp0 (Same.refl _)), upd_same, by rw [upd_ne n10.symm]; exact upd_same, things_nil, rfl, _, _, _, rfl⟩ (fun i σ H' ⟨_, _, e, _⟩ => SqL.of e) ?_ ?_
    · rintro i x T9 σ Hx hx ⟨us, sx, e1, e0, hus, eus, v2, v3, v4, rfl⟩ hT
      rw [List.map_map] at hx
      obtain ⟨t, et, rfl⟩ := map_at hx
      have hi := (List.getElem?_eq_some_iff.mp et).1
      have hat := ht t (List.mem_of_getElem? et)
      refine Y.s_gTup (SqT.of upd_same) rfl ?_
      refine Y.s_gCons ?_
      walk_at "s"
      refine Y.s_gCons ?_
      walk_at "s"
      refine Y.s_gNil ?_
      walk_at "s"
      refine Y.s_m1 ?_
      walk_at "s"
      refine Y.s_m1s ?_
      walk_at "s"
      refine Y.s_split (by decide +kernel) (Nat.le_trans (m := 2000) (by have := (t.text_ok hat).1; omega) (by decide)) fun p2 hp2 => ?_
      rw [show Txt.split t.text (Str.ofString " ") = t.strs from (t.text_ok hat).2.2]
      have s2 : Same Hx (upd (upd Hx T9 (.tup [.int (i : Nat), .str t.text])) p2 (.lst (t.strs.map V.str))) := Y.same_new hp2 (Y.same_new hT (Same.refl _))
      walk_at "s"
      refine u_iswritten t upd_same hat.okd fun H3 s3 => ?_
      walk_at "s"
      refine s_bm ?_
      walk_at "s"
      refine s_bmL (SqL.of (s3 _ _ (s2 _ _ e0))) ?_
      walk_at "s"
      refine u_thingof t (s3 _ _ upd_same) hat.okd fun t' H4 s4 ed hat' => ?_
      have e04 := s4 _ _ (s3 _ _ (s2 _ _ e0))
      have lus : us.length = i := by
        have := congrArg List.length eus
        rw [List.length_map, List.length_map, List.length_take] at this
        omega
      walk_at "s"
      refine s_append e04 (by rw [List.length_map]; omega) ?_
      walk_at "s"
      have sAll : Same H H4 := ((sx.trans s2).trans s3).trans s4
      refine ⟨us ++ [t'], Y.same_own hp0 sAll, by rw [upd_ne n10]; exact s4 _ _ (s3 _ _ (s2 _ _ e1)), by rw [upd_same, List.map_append]; rfl, thing_snoc ((((hus.same s2).same s3).same s4).tu (Tu.lst (Tu.refl _) e04)) (hat'.tu (Tu.lst (Tu.refl _) e04)), by rw [take_snoc et, List.map_append, List.map_append, eus]; exact congrArg (fun z => _ ++ [z]) ed, _, _, _, rfl⟩
    · rintro σ Hx ⟨us, sx, e1, e0, hus, eus, v2, v3, v4, rfl⟩
      rw [List.length_map, List.length_map, List.take_length] at eus
      have lus : us.length = ts.length := by
        have := congrArg List.length eus
        rw [List.length_map, List.length_map] at this
        exact this
      have hc : CellsAt Hx p0 us := ⟨e0, hus, by omega, by omega⟩
      walk_at "s"
      refine u_ccells hc fun H2 s2 => ?_
      walk_at "s"
      exact q p0 us _ (sx.trans s2) hp0 (hc.same s2) eus
end
end G
namespace G
open PySem L2 C8
/-! ### the comparison that the law makes -/
/-- x and y are the same data, at most n deep in lists and tuples -/
def Sm (K : PySem.W.Frag) (H : Hp) : Nat → V → V → Prop
  | 0, _, _ => False
  | n + 1, x, y => (flatV x = true ∧ x = y) ∨ ∃ (a b : Addr) (xs ys : List V), x = .ref a ∧ y = .ref b ∧ ((H a = some (.lst xs) ∧ H b = some (.lst ys)) ∨ (H a = some (.tup xs) ∧ H b = some (.tup ys))) ∧ xs.length = ys.length ∧ xs.length ≤ 10000 ∧
      ∀ (i : Nat) u v, xs[i]? = some u → ys[i]? = some v → Sm K H n u v
theorem Sm.mono {K : PySem.W.Frag} {H H' : Hp} (f : Same H H') : ∀ {n : Nat} {x y : V}, Sm K H n x y → Sm K H' n x y
  | 0, _, _, h => h
  | n + 1, x, y, h => by
    rcases h with h | ⟨a, b, xs, ys, e1, e2, h, el, hl, hi⟩
    · exact .inl h
    · refine .inr ⟨a, b, xs, ys, e1, e2, ?_, el, hl, fun i u v h1 h2 => (hi i u v h1 h2).mono f⟩
      rcases h with ⟨h1, h2⟩ | ⟨h1, h2⟩
      · exact .inl ⟨f _ _ h1, f _ _ h2⟩
      · exact .inr ⟨f _ _ h1, f _ _ h2⟩
def spSame (K : PySem.W.Frag) (n : Nat) : Sp := fun vs H Q _ => ∃ x y, vs = [x, y] ∧ Sm K H n x y ∧ ∀ H', Same H H' → Q (.bl true) H'
section
variable {P : Program} {w : World} {K : PySem.W.Frag} {mg : Str → Option Value} {base : Heap}
abbrev s__law_same : Stmt := top 26
theorem sc__law_same : FnScope ["_law_found", "_law_due", "_law_k"] ["_law_found", "_law_due"] (fnScope s__law_same) := fnScope_by (by decide +kernel)
theorem ok__law_same {f : Addr} {fd : FuncData} (F : Def K mg "_law_same" s__law_same f fd) (b : Binds K fd ["_law_found", "_law_due"] []) (T : Txt K mg) : ∀ n, Cal P w K mg base (n + 1) "_law_same" (spSame K n) [] := by
  intro n
  induction n with
  | zero =>
    refine cal0 F b .nil sc__law_same (fun vs H Q E h => ?_) (fun cdv A outer s H vs Q E hr h => ?_)
    · obtain ⟨x, y, rfl, _⟩ := h
      rfl
    · obtain ⟨x, y, _, h, _⟩ := h
      exact h.elim
  | succ n ih =>
    have c__law_same := ih
    refine cal0 F b .nil sc__law_same (fun vs H Q E h => ?_) (fun cdv A outer s H vs Q E hr h => ?_)
    · obtain ⟨x, y, rfl, _⟩ := h
      rfl
    · obtain ⟨x, y, rfl, h, q⟩ := h
      have nd := sc__law_same.nd
      refine ⟨_, (pss_cons (ps_if (pt_val (pe_callB call_isiT (by rfl) T.n_isinstance (by decide +kernel) (pa_cons (pv 1) (pa_cons (pe_tup (pa_cons (Y.pe_bty (T := "tuple") (by rfl) T.n_tuple (by decide +kernel)) (pa_cons (Y.pe_bty (T := "list") (by rfl) T.n_list (by decide +kernel)) pa_nil))) pa_nil))))
      (pss_cons (ps_if (PW.pt (pw_or (pt_not (pt_val (pe_callB call_isiT (by rfl) T.n_isinstance (by decide +kernel) (pa_cons (pv 0) (pa_cons (pe_tup (pa_cons (Y.pe_bty (T := "tuple") (by rfl) T.n_tuple (by decide +kernel)) (pa_cons (Y.pe_bty (T := "list") (by rfl) T.n_list (by decide +kernel)) pa_nil))) pa_nil))))) (pw_or1 (pt_cmpR op_ne (pe_callB call_isi (by rfl) T.n_isinstance (by decide +kernel) (pa_cons (pv 0) (pa_cons (Y.pe_bty (T := "list") (by rfl) T.n_list (by decide +kernel)) pa_nil))) (pe_callB call_isi (by rfl) T.n_isinstance (by decide +kernel) (pa_cons (pv 1) (pa_cons (Y.pe_bty (T := "list") (by rfl) T.n_list (by decide +kernel)) pa_nil))) (nomark _)))))
      (pss_one (ps_ret pe_bl))
      pss_nil)
      (pss_cons (ps_if (pt_cmpR op_ne (pe_callB Y.cl_len (by rfl) T.n_len PySem.boot_len (pa_cons (pv 0) pa_nil)) (pe_callB Y.cl_len (by rfl) T.n_len PySem.boot_len (pa_cons (pv 1) pa_nil)) (nomark _))
      (pss_one (ps_ret pe_bl))
      pss_nil)
      (pss_one (ps_ret (pe_cmpR (op_eqD hr.units) (pe_lc (own := [("_law_k", 2)]) (g := gName 2) (by rfl) nd (pi_range1 rfl T.n_range (pa_cons (pe_callB Y.cl_len (by rfl) T.n_len PySem.boot_len (pa_cons (pv 1) pa_nil)) pa_nil)) (blkOk_by (N := ["_law_found", "_law_due", "_law_k"]) (sc := fnScope s__law_same) (by decide +kernel)) (fun _ _ _ _ _ => (pg_name (i := 2) nd rfl (by first | exact Or.inl rfl | exact Or.inr rfl))) (fun _ _ _ _ _ => (pts_one (pt_not (pt_val (pe_c c__law_same hr (by first | decide | omega) (by rfl) (pa_cons (pe_ix (show IxR _ (rIx K) from ix_seq) (pv 0) (pv 2) (fun _ _ => rfl)) (pa_cons (pe_ix (show IxR _ (rIx K) from ix_seq) (pv 1) (pv 2) (fun _ _ => rfl)) pa_nil))))))) (fun _ _ _ _ _ => (pv 2))) (pe_lst pa_nil) (nomark _))))))
      pss_nil)
      (pss_cons (ps_if (pt_cmpR op_isN1 (pv 1) pe_non (nomark _))
      (pss_one (ps_ret (pe_cmpR op_isN1 (pv 0) pe_non (nomark _))))
      pss_nil)
      (pss_cons (ps_if (pt_val (pe_callB call_isi (by rfl) T.n_isinstance (by decide +kernel) (pa_cons (pv 1) (pa_cons (Y.pe_bty (T := "str") (by rfl) T.n_str (by decide +kernel)) pa_nil))))
      (pss_one (ps_ret (pe_and (pe_callB call_isi (by rfl) T.n_isinstance (by decide +kernel) (pa_cons (pv 0) (pa_cons (Y.pe_bty (T := "str") (by rfl) T.n_str (by decide +kernel)) pa_nil))) (pe_one (pe_cmpR op_eq (pv 0) (pv 1) (nomark _))))))
      pss_nil)
      (pss_cons (ps_if (PW.pt (pw_or (pt_val (pe_callB call_isi (by rfl) T.n_isinstance (by decide +kernel) (pa_cons (pv 1) (pa_cons (Y.pe_bty (T := "bool") (by rfl) T.n_bool (by decide +kernel)) pa_nil)))) (pw_or1 (pt_val (pe_callB call_isi (by rfl) T.n_isinstance (by decide +kernel) (pa_cons (pv 0) (pa_cons (Y.pe_bty (T := "bool") (by rfl) T.n_bool (by decide +kernel)) pa_nil)))))))
      (pss_one (ps_ret (pe_and (pe_callB call_isi (by rfl) T.n_isinstance (by decide +kernel) (pa_cons (pv 1) (pa_cons (Y.pe_bty (T := "bool") (by rfl) T.n_bool (by decide +kernel)) pa_nil))) (pe_and (pe_callB call_isi (by rfl) T.n_isinstance (by decide +kernel) (pa_cons (pv 0) (pa_cons (Y.pe_bty (T := "bool") (by rfl) T.n_bool (by decide +kernel)) pa_nil))) (pe_one (pe_cmpR op_eq (pv 0) (pv 1) (nomark _)))))))
      pss_nil)
      (pss_one (ps_ret (pe_and (pe_callB call_isi (by rfl) T.n_isinstance (by decide +kernel) (pa_cons (pv 0) (pa_cons (Y.pe_bty (T := "int") (by rfl) T.n_int (by decide +kernel)) pa_nil))) (pe_one (pe_cmpR op_eq (pv 0) (pv 1) (nomark _)))))))))), ?_⟩
      walk_at "b"
      refine Y.s_new rfl fun p1 hp1 => ?_
      rcases h with ⟨hf, rfl⟩ | ⟨a1, a2, xs, ys, rfl, rfl, hxy, el, hl, hi⟩
      · cases x with
        | non =>
          walk_at "s"
          exact q _ (by walk_at "sm")
        | bl v =>
          walk_at "s"
          rw [decide_eq_true rfl]
          exact q _ (by walk_at "sm")
        | int v =>
          walk_at "s"
          rw [decide_eq_true rfl]
          exact q _ (by walk_at "sm")
        | str v =>
          walk_at "s"
          rw [decide_eq_true rfl]
          exact q _ (by walk_at "sm")
        | byt v => cases hf
        | flt v => cases hf
        | ref v => cases hf
        | ty v => cases hf
      · rcases hxy with ⟨h1, h2⟩ | ⟨h1, h2⟩
        all_goals
          walk_at "s"
          refine Y.s_new rfl fun p2 hp2 => ?_
          walk_at "s"
          refine Y.s_dNT (by omega) ?_
          walk_at "s"
          refine Y.s_lcR (by omega) (by omega) fun D hD => ⟨fun i acc Hx => acc = [] ∧ Same H Hx, ?_, ?_, ?_⟩
          · exact ⟨rfl, by walk_at "sm"⟩
          · rintro i acc Hx hi2 hl2 hD2 ⟨rfl, sx⟩
            obtain ⟨u, hu1⟩ : ∃ u, xs[i]? = some u := ⟨_, List.getElem?_eq_getElem (by omega)⟩
            obtain ⟨v, hv1⟩ : ∃ v, ys[i]? = some v := ⟨_, List.getElem?_eq_getElem (by omega)⟩
            walk_at "s"
            first
              | refine Y.s_ixL (SqL.of (sx _ _ h1)) (at_of (j := i) (by omega) hu1) ?_
              | refine Y.s_ixT (SqT.of (sx _ _ h1)) (at_of (j := i) (by omega) hu1) ?_
            walk_at "s"
            first
              | refine Y.s_ixL (SqL.of (sx _ _ h2)) (at_of (j := i) (by omega) hv1) ?_
              | refine Y.s_ixT (SqT.of (sx _ _ h2)) (at_of (j := i) (by omega) hv1) ?_
            walk_at "s"
            refine ⟨u, v, rfl, (hi i u v hu1 hv1).mono sx, fun H' sy => ?_⟩
            walk_at "s"
            exact Y.s_lcN (sy _ _ hD2) hl2 ⟨rfl, sx.trans sy⟩
          · rintro acc Hx hD2 hl2 ⟨rfl, sx⟩
            refine Y.s_new rfl fun p3 hp3 => ?_
            refine Y.s_eqNil (by walk_at "sq") (by walk_at "sq") ?_
            walk_at "s"
            exact q _ (by walk_at "sm")
end
end G
/-! ### cells as data: ==, the law's comparison -/
namespace G
open PySem L2 C8
open SX (S S_len num_S)
def ip (n : Int) : PyData := .int n
def Thing.pd : Thing → PyData
  | .num n => .int n
  | .row _ r => .tuple (.str r.word :: r.nums.map .int)
theorem dp_ints {K : PySem.W.Frag} {H : Hp} : ∀ ns : List Int, DpAll K H (ns.map V.int) (ns.map PyData.int)
  | [] => .nil
  | n :: r => .cons (.int n) (dp_ints r)
theorem lay_ints : ∀ ns : List Int, PyData.canLayAll0 (ns.map PyData.int) = true ∧ PyData.depthAll (ns.map PyData.int) = 0
  | [] => ⟨rfl, rfl⟩
  | n :: r => by
    obtain ⟨h1, h2⟩ := lay_ints r
    exact ⟨by show (true && PyData.canLayAll0 (r.map PyData.int)) = true; rw [h1]; rfl, by show max 0 (PyData.depthAll (r.map PyData.int)) = 0; rw [h2]; rfl⟩
theorem Thing.dp {K : PySem.W.Frag} {H : Hp} {t : Thing} (h : t.At H) : Dp K H t.v t.pd := by
  cases t with
  | num n => exact .int n
  | row p r =>
    have hp := h.1
    rw [r.vs_eq] at hp
    exact .tup (SqT.of hp) (.cons (.str _) (dp_ints _))
theorem word_strOk (r : Row) : PyData.strOk r.word = true := by cases r <;> (dsimp only [Row.word]; decide +kernel)
theorem Thing.lay (t : Thing) : t.pd.canLay0 = true ∧ t.pd.depth ≤ 1 := by
  cases t with
  | num n => exact ⟨rfl, Nat.zero_le _⟩
  | row p r =>
    obtain ⟨h1, h2⟩ := lay_ints r.nums
    refine ⟨?_, ?_⟩
    · show (PyData.strOk r.word && PyData.canLayAll0 (r.nums.map PyData.int)) = true
      rw [h1, word_strOk]; rfl
    · show max 0 (PyData.depthAll (r.nums.map PyData.int)) + 1 ≤ 1
      rw [h2]; exact Nat.le_refl _
theorem things_dp {K : PySem.W.Frag} {H : Hp} : ∀ {ts : List Thing}, Things H ts → DpAll K H (ts.map Thing.v) (ts.map Thing.pd)
  | [], _ => .nil
  | t :: r, h => .cons (Thing.dp (h t (.head _))) (things_dp fun u m => h u (List.mem_cons_of_mem _ m))
theorem things_lay : ∀ ts : List Thing, PyData.canLayAll0 (ts.map Thing.pd) = true ∧ PyData.depthAll (ts.map Thing.pd) ≤ 1
  | [] => ⟨rfl, Nat.zero_le _⟩
  | t :: r => by
    obtain ⟨h1, h2⟩ := things_lay r
    obtain ⟨h3, h4⟩ := t.lay
    refine ⟨?_, ?_⟩
    · show (PyData.canLay0 t.pd && PyData.canLayAll0 (r.map Thing.pd)) = true
      rw [h1, h3]; rfl
    · show max (PyData.depth t.pd) (PyData.depthAll (r.map Thing.pd)) ≤ 1
      exact Nat.max_le.mpr ⟨h4, h2⟩
theorem shaped_things (ts : List Thing) : SeqAt.shaped (.list (ts.map Thing.pd)) = true := by
  obtain ⟨h1, h2⟩ := things_lay ts
  unfold SeqAt.shaped
  rw [Bool.and_eq_true, decide_eq_true_eq]
  exact ⟨h1, Nat.le_trans (Nat.succ_le_succ h2) (by decide)⟩
/-- a list of cells beside one of the same things: != tells False -/
theorem s_neCells {K : PySem.W.Frag} {H : Hp} {Q : VK} {p1 p2 : Addr} {ts : List Thing} (h1 : H p1 = some (.lst (ts.map Thing.v))) (h2 : H p2 = some (.lst (ts.map Thing.v))) (ht : Things H ts) (q : Q (.bl false) H) : rNeD K (.ref p1) (.ref p2) H Q := by
  refine ⟨_, _, .lst (SqL.of h1) (things_dp ht), .lst (SqL.of h2) (things_dp ht), shaped_things ts, shaped_things ts, ?_⟩
  rw [SeqAt.eqv_refl _ (SeqAt.canLay_of_shaped (shaped_things ts))]
  exact q
/-- the same data, for the law's comparison -/
theorem sm_row {K : PySem.W.Frag} {H : Hp} {p1 p2 : Addr} {r : Row} (h1 : H p1 = some (.tup r.vs)) (h2 : H p2 = some (.tup r.vs)) : Sm K H 2 (.ref p1) (.ref p2) := by
  refine .inr ⟨p1, p2, r.vs, r.vs, rfl, rfl, .inr ⟨h1, h2⟩, rfl, by cases r <;> exact Nat.le_of_ble_eq_true rfl, fun i u v e1 e2 => ?_⟩
  rw [e1] at e2
  obtain rfl := Option.some.inj e2
  refine .inl ⟨?_, rfl⟩
  rw [r.vs_eq] at e1
  have : ∀ x ∈ V.str r.word :: r.nums.map V.int, flatV x = true := fun x hx => by
    rcases List.mem_cons.mp hx with rfl | hx
    · rfl
    · obtain ⟨n, _, rfl⟩ := List.mem_map.mp hx
      rfl
  exact this u (List.mem_of_getElem? e1)
theorem sm_thing {K : PySem.W.Frag} {H : Hp} {t u : Thing} (ht : t.At H) (hu : u.At H) (e : t.dat = u.dat) : Sm K H 2 t.v u.v := by
  cases t with
  | num n =>
    cases u with
    | num m => cases e; exact .inl ⟨rfl, rfl⟩
    | row p r => cases e
  | row p r =>
    cases u with
    | num m => cases e
    | row p2 r2 => cases e; exact sm_row ht.1 hu.1
theorem sm_things {K : PySem.W.Frag} {H : Hp} {ts us : List Thing} (ht : Things H ts) (hu : Things H us) (e : ts.map Thing.dat = us.map Thing.dat) : ∀ (i : Nat) x y, (ts.map Thing.v)[i]? = some x → (us.map Thing.v)[i]? = some y → Sm K H 2 x y := by
  intro i x y hx hy
  obtain ⟨t, et, rfl⟩ := map_at hx
  obtain ⟨u, eu, rfl⟩ := map_at hy
  refine sm_thing (ht t (List.mem_of_getElem? et)) (hu u (List.mem_of_getElem? eu)) ?_
  have h := congrArg (fun l => l[i]?) e
  simp only [List.getElem?_map, et, eu, Option.map_some] at h
  exact Option.some.inj h
theorem sm_cells {K : PySem.W.Frag} {H : Hp} {p1 p2 : Addr} {ts us : List Thing} (h1 : CellsAt H p1 ts) (h2 : CellsAt H p2 us) (e : ts.map Thing.dat = us.map Thing.dat) : Sm K H 3 (.ref p1) (.ref p2) := by
  have el : ts.length = us.length := by have := congrArg List.length e; rwa [List.length_map, List.length_map] at this
  exact .inr ⟨p1, p2, _, _, rfl, rfl, .inl ⟨h1.1, h2.1⟩, by rw [List.length_map, List.length_map, el], by rw [List.length_map]; have := h1.2.2.2; omega, sm_things h1.2.1 h2.2.1 e⟩
/-- a row's text, part by part -/
theorem join_cons (y w n : Str) : ∀ l : List Str, Str.join y (w :: n :: l) = Str.join y ((w ++ y ++ n) :: l)
  | [] => rfl
  | m :: r => TL.ext_tl (by
    show TL.tl (w ++ y ++ (n ++ y ++ Str.join y (m :: r))) = TL.tl (w ++ y ++ n ++ y ++ Str.join y (m :: r))
    simp only [TL.tl_append, List.append_assoc])
theorem join_fold (y : Str) : ∀ (l : List Str) (w : Str), Txt.join y (w :: l) = l.foldl (fun t n => t ++ y ++ n) w
  | [], _ => by rw [TL.join_eq]; rfl
  | n :: r, w => by
    rw [TL.join_eq, join_cons, ← TL.join_eq, join_fold y r, List.foldl_cons]
theorem Row.text_fold (p : Addr) (r : Row) : (Thing.row p r).text = r.nums.foldl (fun t n => t ++ sp1 ++ nS n) r.word := by
  show Txt.join sp1 (r.word :: r.nums.map nS) = _
  rw [join_fold, List.foldl_map]
end G
namespace G
open PySem L2 C8
open SX (S S_len num_S)
def rAddS : R2 := fun x y H Q => ∃ i j : Str, x = .str i ∧ y = .str j ∧ i.length + j.length ≤ sizeLine ∧ Q (.str (i ++ j)) H
theorem op_addS {X : Cx} : OpR X (binaryOp .Add) rAddS := op_add_str
theorem s_addS {H : Hp} {Q : VK} {i j : Str} (h : i.length + j.length ≤ 100000) (q : Q (.str (i ++ j)) H) : rAddS (.str i) (.str j) H Q := ⟨i, j, rfl, rfl, Nat.le_trans h (by decide), q⟩
theorem s_forT {K : PySem.W.Frag} {σ : L2.St} {H : Hp} {a : Addr} {xs : List V} {g : TG} {tb : TS} {D : Ends} (ha : SqT K H a xs) (Pv : Nat → L2.St → Hp → Prop) (p0 : Pv 0 σ H) (hl : ∀ i σ H, Pv i σ H → SqT K H a xs)
    (hs : ∀ i x σ H, xs[i]? = some x → Pv i σ H → g x σ H fun σ2 H2 => tb { D with nx := Pv (i + 1), ct := Pv (i + 1), bk := D.nx } σ2 H2) (hd : ∀ σ H, Pv xs.length σ H → D.nx σ H) :
    Y.TupRest K (Y.ForRest g tb D σ) (V.ref a) H :=
  ⟨a, rfl, ⟨xs, ha⟩, for_it walk_tup Pv p0 (fun i σ H _ p => hl i σ H p) (fun i x σ H H' hi p ⟨e, hx⟩ => by rw [e]; exact hs i x σ H hx p) hd⟩
theorem str_app (x y : Str) : (x ++ y).length = x.length + y.length := by
  have e : ∀ x : Str, x.length = (TL.tl x).length := fun x => by simp [Str.length]
  rw [e, e, e, TL.tl_append, List.length_append]
theorem foldT_len : ∀ {l : List Int}, (∀ n ∈ l, Nm n) → ∀ w : Str, (l.foldl (fun t n => t ++ sp1 ++ nS n) w).length ≤ w.length + 4 * l.length
  | [], _, w => Nat.le_refl _
  | n :: r, h, w => by
    have h1 := foldT_len (l := r) (fun m hm => h m (List.mem_cons_of_mem _ hm)) (w ++ sp1 ++ nS n)
    have h2 := (nS_len (h n (.head _))).1
    have e1 : sp1.length = 1 := by decide +kernel
    rw [str_app, str_app, e1] at h1
    rw [List.foldl_cons, List.length_cons]
    omega
def BM0R (K : PySem.W.Frag) (T : String) (r : V → List V → Hp → VK → Prop) (Q : VK) : V → Hp → Prop := fun x H1 => tyV K T x H1 ∧ r x [] H1 Q
theorem s_bm0 {K : PySem.W.Frag} {T : String} {r : V → List V → Hp → VK → Prop} {to : TE} {σ : L2.St} {H : Hp} {Q : VK} (q : to σ H (BM0R K T r Q)) : tBM0 K T r to σ H Q := q
theorem s_bm0L {K : PySem.W.Frag} {r : V → List V → Hp → VK → Prop} {H : Hp} {Q : VK} {p : Addr} {xs : List V} (h : SqL K H p xs) (q : r (.ref p) [] H Q) : BM0R K "list" r Q (.ref p) H := ⟨.inl ⟨rfl, xs, h⟩, q⟩
def spLaw (K : PySem.W.Frag) : Sp := fun vs H Q _ => ∃ (a : Addr) (ns : List Int), vs = [.ref a] ∧ Lk K H a (ns.map V.int) ∧ ns.length ≤ 63 ∧ ∀ H', Q (.bl true) H'
theorem u_cells {K : PySem.W.Frag} {H : Hp} {Q : VK} {E : XK} {a : Addr} (h : StAt K H a) (q : ∀ (p : Addr) (ts : List Thing) (H' : Hp), H p = none → Fr a H H' → StAt K H' a → CellsAt H' p ts → Q (.ref p) H') : spCells K ([.ref a] ++ []) H Q E := ⟨a, rfl, h, q⟩
theorem u_same {K : PySem.W.Frag} {n : Nat} {H : Hp} {Q : VK} {E : XK} {x y : V} (h : Sm K H n x y) (q : ∀ H', Same H H' → Q (.bl true) H') : spSame K n ([x, y] ++ []) H Q E := ⟨x, y, rfl, h, q⟩
section
variable {P : Program} {w : World} {K : PySem.W.Frag} {mg : Str → Option Value} {base : Heap}
abbrev s_law : Stmt := top 34
theorem sc_law : FnScope ["_law_script", "_law_state", "_law_turn", "_law_cells_here", "_law_rows", "_law_thing", "_law_text", "_law_part", "_law_handed"] ["_law_script"] (fnScope s_law) := fnScope_by (by decide +kernel)
theorem ok_law {f : Addr} {fd : FuncData} (F : Def K mg "law" s_law f fd) (T : Txt K mg)
    (c__law_start : Cal P w K mg base 1 "_law_start" (spStart K) []) (c__law_cells : Cal P w K mg base 5 "_law_cells" (spCells K) []) (c__law_same : Cal P w K mg base 4 "_law_same" (spSame K 3) [])
    (c_written : Cal P w K mg base 5 "written" spWritten []) (c_read : Cal P w K mg base 5 "read" spRead []) : FnOk P w K mg base C8.CX0 40 f fd ["_law_script"] (spLaw K) := by
  refine fn0 F.fn sc_law (fun vs H Q E h => ?_) (fun cdv A outer s H vs Q E hr h => ?_)
  · obtain ⟨a, ns, rfl, _⟩ := h
    rfl
  · obtain ⟨a, ns, rfl, hs, _, q⟩ := h
    have nd := sc_law.nd
    refine ⟨_, (pss_cons (ps_set (i := 1) nd rfl (by first | exact Or.inl rfl | exact Or.inr rfl) (pe_c c__law_start hr (by first | decide | omega) (by rfl) (pa_cons (pv 0) pa_nil)))
      (pss_cons (ps_for PassesOwn.never rfl (pi_range1 rfl T.n_range (pa_cons pe_int pa_nil)) (pg_name (i := 2) nd rfl (by first | exact Or.inl rfl | exact Or.inr rfl))
      (pss_cons (ps_set (i := 3) nd rfl (by first | exact Or.inl rfl | exact Or.inr rfl) (pe_c c__law_cells hr (by first | decide | omega) (by rfl) (pa_cons (pv 1) pa_nil)))
      (pss_cons (ps_set (i := 4) nd rfl (by first | exact Or.inl rfl | exact Or.inr rfl) (pe_lst pa_nil))
      (pss_cons (ps_for PassesOwn.never rfl (pi_list (pv 3)) (pg_name (i := 5) nd rfl (by first | exact Or.inl rfl | exact Or.inr rfl))
      (pss_one (ps_if (pt_val (pe_callB call_isi (by rfl) T.n_isinstance (by decide +kernel) (pa_cons (pv 5) (pa_cons (Y.pe_bty (T := "tuple") (by rfl) T.n_tuple (by decide +kernel)) pa_nil))))
      (pss_cons (ps_set (i := 6) nd rfl (by first | exact Or.inl rfl | exact Or.inr rfl) (pe_ix ix_tup (pv 5) pe_int (fun _ _ => rfl)))
      (pss_cons (ps_for PassesOwn.never rfl (pi_tup (pe_slice sl_tup (pv 5) (po_some pe_int) po_none)) (pg_name (i := 7) nd rfl (by first | exact Or.inl rfl | exact Or.inr rfl))
      (pss_one (ps_set (i := 6) nd rfl (by first | exact Or.inl rfl | exact Or.inr rfl) (pe_op op_addS (pe_op op_addS (pv 6) pe_str) (pe_callTy Y.cl_str (by rfl) T.n_str (by decide +kernel) (pa_cons (pv 7) pa_nil))))))
      (pss_one (ps_expr (pe_bm PySem.F.plainAttrs_list PySem.F.slot_list_append PySem.F.type_list_append mt_append (pv 4) (pa_cons (pv 6) pa_nil))))))
      (pss_one (ps_expr (pe_bm PySem.F.plainAttrs_list PySem.F.slot_list_append PySem.F.type_list_append mt_append (pv 4) (pa_cons (pe_callTy Y.cl_str (by rfl) T.n_str (by decide +kernel) (pa_cons (pv 5) pa_nil)) pa_nil)))))))
      (pss_cons (ps_set (i := 8) nd rfl (by first | exact Or.inl rfl | exact Or.inr rfl) (pe_callTy Y.cl_list (by rfl) T.n_list (by decide +kernel) (pa_cons (pv 3) pa_nil)))
      (pss_cons (ps_set (i := 6) nd rfl (by first | exact Or.inl rfl | exact Or.inr rfl) (Y.pe_join pe_str (pv 4)))
      (pss_cons (ps_if (PW.pt (pw_or (pt_not (pt_val (pe_c c__law_same hr (by first | decide | omega) (by rfl) (pa_cons (pe_c c_written hr (by first | decide | omega) (by rfl) (pa_cons (pv 8) pa_nil)) (pa_cons (pv 6) pa_nil))))) (pw_or (pt_cmpR (op_neD hr.units) (pv 8) (pv 3) (nomark _)) (pw_or1 (pt_not (pt_val (pe_c c__law_same hr (by first | decide | omega) (by rfl) (pa_cons (pe_c c_read hr (by first | decide | omega) (by rfl) (pa_cons (pv 6) pa_nil)) (pa_cons (pv 3) pa_nil)))))))))
      (pss_one (ps_ret pe_bl))
      pss_nil)
      (pss_one (ps_expr (pe_bm0 PySem.F.plainAttrs_list PySem.F.slot_list_clear PySem.F.type_list_clear mt_clear (pe_c c_read hr (by first | decide | omega) (by rfl) (pa_cons (pv 6) pa_nil))))))))))))
      (pss_one (ps_ret pe_bl)))), ?_⟩
    walk_at "b"
    refine ⟨a, ns, rfl, hs, fun st H1 hst s1 S1 => ?_⟩
    walk_at "s"
    refine Y.s_forR (by decide) (by decide) (fun i σ H' => StAt K H' st ∧ ∃ v2 v3 v4 v5 v6 v7 v8, σ = [some (.ref a), some (.ref st), v2, v3, v4, v5, v6, v7, v8]) ⟨S1, _, _, _, _, _, _, _, rfl⟩ ?_ ?_
    · rintro i σ H2 hi ⟨S2, v2, v3, v4, v5, v6, v7, v8, rfl⟩
      walk_at "s"
      refine u_cells S2 fun pc ts H3 _ f3 S3 hc => ?_
      walk_at "s"
      refine Y.s_new rfl fun pr hpr => ?_
      walk_at "s"
      have hc' := (hc.same (Y.same_new hpr (Same.refl _)) : CellsAt (upd H3 pr (.lst [])) pc ts)
      have S4 := S3.new (o := .lst []) hpr
      have nr : st ≠ pr := ne_of_none S3.spec hpr
      have npc : pc ≠ pr := ne_of_none hc.1 hpr
      refine Y.s_forL (SqL.of hc'.1) (fun i σ H' => StAt K H' st ∧ CellsAt H' pc ts ∧ H' pr = some (.lst (((ts.take i).map Thing.text).map V.str)) ∧ ∃ v2 v5 v6 v7 v8, σ = [some (.ref a), some (.ref st), v2, some (.ref pc), some (.ref pr), v5, v6, v7, v8])
        ⟨S4, hc', upd_same, _, _, _, _, _, rfl⟩ (fun i σ H' ⟨_, e, _⟩ => SqL.of e.1) ?_ ?_
      · rintro i x σ Hx hx ⟨Sx, cx, ex, v2, v5, v6, v7, v8, rfl⟩
        obtain ⟨t, et, rfl⟩ := map_at hx
        have hat := cx.2.1 t (List.mem_of_getElem? et)
        have hi := (List.getElem?_eq_some_iff.mp et).1
        have h40 := cx.2.2.2
        have fin : ∀ Hz : Hp, Same Hx Hz → ∀ v2 v5 v6 v7 v8, StAt K (upd Hz pr (.lst (((ts.take i).map Thing.text).map V.str ++ [.str t.text]))) st ∧ CellsAt (upd Hz pr (.lst (((ts.take i).map Thing.text).map V.str ++ [.str t.text]))) pc ts ∧ upd Hz pr (.lst (((ts.take i).map Thing.text).map V.str ++ [.str t.text])) pr = some (.lst (((ts.take (i + 1)).map Thing.text).map V.str)) ∧ ∃ w2 w5 w6 w7 w8, [some (V.ref a), some (.ref st), v2, some (.ref pc), some (.ref pr), v5, v6, v7, v8] = [some (V.ref a), some (.ref st), w2, some (.ref pc), some (.ref pr), w5, w6, w7, w8] := by
          intro Hz sz v2 v5 v6 v7 v8
          have cz := cx.same sz
          have ez := sz _ _ ex
          refine ⟨(Sx.same sz).own ez nr, ⟨by rw [upd_ne npc]; exact cz.1, cz.2.1.tu (Tu.lst (Tu.refl _) ez), cz.2.2⟩, by rw [upd_same, take_snoc et, List.map_append, List.map_append]; rfl, _, _, _, _, _, rfl⟩
        cases t with
        | num n =>
          dsimp only [Thing.v]
          walk_at "s"
          refine s_bm ?_
          walk_at "s"
          refine s_bmL (SqL.of ex) ?_
          walk_at "s"
          refine Y.s_strI (nm_log hat) ?_
          walk_at "s"
          refine s_append ex (by rw [List.length_map, List.length_map, List.length_take]; omega) ?_
          walk_at "s"
          exact fin Hx (Same.refl _) _ _ _ _ _
        | row p r =>
          obtain ⟨hp, hok⟩ := hat
          have hp' := hp
          rw [r.vs_eq] at hp'
          obtain ⟨g1, g2⟩ := r.nums_ok hok
          dsimp only [Thing.v]
          walk_at "s"
          refine Y.s_ixT' (w := .str r.word) (SqT.of hp') (at_of (j := 0) rfl rfl) ?_
          walk_at "s"
          refine Y.s_sl ?_
          walk_at "s"
          refine Y.s_part ?_
          walk_at "s"
          refine Y.s_partI ?_
          refine Y.s_noPart ?_
          refine Y.s_slT1 (SqT.of hp') fun p2 hp2 => ?_
          walk_at "s"
          refine s_forT (SqT.of upd_same) (fun j σ H' => Same Hx H' ∧ H' p2 = some (.tup (r.nums.map V.int)) ∧ ∃ v7, σ = [some (.ref a), some (.ref st), v2, some (.ref pc), some (.ref pr), some (.ref p), some (.str ((r.nums.take j).foldl (fun t n => t ++ sp1 ++ nS n) r.word)), v7, v8])
            ⟨Y.same_new hp2 (Same.refl _), upd_same, _, rfl⟩ (fun i σ H' ⟨_, e, _⟩ => SqT.of e) ?_ ?_
          · rintro j x σ Hy hx ⟨sy, ey, w7, rfl⟩
            obtain ⟨n, en, rfl⟩ := map_at hx
            have hj := (List.getElem?_eq_some_iff.mp en).1
            have hn := g1 n (List.mem_of_getElem? en)
            have hl := foldT_len (l := r.nums.take j) (fun n m => g1 n (List.mem_of_mem_take m)) r.word
            have hw := r.word_len.1
            have lj : (r.nums.take j).length = j := by rw [List.length_take]; omega
            have e1 : (Str.ofString " ").length = 1 := by decide +kernel
            rw [lj] at hl
            walk_at "s"
            refine s_addS (by rw [e1]; omega) ?_
            walk_at "s"
            refine Y.s_strI (nm_log hn) ?_
            refine s_addS (by rw [str_app, e1]; have := (nS_len hn).1; unfold nS at this; omega) ?_
            walk_at "s"
            exact ⟨sy, ey, _, by rw [take_snoc en, List.foldl_append]; rfl⟩
          · rintro σ Hy ⟨sy, ey, w7, rfl⟩
            rw [List.length_map, List.take_length, ← Row.text_fold p r]
            have ey2 := sy _ _ ex
            walk_at "s"
            refine s_bm ?_
            walk_at "s"
            refine s_bmL (SqL.of ey2) ?_
            walk_at "s"
            refine s_append ey2 (by rw [List.length_map, List.length_map, List.length_take]; omega) ?_
            walk_at "s"
            exact fin Hy sy _ _ _ _ _
      · rintro σ Hx ⟨Sx, cx, ex, v2, v5, v6, v7, v8, rfl⟩
        rw [List.length_map, List.take_length] at ex
        have c1 := cx.1
        walk_at "s"
        intro ph hph
        walk_at "s"
        refine Y.s_m1 ?_
        walk_at "s"
        refine Y.s_m1s ?_
        walk_at "s"
        have sh : Same Hx (upd Hx ph (.lst (ts.map Thing.v))) := Y.same_new hph (Same.refl _)
        have c2 := cx.same sh
        have c3 : CellsAt (upd Hx ph (.lst (ts.map Thing.v))) ph ts := ⟨upd_same, c2.2⟩
        have S5 := Sx.same sh
        have h40 := cx.2.2.2
        have h16 := cx.2.2.1
        have h0 : ts ≠ [] := fun z => by rw [z] at h16; exact absurd h16 (by decide)
        refine Y.s_joinL (SqL.of (sh _ _ ex)) ?_ ?_
        · have g := sum_le (l := ts.map Thing.text) (b := 24) fun s hs => by
            obtain ⟨t, ht, rfl⟩ := List.mem_map.mp hs
            exact (t.text_ok (cx.2.1 t ht)).1
          rw [List.length_map] at g ⊢
          have e : (Str.ofString "\n").length = 1 := by decide +kernel
          rw [e]
          omega
        have et : Txt.join (Str.ofString "\n") (ts.map Thing.text) = cellsText ts := rfl
        rw [et]
        walk_at "t"
        refine Y.fgt (fun H' => StAt K H' st ∧ CellsAt H' pc ts ∧ CellsAt H' ph ts) ⟨S5, c2, c3⟩ fun H5 ⟨S5, c2, c3⟩ => ?_
        walk_at "s"
        refine u_written c3 fun H6 s6 => ?_
        walk_at "s"
        refine u_same (.inl ⟨rfl, rfl⟩) fun H7 s7 => ?_
        walk_at "s"
        have c27 := (c2.same s6).same s7
        have c37 := (c3.same s6).same s7
        refine s_neCells c37.1 c27.1 c27.2.1 ?_
        walk_at "s"
        refine u_read c27.2.1 h16 h40 fun p8 us H8 s8 n8 c8 ed => ?_
        walk_at "s"
        refine u_same (sm_cells c8 (c27.same s8) ed) fun H9 s9 => ?_
        walk_at "s"
        have c29 := (c27.same s8).same s9
        have S9 := (((S5.same s6).same s7).same s8).same s9
        refine s_bm0 ?_
        walk_at "s"
        refine u_read c29.2.1 h16 h40 fun p9 vs H10 s10 n10 c10 _ => ?_
        refine s_bm0L (SqL.of c10.1) ?_
        refine ⟨p9, _, rfl, rfl, c10.1, ?_⟩
        walk_at "s"
        exact ⟨(S9.same s10).own c10.1 (ne_of_none S9.spec n10), _, _, _, _, _, _, _, rfl⟩
    · rintro σ H' ⟨_, v2, v3, v4, v5, v6, v7, v8, rfl⟩
      walk_at "s"
      exact q _
end
end G
namespace G
open PySem L2 C8
theorem find_map {α β : Type} (f : α → Str × β) (z : Str) : ∀ L : List α, (((L.map f).find? fun q => decide (q.1 = z)).map (·.2)) = ((L.find? fun q => decide ((f q).1 = z)).map fun q => (f q).2)
  | [] => rfl
  | a :: r => by
    rw [List.map_cons, List.find?_cons, List.find?_cons]
    cases decide ((f a).1 = z) with
    | true => rfl
    | false => exact find_map f z r
theorem limAt_of {K : PySem.W.Frag} {w : World} {d : Addr} {kvs : List (Str × V)} (D : Y.DictAt K w d kvs) (L : List (Str × List Int × Addr)) (e1 : kvs = L.map fun q => (q.1, V.ref q.2.2)) (e2 : limT = L.map fun q => (q.1, q.2.1)) (h : ∀ q ∈ L, ∀ H : Hp, SqT K H q.2.2 (q.2.1.map V.int)) : LimAt K w d kvs := by
  have g1 : ∀ z, Y.valZ kvs z = (L.find? fun q => decide (q.1 = z)).map fun q => V.ref q.2.2 := fun z => by
    unfold Y.valZ
    rw [e1]
    exact find_map (fun q => (q.1, V.ref q.2.2)) z L
  have g2 : ∀ z, limOf z = (L.find? fun q => decide (q.1 = z)).map fun q => q.2.1 := fun z => by
    unfold limOf
    rw [e2]
    exact find_map (fun q => (q.1, q.2.1)) z L
  refine ⟨D, fun z ls hz => ?_, fun z hz => ?_⟩
  · rw [g2] at hz
    rw [g1]
    cases e : L.find? fun q => decide (q.1 = z) with
    | none => rw [e] at hz; cases hz
    | some q =>
      rw [e] at hz
      cases hz
      exact ⟨_, rfl, h q (List.mem_of_find?_eq_some e)⟩
  · rw [g2] at hz
    rw [g1]
    cases e : L.find? fun q => decide (q.1 = z) with
    | none => rfl
    | some q => rw [e] at hz; cases hz
theorem def_of {K : PySem.W.Frag} {mg : Str → Option Value} {x : Str} {st : Stmt} {f : Addr} {fd : FuncData} (F : FunD K x x (fnArgs st) (fnBody st) (fnScope st) [] [] f fd) (g : mg x = some (.ref f)) : Def K mg x st f fd := by
  obtain ⟨⟨oc, od, dV, kV, doc, pm, an, cdv, ct, osl, h1, h2, h3, _, _⟩, kp⟩ := F
  exact ⟨⟨oc, od, dV, kV, doc, pm, an, cdv, ct, osl, h1, h2, h3⟩, g, kp⟩
theorem facts {P : Program} {w : World} {K : PySem.W.Frag} {h : Heap} {mg : Str → Option Value} {f : Addr} (X : K.In h) (G : h.Ns mainGlobals mg) (hlaw : mg ("law" : Str) = some (.ref f)) (cE : SaysE hfa hfn htab hex w K) :
    ∃ fd : FuncData, (∀ (s : Shared) (v : Value), BindsTo s fd ⟨[v], []⟩ [("_law_script", v)]) ∧ ∀ base : Heap, K.In base → base.Ns mainGlobals mg → FnOk P w K mg base C8.CX0 40 f fd ["_law_script"] (spLaw K) := by
  have c := cE.t.d
  have ce := cE.ex
  obtain ⟨t_LAST_NUMBER, k_LAST_NUMBER⟩ := He.int_ok X G (c.fact 24 (f := .int "LAST_NUMBER" 999) rfl)
  have v_LAST_NUMBER : IntG mg "LAST_NUMBER" 999 := ⟨_, k_LAST_NUMBER, t_LAST_NUMBER, rfl⟩
  obtain ⟨t_FEWEST_CELLS, k_FEWEST_CELLS⟩ := He.int_ok X G (c.fact 26 (f := .int "FEWEST_CELLS" 16) rfl)
  have v_FEWEST_CELLS : IntG mg "FEWEST_CELLS" 16 := ⟨_, k_FEWEST_CELLS, t_FEWEST_CELLS, rfl⟩
  obtain ⟨t_MOST_CELLS, k_MOST_CELLS⟩ := He.int_ok X G (c.fact 27 (f := .int "MOST_CELLS" 40) rfl)
  have v_MOST_CELLS : IntG mg "MOST_CELLS" 40 := ⟨_, k_MOST_CELLS, t_MOST_CELLS, rfl⟩
  obtain ⟨t_FIGURES, k_FIGURES⟩ := He.str_ok X G (c.fact 28 (f := .str "FIGURES" "0123456789") rfl)
  have v_FIGURES : StrG mg "FIGURES" "0123456789" := ⟨_, k_FIGURES, t_FIGURES, rfl⟩
  obtain ⟨t_MOST_FIGURES, k_MOST_FIGURES⟩ := He.int_ok X G (c.fact 29 (f := .int "MOST_FIGURES" 3) rfl)
  have v_MOST_FIGURES : IntG mg "MOST_FIGURES" 3 := ⟨_, k_MOST_FIGURES, t_MOST_FIGURES, rfl⟩
  have q_LIMITS := dictAt_of (x := "LIMITS") (kvs := ([("put", .adr (valAt "LIMITS" "put")), ("add", .adr (valAt "LIMITS" "add")), ("less", .adr (valAt "LIMITS" "less")), ("load", .adr (valAt "LIMITS" "load")), ("store", .adr (valAt "LIMITS" "store")), ("zero", .adr (valAt "LIMITS" "zero")), ("go", .adr (valAt "LIMITS" "go")), ("call", .adr (valAt "LIMITS" "call")), ("say", .adr (valAt "LIMITS" "say")), ("hear", .adr (valAt "LIMITS" "hear")), ("which", .adr (valAt "LIMITS" "which")), ("room", .adr (valAt "LIMITS" "room")), ("enter", .adr (valAt "LIMITS" "enter")), ("alarm", .adr (valAt "LIMITS" "alarm")), ("stop", .adr (valAt "LIMITS" "stop"))] : List (PySem.Str × He.Dv))) (cE.t.tab 0 (t := (fun K => He.ga K "LIMITS", _)) rfl) (ex_at 0 ce rfl) (ex_at 1 ce rfl)
  have v_LIMITS : ∃ u, mg "LIMITS" = some u ∧ RelV (.ref (He.ga K "LIMITS")) u := ⟨_, He.glo_ok X G (c.fact 25 (f := .glo "LIMITS") rfl), rfl⟩
  have t_LIMITS_put := fun H => tupP_ok (K := K) (p := valAt "LIMITS" "put") (vs := [.int 3, .int 999]) (ex_at 2 ce rfl) H
  have t_LIMITS_add := fun H => tupP_ok (K := K) (p := valAt "LIMITS" "add") (vs := [.int 3, .int 3, .int 3]) (ex_at 3 ce rfl) H
  have t_LIMITS_less := fun H => tupP_ok (K := K) (p := valAt "LIMITS" "less") (vs := [.int 3, .int 3, .int 3]) (ex_at 4 ce rfl) H
  have t_LIMITS_load := fun H => tupP_ok (K := K) (p := valAt "LIMITS" "load") (vs := [.int 3, .int 3]) (ex_at 5 ce rfl) H
  have t_LIMITS_store := fun H => tupP_ok (K := K) (p := valAt "LIMITS" "store") (vs := [.int 3, .int 3]) (ex_at 6 ce rfl) H
  have t_LIMITS_zero := fun H => tupP_ok (K := K) (p := valAt "LIMITS" "zero") (vs := [.int 3, .int 999]) (ex_at 7 ce rfl) H
  have t_LIMITS_go := fun H => tupP_ok (K := K) (p := valAt "LIMITS" "go") (vs := [.int 999]) (ex_at 8 ce rfl) H
  have t_LIMITS_call := fun H => tupP_ok (K := K) (p := valAt "LIMITS" "call") (vs := [.int 999]) (ex_at 9 ce rfl) H
  have t_LIMITS_say := fun H => tupP_ok (K := K) (p := valAt "LIMITS" "say") (vs := [.int 3]) (ex_at 10 ce rfl) H
  have t_LIMITS_hear := fun H => tupP_ok (K := K) (p := valAt "LIMITS" "hear") (vs := [.int 3]) (ex_at 11 ce rfl) H
  have t_LIMITS_which := fun H => tupP_ok (K := K) (p := valAt "LIMITS" "which") (vs := [.int 3]) (ex_at 12 ce rfl) H
  have t_LIMITS_room := fun H => tupP_ok (K := K) (p := valAt "LIMITS" "room") (vs := [.int 3]) (ex_at 13 ce rfl) H
  have t_LIMITS_enter := fun H => tupP_ok (K := K) (p := valAt "LIMITS" "enter") (vs := [.int 1]) (ex_at 14 ce rfl) H
  have t_LIMITS_alarm := fun H => tupP_ok (K := K) (p := valAt "LIMITS" "alarm") (vs := [.int 3]) (ex_at 15 ce rfl) H
  have t_LIMITS_stop := fun H => tupP_ok (K := K) (p := valAt "LIMITS" "stop") (vs := []) (ex_at 16 ce rfl) H
  obtain ⟨fd_is_number, F_is_number⟩ := c.def_ 0 (d := d_is_number) rfl
  have g_is_number := He.glo_ok X G (c.fact 3 (f := .glo "is_number") rfl)
  have D_is_number := def_of (x := "is_number") (st := top 7) F_is_number g_is_number
  have b_is_number : Binds K fd_is_number ["value", "least", "most"] [] := F_is_number.bindsN fun _ _ _ _ _ _ us hl => match us, hl with | [_, _, _], _ => rfl
  obtain ⟨fd_is_row, F_is_row⟩ := c.def_ 1 (d := d_is_row) rfl
  have g_is_row := He.glo_ok X G (c.fact 4 (f := .glo "is_row") rfl)
  have D_is_row := def_of (x := "is_row") (st := top 8) F_is_row g_is_row
  have b_is_row : Binds K fd_is_row ["value"] [] := F_is_row.bindsN fun _ _ _ _ _ _ us hl => match us, hl with | [_], _ => rfl
  obtain ⟨fd_is_thing, F_is_thing⟩ := c.def_ 2 (d := d_is_thing) rfl
  have g_is_thing := He.glo_ok X G (c.fact 5 (f := .glo "is_thing") rfl)
  have D_is_thing := def_of (x := "is_thing") (st := top 9) F_is_thing g_is_thing
  have b_is_thing : Binds K fd_is_thing ["value"] [] := F_is_thing.bindsN fun _ _ _ _ _ _ us hl => match us, hl with | [_], _ => rfl
  obtain ⟨fd_check_cells, F_check_cells⟩ := c.def_ 3 (d := d_check_cells) rfl
  have g_check_cells := He.glo_ok X G (c.fact 6 (f := .glo "check_cells") rfl)
  have D_check_cells := def_of (x := "check_cells") (st := top 13) F_check_cells g_check_cells
  have b_check_cells : Binds K fd_check_cells ["cells"] [] := F_check_cells.bindsN fun _ _ _ _ _ _ us hl => match us, hl with | [_], _ => rfl
  obtain ⟨fd_written, F_written⟩ := c.def_ 4 (d := d_written) rfl
  have g_written := He.glo_ok X G (c.fact 7 (f := .glo "written") rfl)
  have D_written := def_of (x := "written") (st := top 17) F_written g_written
  have b_written : Binds K fd_written ["cells"] [] := F_written.bindsN fun _ _ _ _ _ _ us hl => match us, hl with | [_], _ => rfl
  obtain ⟨fd_written_thing, F_written_thing⟩ := c.def_ 5 (d := d_written_thing) rfl
  have g_written_thing := He.glo_ok X G (c.fact 8 (f := .glo "written_thing") rfl)
  have D_written_thing := def_of (x := "written_thing") (st := top 18) F_written_thing g_written_thing
  have b_written_thing : Binds K fd_written_thing ["thing"] [] := F_written_thing.bindsN fun _ _ _ _ _ _ us hl => match us, hl with | [_], _ => rfl
  obtain ⟨fd_read, F_read⟩ := c.def_ 6 (d := d_read) rfl
  have g_read := He.glo_ok X G (c.fact 9 (f := .glo "read") rfl)
  have D_read := def_of (x := "read") (st := top 19) F_read g_read
  have b_read : Binds K fd_read ["text"] [] := F_read.bindsN fun _ _ _ _ _ _ us hl => match us, hl with | [_], _ => rfl
  obtain ⟨fd_is_written, F_is_written⟩ := c.def_ 7 (d := d_is_written) rfl
  have g_is_written := He.glo_ok X G (c.fact 10 (f := .glo "is_written") rfl)
  have D_is_written := def_of (x := "is_written") (st := top 20) F_is_written g_is_written
  have b_is_written : Binds K fd_is_written ["parts"] [] := F_is_written.bindsN fun _ _ _ _ _ _ us hl => match us, hl with | [_], _ => rfl
  obtain ⟨fd_is_figures, F_is_figures⟩ := c.def_ 8 (d := d_is_figures) rfl
  have g_is_figures := He.glo_ok X G (c.fact 11 (f := .glo "is_figures") rfl)
  have D_is_figures := def_of (x := "is_figures") (st := top 21) F_is_figures g_is_figures
  have b_is_figures : Binds K fd_is_figures ["part"] [] := F_is_figures.bindsN fun _ _ _ _ _ _ us hl => match us, hl with | [_], _ => rfl
  obtain ⟨fd_thing_of, F_thing_of⟩ := c.def_ 9 (d := d_thing_of) rfl
  have g_thing_of := He.glo_ok X G (c.fact 12 (f := .glo "thing_of") rfl)
  have D_thing_of := def_of (x := "thing_of") (st := top 22) F_thing_of g_thing_of
  have b_thing_of : Binds K fd_thing_of ["parts"] [] := F_thing_of.bindsN fun _ _ _ _ _ _ us hl => match us, hl with | [_], _ => rfl
  obtain ⟨fd__law_start, F__law_start⟩ := c.def_ 10 (d := d__law_start) rfl
  have g__law_start := He.glo_ok X G (c.fact 13 (f := .glo "_law_start") rfl)
  have D__law_start := def_of (x := "_law_start") (st := top 24) F__law_start g__law_start
  have b__law_start : Binds K fd__law_start ["_law_script"] [] := F__law_start.bindsN fun _ _ _ _ _ _ us hl => match us, hl with | [_], _ => rfl
  obtain ⟨fd__law_drawn, F__law_drawn⟩ := c.def_ 11 (d := d__law_drawn) rfl
  have g__law_drawn := He.glo_ok X G (c.fact 14 (f := .glo "_law_drawn") rfl)
  have D__law_drawn := def_of (x := "_law_drawn") (st := top 25) F__law_drawn g__law_drawn
  have b__law_drawn : Binds K fd__law_drawn ["_law_state", "_law_many"] [] := F__law_drawn.bindsN fun _ _ _ _ _ _ us hl => match us, hl with | [_, _], _ => rfl
  obtain ⟨fd__law_same, F__law_same⟩ := c.def_ 12 (d := d__law_same) rfl
  have g__law_same := He.glo_ok X G (c.fact 15 (f := .glo "_law_same") rfl)
  have D__law_same := def_of (x := "_law_same") (st := top 26) F__law_same g__law_same
  have b__law_same : Binds K fd__law_same ["_law_found", "_law_due"] [] := F__law_same.bindsN fun _ _ _ _ _ _ us hl => match us, hl with | [_, _], _ => rfl
  obtain ⟨fd__law_number, F__law_number⟩ := c.def_ 13 (d := d__law_number) rfl
  have g__law_number := He.glo_ok X G (c.fact 16 (f := .glo "_law_number") rfl)
  have D__law_number := def_of (x := "_law_number") (st := top 27) F__law_number g__law_number
  have b__law_number : Binds K fd__law_number ["_law_state"] [] := F__law_number.bindsN fun _ _ _ _ _ _ us hl => match us, hl with | [_], _ => rfl
  obtain ⟨fd__law_row, F__law_row⟩ := c.def_ 14 (d := d__law_row) rfl
  have g__law_row := He.glo_ok X G (c.fact 17 (f := .glo "_law_row") rfl)
  have D__law_row := def_of (x := "_law_row") (st := top 28) F__law_row g__law_row
  have b__law_row : Binds K fd__law_row ["_law_state", "_law_low"] [] := F__law_row.bindsN fun _ _ _ _ _ _ us hl => match us, hl with | [_, _], _ => rfl
  obtain ⟨fd__law_any, F__law_any⟩ := c.def_ 15 (d := d__law_any) rfl
  have g__law_any := He.glo_ok X G (c.fact 18 (f := .glo "_law_any") rfl)
  have D__law_any := def_of (x := "_law_any") (st := top 29) F__law_any g__law_any
  have b__law_any : Binds K fd__law_any ["_law_state"] [] := F__law_any.bindsN fun _ _ _ _ _ _ us hl => match us, hl with | [_], _ => rfl
  obtain ⟨fd__law_ruler, F__law_ruler⟩ := c.def_ 16 (d := d__law_ruler) rfl
  have g__law_ruler := He.glo_ok X G (c.fact 19 (f := .glo "_law_ruler") rfl)
  have D__law_ruler := def_of (x := "_law_ruler") (st := top 30) F__law_ruler g__law_ruler
  have b__law_ruler : Binds K fd__law_ruler ["_law_state"] [] := F__law_ruler.bindsN fun _ _ _ _ _ _ us hl => match us, hl with | [_], _ => rfl
  obtain ⟨fd__law_cells, F__law_cells⟩ := c.def_ 17 (d := d__law_cells) rfl
  have g__law_cells := He.glo_ok X G (c.fact 20 (f := .glo "_law_cells") rfl)
  have D__law_cells := def_of (x := "_law_cells") (st := top 31) F__law_cells g__law_cells
  have b__law_cells : Binds K fd__law_cells ["_law_state"] [] := F__law_cells.bindsN fun _ _ _ _ _ _ us hl => match us, hl with | [_], _ => rfl
  obtain ⟨fd__law_kind, F__law_kind⟩ := c.def_ 18 (d := d__law_kind) rfl
  have g__law_kind := He.glo_ok X G (c.fact 21 (f := .glo "_law_kind") rfl)
  have D__law_kind := def_of (x := "_law_kind") (st := top 32) F__law_kind g__law_kind
  have b__law_kind : Binds K fd__law_kind ["_law_state"] [] := F__law_kind.bindsN fun _ _ _ _ _ _ us hl => match us, hl with | [_], _ => rfl
  obtain ⟨fd__law_ear, F__law_ear⟩ := c.def_ 19 (d := d__law_ear) rfl
  have g__law_ear := He.glo_ok X G (c.fact 22 (f := .glo "_law_ear") rfl)
  have D__law_ear := def_of (x := "_law_ear") (st := top 33) F__law_ear g__law_ear
  have b__law_ear : Binds K fd__law_ear ["_law_state"] [] := F__law_ear.bindsN fun _ _ _ _ _ _ us hl => match us, hl with | [_], _ => rfl
  obtain ⟨fd_law, F_law⟩ := c.def_ 20 (d := d_law) rfl
  have g_law := He.glo_ok X G (c.fact 23 (f := .glo "law") rfl)
  have D_law := def_of (x := "law") (st := top 34) F_law g_law
  have b_law : Binds K fd_law ["_law_script"] [] := F_law.bindsN fun _ _ _ _ _ _ us hl => match us, hl with | [_], _ => rfl
  have T : Txt K mg := ⟨He.free_ok X G (c.fact 30 (f := .free "all") rfl), He.free_ok X G (c.fact 31 (f := .free "any") rfl), He.free_ok X G (c.fact 32 (f := .free "bool") rfl), He.free_ok X G (c.fact 33 (f := .free "enumerate") rfl), He.free_ok X G (c.fact 34 (f := .free "int") rfl), He.free_ok X G (c.fact 35 (f := .free "isinstance") rfl), He.free_ok X G (c.fact 36 (f := .free "len") rfl), He.free_ok X G (c.fact 37 (f := .free "list") rfl), He.free_ok X G (c.fact 38 (f := .free "range") rfl), He.free_ok X G (c.fact 39 (f := .free "str") rfl), He.free_ok X G (c.fact 40 (f := .free "tuple") rfl), He.free_ok X G (c.fact 41 (f := .free "zip") rfl)⟩
  have e := hlaw.symm.trans g_law
  cases e
  have b := FunD.bindsA (ps := ["_law_script"]) F_law fun _ _ _ _ _ _ us hl => match us, hl with | [_], _ => rfl
  refine ⟨fd_law, fun s v => b s [v] rfl, fun base _ _ => ?_⟩
  have L : LimG K w mg := ⟨_, _, v_LIMITS, limAt_of q_LIMITS [("put", [3, 999], valAt "LIMITS" "put" K), ("add", [3, 3, 3], valAt "LIMITS" "add" K), ("less", [3, 3, 3], valAt "LIMITS" "less" K), ("load", [3, 3], valAt "LIMITS" "load" K), ("store", [3, 3], valAt "LIMITS" "store" K), ("zero", [3, 999], valAt "LIMITS" "zero" K), ("go", [999], valAt "LIMITS" "go" K), ("call", [999], valAt "LIMITS" "call" K), ("say", [3], valAt "LIMITS" "say" K), ("hear", [3], valAt "LIMITS" "hear" K), ("which", [3], valAt "LIMITS" "which" K), ("room", [3], valAt "LIMITS" "room" K), ("enter", [1], valAt "LIMITS" "enter" K), ("alarm", [3], valAt "LIMITS" "alarm" K), ("stop", [], valAt "LIMITS" "stop" K)] rfl rfl (List.forall_mem_cons.mpr ⟨t_LIMITS_put, List.forall_mem_cons.mpr ⟨t_LIMITS_add, List.forall_mem_cons.mpr ⟨t_LIMITS_less, List.forall_mem_cons.mpr ⟨t_LIMITS_load, List.forall_mem_cons.mpr ⟨t_LIMITS_store, List.forall_mem_cons.mpr ⟨t_LIMITS_zero, List.forall_mem_cons.mpr ⟨t_LIMITS_go, List.forall_mem_cons.mpr ⟨t_LIMITS_call, List.forall_mem_cons.mpr ⟨t_LIMITS_say, List.forall_mem_cons.mpr ⟨t_LIMITS_hear, List.forall_mem_cons.mpr ⟨t_LIMITS_which, List.forall_mem_cons.mpr ⟨t_LIMITS_room, List.forall_mem_cons.mpr ⟨t_LIMITS_enter, List.forall_mem_cons.mpr ⟨t_LIMITS_alarm, List.forall_mem_cons.mpr ⟨t_LIMITS_stop, fun _ m => nomatch m⟩⟩⟩⟩⟩⟩⟩⟩⟩⟩⟩⟩⟩⟩⟩)⟩
  have c__law_drawn := ok__law_drawn (P := P) (w := w) (base := base) D__law_drawn b__law_drawn T
  have c__law_start := ok__law_start (P := P) (w := w) (base := base) D__law_start b__law_start T
  have c__law_same := ok__law_same (P := P) (w := w) (base := base) D__law_same b__law_same T
  have c__law_number := ok__law_number (P := P) (w := w) (base := base) D__law_number b__law_number T c__law_drawn
  have c__law_row := ok__law_row (P := P) (w := w) (base := base) D__law_row b__law_row T c__law_drawn c__law_number
  have c__law_any := ok__law_any (P := P) (w := w) (base := base) D__law_any b__law_any T c__law_drawn c__law_number c__law_row
  have c__law_ruler := ok__law_ruler (P := P) (w := w) (base := base) D__law_ruler b__law_ruler T c__law_drawn c__law_number c__law_row
  have c__law_cells := ok__law_cells (P := P) (w := w) (base := base) D__law_cells b__law_cells T c__law_drawn c__law_any c__law_ruler
  have c_is_number := ok_is_number (P := P) (w := w) (base := base) D_is_number b_is_number T
  have c_is_row := ok_is_row (P := P) (w := w) (base := base) D_is_row b_is_row T L c_is_number
  have c_is_thing := ok_is_thing (P := P) (w := w) (base := base) D_is_thing b_is_thing T v_LAST_NUMBER c_is_number c_is_row
  have c_check_cells := ok_check_cells (P := P) (w := w) (base := base) D_check_cells b_check_cells T v_MOST_CELLS v_FEWEST_CELLS c_is_thing
  have c_written_thing := ok_written_thing (P := P) (w := w) (base := base) D_written_thing b_written_thing T
  have c_written := ok_written (P := P) (w := w) (base := base) D_written b_written T c_check_cells c_written_thing
  have c_is_figures := ok_is_figures (P := P) (w := w) (base := base) D_is_figures b_is_figures T v_MOST_FIGURES v_FIGURES
  have c_is_written := ok_is_written (P := P) (w := w) (base := base) D_is_written b_is_written T L c_is_figures
  have c_thing_of := ok_thing_of (P := P) (w := w) (base := base) D_thing_of b_thing_of T L
  have c_read := ok_read (P := P) (w := w) (base := base) D_read b_read T c_is_written c_thing_of c_check_cells
  exact ok_law (P := P) (w := w) (base := base) D_law T c__law_start c__law_cells (c__law_same 3) c_written c_read
end G
open PySem PySem.W PySem.Calls PyProof.Rows
set_option maxHeartbeats 0 in
theorem PySem.Challenge.cw_guestworlds_k15_written_and_read_holds : PySem.Challenge.rw_guestworlds_k15_written_and_read.Holds := by
  w_on; o_law
  refine HandSHeadRun.head_any (r := OpenLaw.row PySem.Challenge.rw_guestworlds_k15_written_and_read) (q := view (OpenLaw.row PySem.Challenge.rw_guestworlds_k15_written_and_read).prog [34]) (H := G.hk) (ob := G.ob) (M := 8000) (loose := G.loose) (d := HandSHeadRun.topDef (OpenLaw.row PySem.Challenge.rw_guestworlds_k15_written_and_read).prog 34) (kwd := []) G.ob_eq
    (by kernel_rfl) (fun s => by kernel_rfl) G.run (by kernel_rfl) (by kernel_rfl) (by kernel_rfl) (by rfl) (by first | assumption | decide +kernel) (by decide +kernel) ⟨rfl, rfl, rfl, rfl, rfl, by decide +kernel⟩ ?hw ?hc
  case hw => w_witness2
  case hc =>
    refine L2.walk_ofE (l := PySem.Challenge.rw_guestworlds_k15_written_and_read) (n := 63) (k := 40) (x := "_law_script") (CX := C8.CX0) rfl (by decide) (by kernel_rfl) ⟨rfl, by decide, by decide⟩ ?F (fun _ _ _ _ z => z)
    intro w mg fa h Y N hmg0
    obtain ⟨K, KX, c⟩ := Y
    have hmg : mg ("law" : PySem.Str) = some (.ref fa) := by
      have e : (HandSHeadRun.topDef (OpenLaw.row PySem.Challenge.rw_guestworlds_k15_written_and_read).prog 34).name = ("law" : PySem.Str) := by kernel_rfl
      rw [← e]
      exact hmg0
    obtain ⟨fd, hb, hF⟩ := G.facts (P := (PySem.Challenge.rw_guestworlds_k15_written_and_read).prog) (w := w) KX N hmg c
    refine ⟨K, fd, G.spLaw K, KX, hb, fun H a ns hl hO hS => ⟨a, ns, rfl, ?_, hl, fun _ => rfl⟩, hF⟩
    rcases hS with (h1 | ⟨o, h1⟩) | h1
    · rcases hO a with h2 | ⟨o, ys, h2⟩
      · rw [h1] at h2; cases h2
      · rw [h1] at h2; cases h2
    · exact .inl ⟨o, h1⟩
    · exact .inr fun _ => .inr h1
