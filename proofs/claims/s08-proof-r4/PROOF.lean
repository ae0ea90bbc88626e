import PyProof.Rows.All
import Wide.All
import OpenK.AllK
import Wide.FinOn
import KE.KStateDown
import Lean
import Open.SpecLaws
import KE.OsHead
import KE.OsGo
import HandS.ForMost
import HandS.ForSpec
import HandS.Head0
import HandS.Head1
import HandS.Head2
import HandS.Head3
import HandS.Head4
import HandS.HeadEnd
import HandS.HeadHook1
import HandS.HeadHook2
import HandS.HeadHook3
import HandS.SortKw
import HandS.Lambda
import HandS.Rev
import HandS.SetFor
import HandS.Walk
import HandS.Flow
import HandS.Style
import HandS.Zip
import HandS.Conv
import HandS.SetKeys
import KE.KDictKeyed
import HandS.Codes
import HandS.RevTup
import PyProof.ListNew
import PySem.Challenge.RW_laidout_s08_folds
set_option Elab.async false
set_option linter.all false
set_option maxRecDepth 100000
set_option maxHeartbeats 4000000
/-! A written dict whose keys are tuples of ints and whose values are texts: d.get(k) -/
namespace La
open PySem PySem.Spec PyProof.Rows L2
def intsB : List Value → List Int → Bool
  | [], [] => true
  | .int i _ :: r, n :: s => decide (i = n) && intsB r s
  | _, _ => false
def hashT (ns : List Int) : Int := reduceHash (Builtin.Tuple.tupleHashOf (ns.map hashInt))
def keyB (K : PySem.W.Frag) (v : Value) (ns : List Int) : Bool := match v with
  | .ref a => (match K.lookup a with
    | some o => decide (o.cls = .type "tuple") && (match o.data with
      | .seq its _ => intsB its.toList ns
      | _ => false)
    | none => false)
  | _ => false
def entB (K : PySem.W.Frag) (e : DictEntry) (x : List Int × Str) : Bool := decide (e.hash = hashT x.1) && (keyB K e.key x.1 && (match e.val with
  | .str y _ => decide (y = x.2)
  | _ => false))
def entsB (K : PySem.W.Frag) : List DictEntry → List (List Int × Str) → Bool
  | [], [] => true
  | e :: r, x :: s => entB K e x && entsB K r s
  | _, _ => false
def tabB (K : PySem.W.Frag) (d : Addr) (tab : List (List Int × Str)) : Bool := !(d == sysModules) && (match K.lookup d with
  | some o => decide (o.cls = .type "dict") && (o.dict.isNone && (o.slots.isEmpty && (match o.data with
    | .dict es _ => entsB K es.toList tab
    | _ => false)))
  | none => false)
section
variable {prog : Program} {w : World} {K : PySem.W.Frag}
theorem ints_ok : ∀ {vs : List Value} {ns : List Int}, intsB vs ns = true → ItemsAre (intKind prog w) ns vs
  | [], [], _ => .nil
  | [], n :: s, h => by cases h
  | v :: r, [], h => by cases v <;> cases h
  | v :: r, n :: s, h => by
    cases v with
    | int i t =>
      obtain ⟨h1, h2⟩ := Bool.and_eq_true_iff.mp (show (decide (i = n) && intsB r s) = true from h)
      have e := of_decide_eq_true h1
      subst e
      refine .cons ?_ (ints_ok h2)
      show Value.isInt i (.int i t) = true
      simp [Value.isInt]
    | _ => cases h
theorem key_ok {v : Value} {ns : List Int} (hk : keyB K v ns = true) : ∃ a, v = .ref a ∧ ∀ h : Heap, K.In h → IsTupleKey (intKind prog w) h ns a := by
  cases v with
  | ref a =>
    unfold keyB at hk
    cases q : K.lookup a with
    | none =>
      simp only [q] at hk
      cases hk
    | some o =>
      simp only [q] at hk
      obtain ⟨h1, h2⟩ := Bool.and_eq_true_iff.mp hk
      cases dq : o.data with
      | seq its n =>
        simp only [dq] at h2
        exact ⟨a, rfl, fun h X => ⟨o, its, n, X a o q, of_decide_eq_true h1, dq, ints_ok h2⟩⟩
      | _ =>
        simp only [dq] at h2
        cases h2
  | _ => cases hk
theorem ents_ok : ∀ {es : List DictEntry} {tab : List (List Int × Str)}, entsB K es tab = true → ∃ xs : List (List Int × Addr × Value), es = xs.map (entryOfKey (tupleKind (intKind prog w))) ∧
    (∀ h : Heap, K.In h → ∀ x ∈ xs, (tupleKind (intKind prog w)).is h x.1 x.2.1) ∧ xs.map (·.1) = tab.map (·.1) ∧ ∀ ns, (match tab.lookup ns with
      | some z => ∃ a t, atKey xs ns = some (a, .str z t)
      | none => atKey xs ns = none)
  | [], [], _ => ⟨[], rfl, fun _ _ x hx => absurd hx (by simp), rfl, fun ns => rfl⟩
  | [], _ :: _, h => by cases h
  | _ :: _, [], h => by cases h
  | e :: r, x :: s, h => by
    obtain ⟨h1, h2⟩ := Bool.and_eq_true_iff.mp (show (entB K e x && entsB K r s) = true from h)
    obtain ⟨xs, e1, e2, e3, e4⟩ := ents_ok h2
    obtain ⟨g1, g2⟩ := Bool.and_eq_true_iff.mp h1
    obtain ⟨g3, g4⟩ := Bool.and_eq_true_iff.mp g2
    obtain ⟨eh, ek, ev⟩ := e
    obtain ⟨a, ea, ha⟩ := key_ok (prog := prog) (w := w) g3
    cases ev with
    | str y t =>
      have ey : y = x.2 := of_decide_eq_true g4
      subst ey
      have ea' : ek = .ref a := ea
      subst ea'
      have eh' : eh = hashT x.1 := of_decide_eq_true g1
      subst eh'
      refine ⟨(x.1, a, .str x.2 t) :: xs, ?_, ?_, ?_, ?_⟩
      · rw [List.map_cons, ← e1]
        rfl
      · intro hp X z hz
        rcases List.mem_cons.mp hz with e0 | m
        · rw [e0]
          exact ha hp X
        · exact e2 hp X z m
      · rw [List.map_cons, List.map_cons, e3]
      · intro ns
        have q := e4 ns
        by_cases c : ns = x.1
        · subst c
          rw [show ((x :: s).lookup x.1) = some x.2 from by
            obtain ⟨x1, x2⟩ := x
            simp [List.lookup]]
          exact ⟨a, t, by simp [atKey]⟩
        · have c1 : (ns == x.1) = false := by simpa using c
          rw [show ((x :: s).lookup ns) = s.lookup ns from by
            obtain ⟨x1, x2⟩ := x
            simp only [List.lookup]
            rw [show (ns == x1) = false from c1]]
          have c2 : atKey ((x.1, a, Value.str x.2 t) :: xs) ns = atKey xs ns := by
            unfold atKey
            rw [List.find?_cons]
            rw [show (decide (x.1 = ns)) = false from decide_eq_false fun e0 => c e0.symm]
          rw [c2]
          exact q
    | _ => cases g4
theorem tab_ok {d : Addr} {tab : List (List Int × Str)} (h : tabB K d tab = true) (nd : (tab.map (·.1)).Nodup) : (d == sysModules) = false ∧ (∃ o, K.lookup d = some o ∧ o.cls = .type "dict" ∧ o.dict = none) ∧
    ∀ hp : Heap, K.In hp → ∃ xs : List (List Int × Addr × Value), hp.DictOfH (tupleKind (intKind prog w)) d xs ∧ ∀ ns, (match tab.lookup ns with
      | some z => ∃ a t, atKey xs ns = some (a, .str z t)
      | none => atKey xs ns = none) := by
  obtain ⟨h1, h2⟩ := Bool.and_eq_true_iff.mp h
  refine ⟨by simpa using h1, ?_⟩
  cases q : K.lookup d with
  | none =>
    simp only [q] at h2
    cases h2
  | some o =>
    simp only [q] at h2
    obtain ⟨g1, g2⟩ := Bool.and_eq_true_iff.mp h2
    obtain ⟨g3, g4⟩ := Bool.and_eq_true_iff.mp g2
    obtain ⟨g5, g6⟩ := Bool.and_eq_true_iff.mp g4
    have ex : o.ExactDict := ⟨of_decide_eq_true g1, by simpa using g3, by simpa using g5⟩
    refine ⟨⟨o, rfl, ex.1, ex.2.1⟩, fun hp X => ?_⟩
    cases dq : o.data with
    | dict es ep =>
      simp only [dq] at g6
      obtain ⟨xs, e1, e2, e3, e4⟩ := ents_ok (prog := prog) (w := w) g6
      exact ⟨xs, ⟨o, es, ep, X d o q, ex, dq, e1, e2 hp X, by rw [e3]; exact nd⟩, e4⟩
    | _ =>
      simp only [dq] at g6
      cases g6
end
/-! the rule -/
def tBMK (K : PySem.W.Frag) (T : String) (r : V → List V → Hp → VK → Prop) (to : TE) (t : TA) : TE := fun σ H Q => to σ H fun x H1 => (∃ p o, x = .ref p ∧ K.lookup p = some o ∧ o.cls = .type T ∧ o.dict = none) ∧ t σ H1 fun xs H2 => r x xs H2 Q
section
variable {X : Cx} {o e : Expr} {es : List Expr} {to : TE} {t : TA} {name : Str} {apos cpos : Pos} {T id : String} {r : V → List V → Hp → VK → Prop}
theorem pe_bmK (pa : PlainAttrs T) (slot : Slot T name id) (hty : typeOf (.builtin id) = pure (.type "method_descriptor")) (hm : MtR X id r) (ho : PE X o to) (ha : PA X (e :: es) t)
    (hbase : attributeBase o name X.env (eval o X.env) = eval o X.env := by rfl)
    (hfew : ((backTo cpos (starEach (e :: es) X.env)).all (fun x => !x.1) && (backToKw cpos (keywordEach [] X.env)).all (fun x => x.1.isSome)
      && decide ((e :: es).length + ([] : List Keyword).length + (if ([] : List Keyword).isEmpty then 0 else 1) < 30)) = true := by rfl)
    (hline : (apos.endLine == cpos.line) = true := by rfl) (hs : starEach (e :: es) X.env = (false, eval e X.env) :: starEach es X.env := by rfl) (hplain : (backTo cpos (starEach es X.env)).any (·.1) = false := by rfl) :
    PE X (.Call (.Attribute o name apos) (e :: es) [] cpos) (tBMK X.K T r to t) := by
  refine ⟨fun pins s σ H Q I h => ?_⟩
  refine wpAny_Call_method_late hbase hfew hline rfl (thn (ho.run pins s σ H _ I h) fun v s1 ⟨x, H1, I1, r1, ty, q1⟩ => ?_)
  obtain ⟨p, ob, rfl, hk, hc, hd⟩ := ty
  cases r1
  refine ⟨T, id, pa, slot, hty, ⟨ob, I1.kIn p ob hk, hc⟩, fun a e => by cases e; exact ⟨ob, I1.kIn p ob hk, hd⟩, ?_⟩
  have hA := ha.run cpos pins s1 σ H1 _ I1 q1
  rw [hs] at hA ⊢
  refine Calls.callWith_builtin (by show (false || (backTo cpos (starEach es X.env)).any (·.1)) = false; rw [hplain] <;> rfl) (Calls.evalArgs_plain ?_)
  exact thn hA fun us s2 ⟨vs, H2, I2, r2, q2⟩ => hm pins s2 σ H2 (.ref p) vs _ us Q I2 rfl r2 q2
/-- d.get(k): the table's text, or None -/
def rGetT (K : PySem.W.Frag) : V → List V → Hp → VK → Prop := fun x xs H Q => ∃ (d a : Addr) (ns : List Int) (tab : List (List Int × Str)), x = .ref d ∧ xs = [.ref a] ∧ tabB K d tab = true ∧ (tab.map (·.1)).Nodup ∧ SqT K H a (ns.map V.int) ∧
  Q (match tab.lookup ns with
    | some z => .str z
    | none => .non) H
theorem items_ints {prog : Program} {w : World} : ∀ {ns : List Int} {us : List Value}, Vals (ns.map V.int) us → ItemsAre (intKind prog w) ns us
  | [], us, h => by
    cases h
    exact .nil
  | n :: s, us, h => by
    cases h with
    | cons h1 h2 =>
      obtain ⟨t, rfl⟩ := h1
      refine .cons ?_ (items_ints h2)
      show Value.isInt n (.int n t) = true
      simp [Value.isInt]
theorem mt_getT (hu : X.A.units + 1 < cLine) : MtR X "dict.get" (rGetT X.K) := by
  intro pins s σ H x xs v us Q I rx rxs h
  obtain ⟨d, a, ns, tab, rfl, rfl, ht, nd, hS, q⟩ := h
  cases rx
  cases rxs with
  | cons r1 r2 =>
    cases r2
    cases r1
    obtain ⟨hd, _, hx⟩ := tab_ok (prog := X.prog) (w := X.w) ht nd
    obtain ⟨xs, hD, hl⟩ := hx s.heap I.kIn
    obtain ⟨its, rv, tp, _⟩ := I.tuple hS
    have hkey : (tupleKind (intKind X.prog X.w)).is s.heap ns a := by
      obtain ⟨o, ho, hc, n, hdt⟩ := tp
      exact ⟨o, _, n, ho, hc, hdt, by simpa using items_ints rv⟩
    refine get_keyed (knd := tupleKind (intKind X.prog X.w)) (k := ns) (show X.A.in1.units < cLine from hu) hkey hd ⟨xs, hD, rfl⟩ ?_
    rw [valueAt_pairsH]
    have q2 := hl ns
    cases e0 : tab.lookup ns with
    | none =>
      rw [e0] at q2 q
      rw [show atKey xs ns = none from q2]
      exact ⟨.non, H, I.tok _, rfl, q⟩
    | some z =>
      rw [e0] at q2 q
      obtain ⟨a2, t2, q3⟩ := q2
      rw [q3]
      exact ⟨.str z, H, I.tok _, ⟨t2, rfl⟩, q⟩
end
end La
set_option maxHeartbeats 4000000
/-! Written dicts with text keys: texts, rows of tuples; what isn't there. -/
namespace La
open PySem PySem.Spec PyProof.Rows L2
def tupO (o : Option Obj) : Option (List Value) := match o with
  | some ⟨.type c, _, .seq its _, _⟩ => (match decide (c = "tuple") && decide (its.size ≤ sizeLine) with
    | true => some its.toList
    | false => none)
  | _ => none
def tupAt (K : PySem.W.Frag) (a : Addr) : Option (List Value) := tupO (K.lookup a)
theorem tupAt_ok {K : PySem.W.Frag} {a : Addr} {vs : List Value} {xs : List V} (h : tupAt K a = some vs) (hr : He.relAll xs vs = true) (H : Hp) : SqT K H a xs := by
  unfold tupAt at h
  unfold tupO at h
  cases q : K.lookup a with
  | none =>
    rw [q] at h
    cases h
  | some o =>
    obtain ⟨oc, od, dt, osl⟩ := o
    rw [q] at h
    cases oc with
    | type c =>
      cases dt with
      | seq its n =>
        have h1 : (match decide (c = "tuple") && decide (its.size ≤ sizeLine) with
          | true => some its.toList
          | false => none) = some vs := h
        cases z : decide (c = "tuple") && decide (its.size ≤ sizeLine) with
        | false =>
          rw [z] at h1
          cases h1
        | true =>
          rw [z] at h1
          obtain ⟨z1, z2⟩ := He.ba z
          cases h1
          exact .inr ⟨_, its, n, q, congrArg Value.type (of_decide_eq_true z1), rfl, of_decide_eq_true z2, He.relAll_ok hr⟩
      | _ => cases h
    | _ => cases dt <;> cases h
abbrev RowT : Type := List Str × Str
def rowL (L : Addr → Option (List Value)) (v : Value) (x : RowT) : Bool := match v with
  | .ref r => (match L r with
    | some [.ref h, .str b _] => decide (b = x.2) && (match L h with
      | some zs => He.relAll (x.1.map V.str) zs
      | none => false)
    | _ => false)
  | _ => false
def rowsL (L : Addr → Option (List Value)) : List Value → List RowT → Bool
  | [], [] => true
  | v :: r, x :: s => rowL L v x && rowsL L r s
  | _, _ => false
abbrev rowB (K : PySem.W.Frag) : Value → RowT → Bool := rowL (tupAt K)
abbrev rowsB (K : PySem.W.Frag) : List Value → List RowT → Bool := rowsL (tupAt K)
theorem rowL_mono {L M : Addr → Option (List Value)} (k : ∀ a vs, L a = some vs → M a = some vs) {v : Value} {x : RowT} (h : rowL L v x = true) : rowL M v x = true := by
  unfold rowL at h ⊢
  cases v with
  | ref r =>
    simp only at h ⊢
    cases e : L r with
    | none =>
      rw [e] at h
      cases h
    | some l =>
      rw [e] at h
      rw [k r l e]
      split at h
      · rename_i hh b t q
        cases q
        obtain ⟨h1, h2⟩ := He.ba h
        cases e2 : L hh with
        | none =>
          rw [e2] at h2
          cases h2
        | some l2 =>
          rw [e2] at h2
          rw [k hh l2 e2, h1]
          exact h2
      · cases h
  | _ => cases h
theorem rowsL_mono {L M : Addr → Option (List Value)} (k : ∀ a vs, L a = some vs → M a = some vs) : ∀ {vs : List Value} {xs : List RowT}, rowsL L vs xs = true → rowsL M vs xs = true
  | [], [], _ => rfl
  | [], _ :: _, h => by cases h
  | _ :: _, [], h => by cases h
  | v :: r, x :: s, h => by
    obtain ⟨h1, h2⟩ := He.ba (show (rowL L v x && rowsL L r s) = true from h)
    show (rowL M v x && rowsL M r s) = true
    rw [rowL_mono k h1, rowsL_mono k h2]
    rfl
/-- a row stands at r -/
def RowAt (K : PySem.W.Frag) (r : Addr) (x : RowT) : Prop := ∃ h, (∀ H, SqT K H r [.ref h, .str x.2]) ∧ ∀ H, SqT K H h (x.1.map V.str)
def RowsAt (K : PySem.W.Frag) : List Addr → List RowT → Prop
  | [], [] => True
  | r :: rs, x :: s => RowAt K r x ∧ RowsAt K rs s
  | _, _ => False
theorem row_ok {K : PySem.W.Frag} {v : Value} {x : RowT} (h : rowB K v x = true) : ∃ r, v = .ref r ∧ RowAt K r x := by
  unfold rowB rowL at h
  cases v with
  | ref r =>
    simp only at h
    split at h
    · rename_i hh b t q
      obtain ⟨h1, h2⟩ := He.ba h
      split at h2
      · rename_i zs q2
        have e := of_decide_eq_true h1
        subst e
        refine ⟨r, rfl, hh, fun H => tupAt_ok q ?_ H, fun H => tupAt_ok q2 h2 H⟩
        simp [He.relAll, He.relB]
      · cases h2
    · cases h
  | _ => cases h
theorem rows_ok {K : PySem.W.Frag} : ∀ {vs : List Value} {xs : List RowT}, rowsB K vs xs = true → ∃ rs : List Addr, vs = rs.map Value.ref ∧ RowsAt K rs xs
  | [], [], _ => ⟨[], rfl, trivial⟩
  | [], _ :: _, h => by cases h
  | _ :: _, [], h => by cases h
  | v :: r, x :: s, h => by
    obtain ⟨h1, h2⟩ := He.ba (show (rowB K v x && rowsB K r s) = true from h)
    obtain ⟨a, rfl, ha⟩ := row_ok h1
    obtain ⟨rs, rfl, hr⟩ := rows_ok h2
    exact ⟨a :: rs, rfl, ha, hr⟩
def formsL (K : PySem.W.Frag) (L : Addr → Option (List Value)) (d : Addr) (tab : List (Str × List RowT)) : Bool := tab.all fun x => match PySem.W.nsIn K d x.1 with
  | some (some (.ref a)) => (match L a with
    | some vs => rowsL L vs x.2
    | none => false)
  | _ => false
abbrev formsB (K : PySem.W.Frag) (d : Addr) (tab : List (Str × List RowT)) : Bool := formsL K (tupAt K) d tab
theorem formsL_mono {K : PySem.W.Frag} {L M : Addr → Option (List Value)} (k : ∀ a vs, L a = some vs → M a = some vs) {d : Addr} {tab : List (Str × List RowT)} (h : formsL K L d tab = true) : formsL K M d tab = true := by
  unfold formsL at h ⊢
  refine List.all_eq_true.mpr fun x hx => ?_
  have h2 := List.all_eq_true.mp h x hx
  try simp only at h2 ⊢
  split at h2
  · rename_i a q
    cases e : L a with
    | none =>
      rw [e] at h2
      cases h2
    | some l =>
      rw [e] at h2
      rw [k a l e]
      exact rowsL_mono k h2
  · cases h2
/-- tuples straight off the heap -/
def tupG (g : Addr → Option Obj) (n : Nat) (a : Addr) : Option (List Value) := if Nat.blt a n = true then tupO (g a) else none
theorem frG_get {g : Addr → Option Obj} {a : Addr} {o : Obj} (h : g a = some o) : ∀ {as : List Addr}, a ∈ as → (He.frG g as).lookup a = some o
  | [], m => by cases m
  | b :: r, m => by
    unfold He.frG
    rw [List.filterMap_cons]
    by_cases c : a = b
    · subst c
      rw [h]
      show ((a, o) :: _).lookup a = some o
      rw [List.lookup_cons, beq_self_eq_true]
    · have m2 : a ∈ r := by
        rcases List.mem_cons.mp m with z | z
        · exact absurd z c
        · exact z
      have ih := frG_get h m2
      unfold He.frG at ih
      cases e : g b with
      | none => exact ih
      | some ob =>
        show ((b, ob) :: _).lookup a = some o
        rw [List.lookup_cons, show (a == b) = false from beq_eq_false_iff_ne.mpr c]
        exact ih
theorem tupG_at {g : Addr → Option Obj} {n : Nat} {a : Addr} {vs : List Value} (h : tupG g n a = some vs) : tupAt (He.frG g (List.range n)) a = some vs := by
  unfold tupG at h
  split at h
  · rename_i c
    have c2 : a < n := by simpa using c
    cases e : g a with
    | none =>
      rw [e] at h
      cases h
    | some o =>
      rw [e] at h
      show tupO ((He.frG g (List.range n)).lookup a) = some vs
      rw [frG_get e (List.mem_range.mpr c2)]
      exact h
  · cases h
theorem refs_rel : ∀ rs : List Addr, He.relAll (rs.map V.ref) (rs.map Value.ref) = true
  | [] => rfl
  | a :: r => by
    have ih := refs_rel r
    show (He.relB (.ref a) (.ref a) && He.relAll (r.map V.ref) (r.map Value.ref)) = true
    rw [ih]
    simp [He.relB]
theorem forms_ok {K : PySem.W.Frag} {d : Addr} {tab : List (Str × List RowT)} (h : formsB K d tab = true) {x : Str} {rows : List RowT} (hm : (x, rows) ∈ tab) :
    ∃ a rs, PySem.W.nsIn K d x = some (some (.ref a)) ∧ (∀ H, SqT K H a (rs.map V.ref)) ∧ RowsAt K rs rows := by
  unfold formsB formsL at h
  have h2 := List.all_eq_true.mp h _ hm
  simp only at h2
  split at h2
  · rename_i a q
    split at h2
    · rename_i vs q2
      obtain ⟨rs, rfl, hr⟩ := rows_ok h2
      exact ⟨a, rs, q, fun H => tupAt_ok q2 (refs_rel rs) H, hr⟩
    · cases h2
  · cases h2
def noneB (K : PySem.W.Frag) (d : Addr) (zs : List Str) : Bool := zs.all fun z => He.eqO (PySem.W.nsIn K d z) (some none)
theorem none_ok {K : PySem.W.Frag} {d : Addr} {zs : List Str} (h : noneB K d zs = true) {z : Str} (hz : z ∈ zs) : PySem.W.nsIn K d z = some none := He.eqO_ok (List.all_eq_true.mp h z hz)
def toldB (K : PySem.W.Frag) (d : Addr) (tab : List (Str × Str)) : Bool := tab.all fun x => match PySem.W.nsIn K d x.1 with
  | some (some (.str y _)) => decide (y = x.2)
  | _ => false
theorem told_ok {K : PySem.W.Frag} {d : Addr} {tab : List (Str × Str)} (h : toldB K d tab = true) {x y : Str} (hm : (x, y) ∈ tab) : ∃ t, PySem.W.nsIn K d x = some (some (.str y t)) := by
  have h2 := List.all_eq_true.mp h _ hm
  simp only at h2
  split at h2
  · rename_i z t q
    have e := of_decide_eq_true h2
    subst e
    exact ⟨t, q⟩
  · cases h2
theorem kdct_of {K : PySem.W.Frag} {w : World} {d : Addr} {es : Array DictEntry} {n : Nat} (D : KDict K w d es n) {x : Str} {u : Value} {v : V} (h : PySem.W.nsIn K d x = some (some u)) (r : RelV v u) : KDct K w d x v := ⟨es, n, u, D.at_, D.lit, h, r⟩
end La
set_option maxHeartbeats 4000000
/-! Rules with the written part named: within comprehensions. -/
namespace La
open PySem PySem.Spec PyProof.Rows L2
section
variable {X : Cx} {K : PySem.W.Frag}
theorem ix_listK (h : X.K = K) : IxR X (rIxL K) := h ▸ ix_list
theorem ix_tupK (h : X.K = K) : IxR X (rIxT K) := h ▸ ix_tup
theorem sl_listK (h : X.K = K) : SlR X (rSlL K) := h ▸ sl_list
theorem op_in_seqK (h : X.K = K) : OpR X (compareOp .In) (rIn K false) := h ▸ op_in_seq
theorem op_notIn_seqK (h : X.K = K) : OpR X (compareOp .NotIn) (rIn K true) := h ▸ op_notIn_seq
theorem call_len_seqK (h : X.K = K) : CallR X (.builtin "len") (fun xs H Q => ∃ p ys, xs = [.ref p] ∧ (SqL K H p ys ∨ SqT K H p ys) ∧ Q (.int ys.length) H) := h ▸ call_len_seq
theorem pe_fldK (h : X.K = K) {e : Expr} {f : Str} {pos : Pos} {ta : TE} (he : PE X e ta) (hb : attributeBase e f X.env (eval e X.env) = eval e X.env) : PE X (.Attribute e f pos) (tFld K ta f) := by
  subst h
  exact pe_fld he hb
theorem pt_truthK (h : X.K = K) {a : Expr} {ta : TE} (ha : PE X a ta) (he : ∀ whole, isTrue a X.env whole = (do let v ← whole; standAt a.pos; holding [v] (truthy v))) : PT X a (fun σ H Q => ta σ H fun x H' => ∃ k, TruV K x H' k ∧ Q k H') := by
  subst h
  exact pt_truth ha he
theorem pe_notTK (h : X.K = K) {a : Expr} {ta : TE} {pos : Pos} (ha : PE X a ta) : PE X (.UnaryOp .Not a pos) (tNotT K ta) := by
  subst h
  exact pe_notT ha
theorem pi_listK (h : X.K = K) {tg l : Expr} {tl : TE} (hl : PE X l tl) : PI X tg l (iList K tl) := h ▸ pi_list hl
end
end La
set_option maxHeartbeats 0
namespace La
open PySem PySem.Spec PyProof.Rows L2
/-- the program's top, by place -/
def top (i : Nat) : Stmt := PySem.Challenge.pw_laidout_s08_folds.main.body.getD i (.Pass ⟨0, 0, 0, 0⟩)
abbrev s__wall : Stmt := top 0
abbrev s_byte_class : Stmt := top 15
abbrev s_run_end : Stmt := top 16
abbrev s_byte_at : Stmt := top 17
abbrev s_digit_at : Stmt := top 18
abbrev s_right : Stmt := top 19
abbrev s_wrong : Stmt := top 20
abbrev s_read_comment : Stmt := top 21
abbrev s_read_word : Stmt := top 22
abbrev s_read_code : Stmt := top 23
abbrev s_exponent_digits : Stmt := top 24
abbrev s_right_exponent : Stmt := top 25
abbrev s_right_number : Stmt := top 26
abbrev s_read_number : Stmt := top 27
abbrev s_item_end : Stmt := top 28
abbrev s_read_text : Stmt := top 29
abbrev s_read_sign : Stmt := top 30
abbrev s_read_part : Stmt := top 31
abbrev s_scan : Stmt := top 32
abbrev s_count_token : Stmt := top 36
abbrev s_depth_within : Stmt := top 37
abbrev s_Group___init__ : Stmt := inClass (top 42) 0
abbrev s_Frame___init__ : Stmt := inClass (top 43) 0
abbrev s_Reader___init__ : Stmt := inClass (top 44) 0
abbrev s_Reader_next_kind : Stmt := inClass (top 44) 1
abbrev s_Reader_read : Stmt := inClass (top 44) 2
abbrev s_Reader_unfold : Stmt := inClass (top 44) 3
abbrev s_Reader_take : Stmt := inClass (top 44) 4
abbrev s_Reader_act : Stmt := inClass (top 44) 5
abbrev s_Reader_make_group : Stmt := inClass (top 44) 6
abbrev s_Reader_end_group : Stmt := inClass (top 44) 7
abbrev s_Comment___init__ : Stmt := inClass (top 48) 0
abbrev s_Program___init__ : Stmt := inClass (top 49) 0
abbrev s_Program_is_comment : Stmt := inClass (top 49) 1
abbrev s_Program_is_by_itself : Stmt := inClass (top 49) 2
abbrev s_Program_gap_begin : Stmt := inClass (top 49) 3
abbrev s_Program_gap_bytes : Stmt := inClass (top 49) 4
abbrev s_Program_gap_breaks : Stmt := inClass (top 49) 5
abbrev s_Program_element_bytes : Stmt := inClass (top 49) 6
abbrev s_Program_token_kinds : Stmt := inClass (top 49) 7
abbrev s_split_parts : Stmt := top 50
abbrev s_fault_of : Stmt := top 51
abbrev s_read_program : Stmt := top 52
abbrev s_part_lines : Stmt := top 54
abbrev s_bracket_folds : Stmt := top 55
abbrev s_comment_folds : Stmt := top 56
abbrev s_survey_folds : Stmt := top 57
abbrev s_counted : Stmt := top 59
abbrev s_folds : Stmt := top 60
def d__wall : He.DefD := ⟨("_wall", none), "_wall", "_wall", defArgs s__wall, defBody s__wall, defScope s__wall, [], []⟩
def d_byte_class : He.DefD := ⟨("byte_class", none), "byte_class", "byte_class", defArgs s_byte_class, defBody s_byte_class, defScope s_byte_class, [], []⟩
def d_run_end : He.DefD := ⟨("run_end", none), "run_end", "run_end", defArgs s_run_end, defBody s_run_end, defScope s_run_end, [], []⟩
def d_byte_at : He.DefD := ⟨("byte_at", none), "byte_at", "byte_at", defArgs s_byte_at, defBody s_byte_at, defScope s_byte_at, [], []⟩
def d_digit_at : He.DefD := ⟨("digit_at", none), "digit_at", "digit_at", defArgs s_digit_at, defBody s_digit_at, defScope s_digit_at, [], []⟩
def d_right : He.DefD := ⟨("right", none), "right", "right", defArgs s_right, defBody s_right, defScope s_right, [], []⟩
def d_wrong : He.DefD := ⟨("wrong", none), "wrong", "wrong", defArgs s_wrong, defBody s_wrong, defScope s_wrong, [], []⟩
def d_read_comment : He.DefD := ⟨("read_comment", none), "read_comment", "read_comment", defArgs s_read_comment, defBody s_read_comment, defScope s_read_comment, [], []⟩
def d_read_word : He.DefD := ⟨("read_word", none), "read_word", "read_word", defArgs s_read_word, defBody s_read_word, defScope s_read_word, [], []⟩
def d_read_code : He.DefD := ⟨("read_code", none), "read_code", "read_code", defArgs s_read_code, defBody s_read_code, defScope s_read_code, [], []⟩
def d_exponent_digits : He.DefD := ⟨("exponent_digits", none), "exponent_digits", "exponent_digits", defArgs s_exponent_digits, defBody s_exponent_digits, defScope s_exponent_digits, [], []⟩
def d_right_exponent : He.DefD := ⟨("right_exponent", none), "right_exponent", "right_exponent", defArgs s_right_exponent, defBody s_right_exponent, defScope s_right_exponent, [], []⟩
def d_right_number : He.DefD := ⟨("right_number", none), "right_number", "right_number", defArgs s_right_number, defBody s_right_number, defScope s_right_number, [], []⟩
def d_read_number : He.DefD := ⟨("read_number", none), "read_number", "read_number", defArgs s_read_number, defBody s_read_number, defScope s_read_number, [], []⟩
def d_item_end : He.DefD := ⟨("item_end", none), "item_end", "item_end", defArgs s_item_end, defBody s_item_end, defScope s_item_end, [], []⟩
def d_read_text : He.DefD := ⟨("read_text", none), "read_text", "read_text", defArgs s_read_text, defBody s_read_text, defScope s_read_text, [], []⟩
def d_read_sign : He.DefD := ⟨("read_sign", none), "read_sign", "read_sign", defArgs s_read_sign, defBody s_read_sign, defScope s_read_sign, [], []⟩
def d_read_part : He.DefD := ⟨("read_part", none), "read_part", "read_part", defArgs s_read_part, defBody s_read_part, defScope s_read_part, [], []⟩
def d_scan : He.DefD := ⟨("scan", none), "scan", "scan", defArgs s_scan, defBody s_scan, defScope s_scan, [], []⟩
def d_count_token : He.DefD := ⟨("count_token", none), "count_token", "count_token", defArgs s_count_token, defBody s_count_token, defScope s_count_token, [], []⟩
def d_depth_within : He.DefD := ⟨("depth_within", none), "depth_within", "depth_within", defArgs s_depth_within, defBody s_depth_within, defScope s_depth_within, [], []⟩
def d_Group___init__ : He.DefD := ⟨("Group", some "__init__"), "__init__", "Group.__init__", defArgs s_Group___init__, defBody s_Group___init__, defScope s_Group___init__, [], []⟩
def d_Frame___init__ : He.DefD := ⟨("Frame", some "__init__"), "__init__", "Frame.__init__", defArgs s_Frame___init__, defBody s_Frame___init__, defScope s_Frame___init__, [], []⟩
def d_Reader___init__ : He.DefD := ⟨("Reader", some "__init__"), "__init__", "Reader.__init__", defArgs s_Reader___init__, defBody s_Reader___init__, defScope s_Reader___init__, [], []⟩
def d_Reader_next_kind : He.DefD := ⟨("Reader", some "next_kind"), "next_kind", "Reader.next_kind", defArgs s_Reader_next_kind, defBody s_Reader_next_kind, defScope s_Reader_next_kind, [], []⟩
def d_Reader_read : He.DefD := ⟨("Reader", some "read"), "read", "Reader.read", defArgs s_Reader_read, defBody s_Reader_read, defScope s_Reader_read, [], []⟩
def d_Reader_unfold : He.DefD := ⟨("Reader", some "unfold"), "unfold", "Reader.unfold", defArgs s_Reader_unfold, defBody s_Reader_unfold, defScope s_Reader_unfold, [], []⟩
def d_Reader_take : He.DefD := ⟨("Reader", some "take"), "take", "Reader.take", defArgs s_Reader_take, defBody s_Reader_take, defScope s_Reader_take, [], []⟩
def d_Reader_act : He.DefD := ⟨("Reader", some "act"), "act", "Reader.act", defArgs s_Reader_act, defBody s_Reader_act, defScope s_Reader_act, [], []⟩
def d_Reader_make_group : He.DefD := ⟨("Reader", some "make_group"), "make_group", "Reader.make_group", defArgs s_Reader_make_group, defBody s_Reader_make_group, defScope s_Reader_make_group, [], []⟩
def d_Reader_end_group : He.DefD := ⟨("Reader", some "end_group"), "end_group", "Reader.end_group", defArgs s_Reader_end_group, defBody s_Reader_end_group, defScope s_Reader_end_group, [], []⟩
def d_Comment___init__ : He.DefD := ⟨("Comment", some "__init__"), "__init__", "Comment.__init__", defArgs s_Comment___init__, defBody s_Comment___init__, defScope s_Comment___init__, [], []⟩
def d_Program___init__ : He.DefD := ⟨("Program", some "__init__"), "__init__", "Program.__init__", defArgs s_Program___init__, defBody s_Program___init__, defScope s_Program___init__, [], []⟩
def d_Program_is_comment : He.DefD := ⟨("Program", some "is_comment"), "is_comment", "Program.is_comment", defArgs s_Program_is_comment, defBody s_Program_is_comment, defScope s_Program_is_comment, [], []⟩
def d_Program_is_by_itself : He.DefD := ⟨("Program", some "is_by_itself"), "is_by_itself", "Program.is_by_itself", defArgs s_Program_is_by_itself, defBody s_Program_is_by_itself, defScope s_Program_is_by_itself, [], []⟩
def d_Program_gap_begin : He.DefD := ⟨("Program", some "gap_begin"), "gap_begin", "Program.gap_begin", defArgs s_Program_gap_begin, defBody s_Program_gap_begin, defScope s_Program_gap_begin, [], []⟩
def d_Program_gap_bytes : He.DefD := ⟨("Program", some "gap_bytes"), "gap_bytes", "Program.gap_bytes", defArgs s_Program_gap_bytes, defBody s_Program_gap_bytes, defScope s_Program_gap_bytes, [], []⟩
def d_Program_gap_breaks : He.DefD := ⟨("Program", some "gap_breaks"), "gap_breaks", "Program.gap_breaks", defArgs s_Program_gap_breaks, defBody s_Program_gap_breaks, defScope s_Program_gap_breaks, [], []⟩
def d_Program_element_bytes : He.DefD := ⟨("Program", some "element_bytes"), "element_bytes", "Program.element_bytes", defArgs s_Program_element_bytes, defBody s_Program_element_bytes, defScope s_Program_element_bytes, [], []⟩
def d_Program_token_kinds : He.DefD := ⟨("Program", some "token_kinds"), "token_kinds", "Program.token_kinds", defArgs s_Program_token_kinds, defBody s_Program_token_kinds, defScope s_Program_token_kinds, [], []⟩
def d_split_parts : He.DefD := ⟨("split_parts", none), "split_parts", "split_parts", defArgs s_split_parts, defBody s_split_parts, defScope s_split_parts, [], []⟩
def d_fault_of : He.DefD := ⟨("fault_of", none), "fault_of", "fault_of", defArgs s_fault_of, defBody s_fault_of, defScope s_fault_of, [], []⟩
def d_read_program : He.DefD := ⟨("read_program", none), "read_program", "read_program", defArgs s_read_program, defBody s_read_program, defScope s_read_program, [], []⟩
def d_part_lines : He.DefD := ⟨("part_lines", none), "part_lines", "part_lines", defArgs s_part_lines, defBody s_part_lines, defScope s_part_lines, [], []⟩
def d_bracket_folds : He.DefD := ⟨("bracket_folds", none), "bracket_folds", "bracket_folds", defArgs s_bracket_folds, defBody s_bracket_folds, defScope s_bracket_folds, [], []⟩
def d_comment_folds : He.DefD := ⟨("comment_folds", none), "comment_folds", "comment_folds", defArgs s_comment_folds, defBody s_comment_folds, defScope s_comment_folds, [], []⟩
def d_survey_folds : He.DefD := ⟨("survey_folds", none), "survey_folds", "survey_folds", defArgs s_survey_folds, defBody s_survey_folds, defScope s_survey_folds, [], []⟩
def d_counted : He.DefD := ⟨("counted", none), "counted", "counted", defArgs s_counted, defBody s_counted, defScope s_counted, [], []⟩
def d_folds : He.DefD := ⟨("folds", none), "folds", "folds", defArgs s_folds, defBody s_folds, defScope s_folds, [], []⟩
def fn : List He.DefD := [d__wall, d_byte_class, d_run_end, d_byte_at, d_digit_at, d_right, d_wrong, d_read_comment, d_read_word, d_read_code, d_exponent_digits, d_right_exponent, d_right_number, d_read_number, d_item_end, d_read_text, d_read_sign, d_read_part, d_scan, d_count_token, d_depth_within, d_Group___init__, d_Frame___init__, d_Reader___init__, d_Reader_next_kind, d_Reader_read, d_Reader_unfold, d_Reader_take, d_Reader_act, d_Reader_make_group, d_Reader_end_group, d_Comment___init__, d_Program___init__, d_Program_is_comment, d_Program_is_by_itself, d_Program_gap_begin, d_Program_gap_bytes, d_Program_gap_breaks, d_Program_element_bytes, d_Program_token_kinds, d_split_parts, d_fault_of, d_read_program, d_part_lines, d_bracket_folds, d_comment_folds, d_survey_folds, d_counted, d_folds]
def fa : List He.Fa := [.glo "_wall",
  .glo "byte_class",
  .glo "run_end",
  .glo "byte_at",
  .glo "digit_at",
  .glo "right",
  .glo "wrong",
  .glo "read_comment",
  .glo "read_word",
  .glo "read_code",
  .glo "exponent_digits",
  .glo "right_exponent",
  .glo "right_number",
  .glo "read_number",
  .glo "item_end",
  .glo "read_text",
  .glo "read_sign",
  .glo "read_part",
  .glo "scan",
  .glo "count_token",
  .glo "depth_within",
  .glo "split_parts",
  .glo "fault_of",
  .glo "read_program",
  .glo "part_lines",
  .glo "bracket_folds",
  .glo "comment_folds",
  .glo "survey_folds",
  .glo "counted",
  .glo "folds",
  .cls "Group",
  .glo "Group",
  .mkr "Group",
  .noat "Group" "begin",
  .noat "Group" "inner",
  .noat "Group" "end",
  .noat "Group" "last",
  .cls "Frame",
  .glo "Frame",
  .mkr "Frame",
  .noat "Frame" "begin",
  .noat "Frame" "group",
  .cls "Reader",
  .glo "Reader",
  .mkr "Reader",
  .meth "Reader" "next_kind",
  .meth "Reader" "read",
  .meth "Reader" "unfold",
  .meth "Reader" "take",
  .meth "Reader" "act",
  .meth "Reader" "make_group",
  .meth "Reader" "end_group",
  .noat "Reader" "kinds",
  .noat "Reader" "commented",
  .noat "Reader" "told",
  .noat "Reader" "depths",
  .noat "Reader" "groups",
  .noat "Reader" "declarations",
  .noat "Reader" "awaited",
  .noat "Reader" "frames",
  .noat "Reader" "telling",
  .noat "Reader" "blocks",
  .cls "Comment",
  .glo "Comment",
  .mkr "Comment",
  .noat "Comment" "size",
  .noat "Comment" "behind",
  .cls "Program",
  .glo "Program",
  .mkr "Program",
  .meth "Program" "is_comment",
  .meth "Program" "is_by_itself",
  .meth "Program" "gap_begin",
  .meth "Program" "gap_bytes",
  .meth "Program" "gap_breaks",
  .meth "Program" "element_bytes",
  .meth "Program" "token_kinds",
  .noat "Program" "text",
  .noat "Program" "refused",
  .noat "Program" "parts",
  .noat "Program" "tokens",
  .noat "Program" "comments",
  .noat "Program" "reader",
  .str "NAME" "NAME",
  .str "CODE" "CODE",
  .str "NUMBER" "NUMBER",
  .str "TEXT" "TEXT",
  .str "COMMENT" "#",
  .glo "BLANKS",
  .glo "KEYWORDS",
  .glo "SIGNS",
  .glo "OPENING",
  .glo "CLOSING",
  .str "LETTERS" "abcdefghijklmnopqrstuvwxyz",
  .glo "PLAIN_MARKS",
  .int "PACKED_MARK" (112),
  .glo "DEEPER",
  .glo "ANEW",
  .glo "TOLD",
  .glo "FORMS",
  .str "END" "END",
  .int "LONGEST" (4096),
  .int "DEEPEST" (100),
  .free "len",
  .free "range",
  .free "enumerate",
  .free "list",
  .free "tuple",
  .free "sum",
  .free "max",
  .free "min",
  .free "sorted",
  .free "reversed",
  .free "zip"]
def names0 : List PySem.Str := ["_wall", "byte_class", "run_end", "byte_at", "digit_at", "right", "wrong", "read_comment", "read_word", "read_code", "exponent_digits", "right_exponent", "right_number", "read_number", "item_end", "read_text", "read_sign", "read_part", "scan", "count_token", "depth_within", "Group", "Frame", "Reader", "Comment", "Program", "split_parts", "fault_of", "read_program", "part_lines"]
def names1 : List PySem.Str := ["bracket_folds", "comment_folds", "survey_folds", "counted", "NAME", "CODE", "NUMBER", "TEXT", "COMMENT", "BLANKS", "KEYWORDS", "SIGNS", "OPENING", "CLOSING", "LETTERS", "PLAIN_MARKS", "PACKED_MARK", "DEEPER", "ANEW", "TOLD", "FORMS", "END", "LONGEST", "DEEPEST"]
def names : List PySem.Str := names0 ++ names1
abbrev R : PySem.W.OpenSpec := PySem.Challenge.rw_laidout_s08_folds
def t_BLANKS : List He.Dv := [.int (10), .int (32), .int (59)]
def t_KEYWORDS : List He.Dv := [.str "account", .str "and", .str "as", .str "away", .str "both", .str "break", .str "catch", .str "clear", .str "cut", .str "decimal", .str "double", .str "down", .str "else", .str "error", .str "extended", .str "false", .str "fibre", .str "finally", .str "five", .str "flags", .str "flush", .str "fn", .str "for", .str "fraction", .str "from", .str "giving", .str "half", .str "if", .str "in", .str "inexact", .str "interval", .str "into", .str "invalid", .str "is", .str "leave", .str "let", .str "list", .str "make", .str "match", .str "module", .str "near", .str "nearaway", .str "nearcut", .str "next", .str "not", .str "of", .str "only", .str "or", .str "out", .str "overflow", .str "packed", .str "picture", .str "post", .str "precision", .str "raise", .str "record", .str "resume", .str "return", .str "rounding", .str "say", .str "single", .str "small", .str "spawn", .str "stack", .str "text", .str "then", .str "to", .str "trap", .str "true", .str "truth", .str "try", .str "underflow", .str "up", .str "use", .str "value", .str "while", .str "whole", .str "with", .str "yield", .str "zero"]
def t_OPENING : List He.Dv := [.str "(", .str "[", .str "{"]
def t_CLOSING : List He.Dv := [.str ")", .str "]", .str "}"]
def t_PLAIN_MARKS : List He.Dv := [.int (109), .int (120), .int (100), .int (115), .int (104), .int (105)]
def t_DEEPER : List He.Dv := [.str "-", .str "+", .str "*", .str "/", .str "//", .str "PERCENT", .str "^", .str "==", .str "!=", .str "<", .str "<=", .str ">", .str ">=", .str "->", .str ".", .str "not", .str "or", .str "and", .str "as", .str "of", .str "then", .str "spawn", .str "resume", .str "giving", .str "picture"]
def t_ANEW : List He.Dv := [.str ",", .str "=", .str ":", .str "let", .str "fn", .str "record", .str "account", .str "use", .str "return", .str "raise", .str "say", .str "yield", .str "post", .str "from", .str "match", .str "is", .str "while", .str "for", .str "in", .str "to", .str "with", .str "try", .str "catch"]
def tabL : List (PySem.Str × List He.Dv) := [("BLANKS", t_BLANKS), ("KEYWORDS", t_KEYWORDS), ("OPENING", t_OPENING), ("CLOSING", t_CLOSING), ("PLAIN_MARKS", t_PLAIN_MARKS), ("DEEPER", t_DEEPER), ("ANEW", t_ANEW)]
def sgT : List (List Int × PySem.Str) := [([40], "("), ([41], ")"), ([91], "["), ([93], "]"), ([123], "{"), ([125], "}"), ([44], ","), ([58], ":"), ([46], "."), ([46, 46], ".."), ([45, 62], "->"), ([61], "="), ([61, 61], "=="), ([33, 61], "!="), ([60], "<"), ([60, 61], "<="), ([62], ">"), ([62, 61], ">="), ([43], "+"), ([45], "-"), ([42], "*"), ([47], "/"), ([47, 47], "//"), ([37], "PERCENT"), ([94], "^")]
def formsT0 : List (PySem.Str × List (List PySem.Str × PySem.Str)) := [("Program", [([], "| module _ NAME Uses Decls")]),
  ("Uses", [(["use"], "| use _ NAME Uses"), ([], "")]),
  ("Decls", [(["END"], ""), ([], "@decl | Decl Decls")]),
  ("Decl", [(["let"], "Let"), (["record"], "record _ NAME _ { Fields }"), (["account"], "account _ NAME _ CODE"), (["fn"], "fn _ NAME Names ( Fields ) Result _ Block")]),
  ("Let", [([], "let _ NAME Sorted _ = _ Expr")]),
  ("Sorted", [([":"], ": _ Sort"), ([], "")]),
  ("Names", [(["["], "[ NAME Morenames ]"), ([], "")]),
  ("Morenames", [([","], ", _ NAME Morenames"), ([], "")]),
  ("Fields", [([")", "}"], ""), ([], "@first Field Morefields @last")]),
  ("Field", [([], "NAME : _ Sort")]),
  ("Morefields", [([","], ", @may Field Morefields"), ([], "")]),
  ("Result", [(["->"], "_ -> _ Sort"), ([], "")]),
  ("Sort", [(["whole", "fraction", "decimal", "half", "single", "double", "extended", "interval", "truth"], "!"), (["text", "flags", "error", "account", "value"], "!"), (["packed"], "packed _ NUMBER"), (["list"], "list _ of _ Sort"), (["fibre"], "fibre Fibreof"), (["fn"], "fn ( Sorts ) Result"), (["NAME"], "NAME Pointname")]),
  ("Fibreof", [(["of"], "_ of _ Sort"), ([], "")]),
  ("Sorts", [([")"], ""), ([], "Sort Moresorts")]),
  ("Moresorts", [([","], ", _ Sort Moresorts"), ([], "")]),
  ("Pointname", [(["."], ". NAME"), ([], "")]),
  ("Block", [([], "{ @in Statements @out }")]),
  ("Statements", [(["}"], ""), ([], "| Statement Statements")]),
  ("Statement", [(["let"], "Let"), (["NAME"], "NAME Chain"), (["flags"], "flags _ = _ Expr"), (["if"], "if _ Expr _ Block Else"), (["while"], "while _ Expr _ Block"), (["for"], "for _ NAME _ in _ Expr To _ Block"), (["match"], "match _ Expr _ { @in Cases @out }"), (["return"], "return _ Expr"), (["leave", "break", "next"], "!"), (["with"], "with _ Mode Moremodes _ Block"), (["try"], "try _ Block Handlers"), (["raise"], "raise _ Expr"), (["say"], "say _ @start Expr Moreexprs @end"), (["yield"], "yield _ Expr Into"), (["post"], "post _ Expr : _ Expr _ from _ Expr Posttext")])]
def formsT1 : List (PySem.Str × List (List PySem.Str × PySem.Str)) := [("Chain", [(["("], "( Args ) Called"), (["["], "[ Expr ] Chain"), (["."], ". NAME Chain"), (["="], "_ = _ Expr")]),
  ("Called", [(["("], "( Args ) Called"), (["["], "[ Expr ] Chain"), (["."], ". NAME Chain"), ([], "")]),
  ("Else", [(["else"], "_ else _ Otherwise"), ([], "")]),
  ("Otherwise", [(["if"], "if _ Expr _ Block Else"), ([], "Block")]),
  ("To", [(["to"], "_ to _ Expr"), ([], "")]),
  ("Cases", [(["is"], "| is _ Sort _ NAME _ Block Cases"), (["else"], "| else _ Block"), ([], "")]),
  ("Handlers", [(["catch"], "_ catch _ NAME _ Block Finally"), (["finally"], "_ finally _ Block")]),
  ("Finally", [(["finally"], "_ finally _ Block"), ([], "")]),
  ("Into", [(["into"], "_ into _ NAME"), ([], "")]),
  ("Posttext", [(["TEXT"], "_ TEXT"), ([], "")]),
  ("Mode", [(["rounding"], "rounding _ Rounding"), (["precision"], "precision _ NUMBER"), (["trap"], "trap _ Oneflag Traps"), (["flush"], "flush _ Flush")]),
  ("Moremodes", [([","], ", _ Mode Moremodes"), ([], "")]),
  ("Rounding", [(["near", "down", "up", "cut"], "!")]),
  ("Flush", [(["in", "out", "both"], "!")]),
  ("Oneflag", [(["invalid", "small", "zero", "overflow", "underflow", "inexact", "stack"], "!")]),
  ("Traps", [(["invalid", "small", "zero", "overflow", "underflow", "inexact", "stack"], "_ Oneflag Traps"), ([], "")]),
  ("Someflags", [([")"], ""), ([], "Oneflag Moreflags")]),
  ("Moreflags", [([","], ", _ Oneflag Moreflags"), ([], "")]),
  ("Args", [([")"], ""), ([], "@first Expr Moreexprs @last")]),
  ("Moreexprs", [([","], ", @may Expr Moreexprs"), ([], "")])]
def formsT2 : List (PySem.Str × List (List PySem.Str × PySem.Str)) := [("Expr", [(["if"], "@start if _ Expr @may then _ Expr @may else _ Expr @end"), ([], "Either")]),
  ("Either", [([], "@start Both Moreor @end")]),
  ("Moreor", [(["or"], "@may or _ Both Moreor"), ([], "")]),
  ("Both", [([], "@start Negated Moreand @end")]),
  ("Moreand", [(["and"], "@may and _ Negated Moreand"), ([], "")]),
  ("Negated", [(["not"], "not _ Negated"), ([], "Comparison")]),
  ("Comparison", [([], "@start Cast Compared @end")]),
  ("Compared", [(["==", "!=", "<", "<=", ">", ">="], "@may ! _ Cast"), ([], "")]),
  ("Cast", [([], "Sum Casts")]),
  ("Casts", [(["as"], "_ as _ Sort Castnumber Castround Casts"), ([], "")]),
  ("Castnumber", [(["NUMBER"], "_ NUMBER"), ([], "")]),
  ("Castround", [(["near", "down", "up", "cut", "nearaway", "nearcut", "away", "five"], "_ !"), ([], "")]),
  ("Sum", [([], "@start Product Moresum @end")]),
  ("Moresum", [(["+", "-"], "@may ! _ Product Moresum"), ([], "")]),
  ("Product", [([], "@start Signed Moreproduct @end")]),
  ("Moreproduct", [(["*", "/", "//", "PERCENT"], "@may ! _ Signed Moreproduct"), ([], "")]),
  ("Signed", [(["-"], "- Signed"), (["spawn"], "spawn _ Value"), (["resume"], "resume _ Value Giving"), (["picture"], "picture _ TEXT _ of _ Value"), ([], "Value Power")]),
  ("Giving", [(["giving"], "_ giving _ Signed"), ([], "")]),
  ("Power", [(["^"], "_ ^ _ Signed"), ([], "")]),
  ("Value", [([], "First Suffixes")])]
def formsT3 : List (PySem.Str × List (List PySem.Str × PySem.Str)) := [("Suffixes", [(["("], "( Args ) Suffixes"), (["["], "[ Expr ] Suffixes"), (["."], ". NAME Suffixes"), ([], "")]),
  ("First", [(["NUMBER", "TEXT", "true", "false", "flags", "NAME", "CODE"], "!"), (["only"], "only ( Someflags )"), (["("], "( Expr )"), (["["], "[ Listed ]"), (["make"], "make _ NAME Pointname ( Made )")]),
  ("Listed", [(["]"], ""), ([], "@start Expr Listrest")]),
  ("Listrest", [([".."], "@end _ .. _ Expr"), ([], "@late Moreexprs @last")]),
  ("Made", [([")"], ""), ([], "@first Named Morenamed @last")]),
  ("Named", [([], "NAME : _ Expr")]),
  ("Morenamed", [([","], ", @may Named Morenamed"), ([], "")])]
def formsT : List (PySem.Str × List (List PySem.Str × PySem.Str)) := formsT0 ++ formsT1 ++ formsT2 ++ formsT3
def toldT : List (PySem.Str × PySem.Str) := [("_", "one"), ("|", "line")]
def formKeys0 : List PySem.Str := ["Program",
  "Uses",
  "Decls",
  "Decl",
  "Let",
  "Sorted",
  "Names",
  "Morenames",
  "Fields",
  "Field",
  "Morefields",
  "Result",
  "Sort",
  "Fibreof",
  "Sorts",
  "Moresorts",
  "Pointname",
  "Block",
  "Statements",
  "Statement"]
def formKeys1 : List PySem.Str := ["Chain",
  "Called",
  "Else",
  "Otherwise",
  "To",
  "Cases",
  "Handlers",
  "Finally",
  "Into",
  "Posttext",
  "Mode",
  "Moremodes",
  "Rounding",
  "Flush",
  "Oneflag",
  "Traps",
  "Someflags",
  "Moreflags",
  "Args",
  "Moreexprs"]
def formKeys2 : List PySem.Str := ["Expr",
  "Either",
  "Moreor",
  "Both",
  "Moreand",
  "Negated",
  "Comparison",
  "Compared",
  "Cast",
  "Casts",
  "Castnumber",
  "Castround",
  "Sum",
  "Moresum",
  "Product",
  "Moreproduct",
  "Signed",
  "Giving",
  "Power",
  "Value"]
def formKeys3 : List PySem.Str := ["Suffixes",
  "First",
  "Listed",
  "Listrest",
  "Made",
  "Named",
  "Morenamed"]
def formKeys : List PySem.Str := formKeys0 ++ formKeys1 ++ formKeys2 ++ formKeys3
def toldKeys0 : List PySem.Str := ["_",
  "|"]
def toldKeys : List PySem.Str := toldKeys0
def noForm0 : List PySem.Str := ["|",
  "module",
  "_",
  "NAME",
  "use",
  "@decl",
  "record",
  "{",
  "}",
  "account",
  "CODE",
  "fn",
  "(",
  ")",
  "let",
  "=",
  ":",
  "[",
  "]",
  ","]
def noForm1 : List PySem.Str := ["@first",
  "@last",
  "@may",
  "->",
  "!",
  "packed",
  "NUMBER",
  "list",
  "of",
  "fibre",
  ".",
  "@in",
  "@out",
  "flags",
  "if",
  "while",
  "for",
  "in",
  "match",
  "return"]
def noForm2 : List PySem.Str := ["with",
  "try",
  "raise",
  "say",
  "@start",
  "@end",
  "yield",
  "post",
  "from",
  "else",
  "to",
  "is",
  "catch",
  "finally",
  "into",
  "TEXT",
  "rounding",
  "precision",
  "trap",
  "flush"]
def noForm3 : List PySem.Str := ["then",
  "or",
  "and",
  "not",
  "as",
  "-",
  "spawn",
  "resume",
  "picture",
  "giving",
  "^",
  "only",
  "make",
  "..",
  "@late"]
def noForm : List PySem.Str := noForm0 ++ noForm1 ++ noForm2 ++ noForm3
def noTold0 : List PySem.Str := ["module",
  "NAME",
  "use",
  "@decl",
  "record",
  "{",
  "}",
  "account",
  "CODE",
  "fn",
  "(",
  ")",
  "let",
  "=",
  ":",
  "[",
  "]",
  ",",
  "@first",
  "@last"]
def noTold1 : List PySem.Str := ["@may",
  "->",
  "!",
  "packed",
  "NUMBER",
  "list",
  "of",
  "fibre",
  ".",
  "@in",
  "@out",
  "flags",
  "if",
  "while",
  "for",
  "in",
  "match",
  "return",
  "with",
  "try"]
def noTold2 : List PySem.Str := ["raise",
  "say",
  "@start",
  "@end",
  "yield",
  "post",
  "from",
  "else",
  "to",
  "is",
  "catch",
  "finally",
  "into",
  "TEXT",
  "rounding",
  "precision",
  "trap",
  "flush",
  "then",
  "or"]
def noTold3 : List PySem.Str := ["and",
  "not",
  "as",
  "-",
  "spawn",
  "resume",
  "picture",
  "giving",
  "^",
  "only",
  "make",
  "..",
  "@late"]
def noTold : List PySem.Str := noTold0 ++ noTold1 ++ noTold2 ++ noTold3
def tabsL (K : PySem.W.Frag) (L : Addr → Option (List Value)) : Bool := (tabL.all fun t => He.tupB K t.1 t.2) && (tabB K (He.ga K "SIGNS") sgT && (formsL K L (He.ga K "FORMS") formsT && (noneB K (He.ga K "FORMS") noForm && (toldB K (He.ga K "TOLD") toldT && noneB K (He.ga K "TOLD") noTold))))
abbrev askAt : Nat := 60
/-- places beyond the last object that stands behind the top -/
def ALL : List Addr := List.range 1100
abbrev Al : Type := (He.AlD × Bool) × List (Option (List (Option (PySem.Str × Int))))
abbrev tabs (K : PySem.W.Frag) : Bool := tabsL K (tupAt K)
theorem tabs_of {g : Addr → Option Obj} {n : Nat} (h : tabsL (He.frG g (List.range n)) (tupG g n) = true) : tabs (He.frG g (List.range n)) = true := by
  unfold tabsL at h
  obtain ⟨h1, h2⟩ := He.ba h
  obtain ⟨h2, h3⟩ := He.ba h2
  obtain ⟨h3, h4⟩ := He.ba h3
  show tabsL _ _ = true
  unfold tabsL
  rw [h1, h2, formsL_mono (fun _ _ e => tupG_at e) h3, h4]
  rfl
def obsK (K : PySem.W.Frag) : Al := ((He.obsD fa fn K, tabs K), [He.dicW K (He.ga K "FORMS"), He.dicW K (He.ga K "TOLD")])
def valK (w : World) : Al := ((He.valD fn, true), [some (He.keysIn w.params formKeys), some (He.keysIn w.params toldKeys)])
def obsH (g : Addr → Option Obj) : Al := ((He.obsD fa fn (He.frG g ALL), tabsL (He.frG g ALL) (tupG g 1100)), [He.dicW (He.frG g ALL) (He.ga (He.frG g ALL) "FORMS"), He.dicW (He.frG g ALL) (He.ga (He.frG g ALL) "TOLD")])
theorem obsH_ok {g : Addr → Option Obj} {w : World} (h : obsH g = valK w) : obsK (He.frG g ALL) = valK w := by
  have h1 : (obsH g).1.1 = (valK w).1.1 := congrArg (fun z : Al => z.1.1) h
  have h2 : (obsH g).1.2 = true := congrArg (fun z : Al => z.1.2) h
  have h3 : (obsH g).2 = (valK w).2 := congrArg (fun z : Al => z.2) h
  exact Prod.ext (Prod.ext h1 (tabs_of h2)) h3
def hk : PySem.W.Hook where
  α := Al
  obs := fun s => obsH s.heap.get?
  val := valK
  says := fun w h => ∃ K : PySem.W.Frag, K.In h ∧ obsK K = valK w
  of := fun _ _ e => ⟨_, He.frG_in, obsH_ok e⟩
  keeps := fun _ _ _ ⟨K, hK, c⟩ k => ⟨K, PySem.W.Frag.In.keeps hK k, c⟩
def ob (s : PySem.W.SharedT) : Al := obsH (HandSHeadRun.getT s)
theorem ob_eq (s : PySem.W.SharedT) : ob s = hk.obs s.abs := by
  have e : HandSHeadRun.getT s = s.abs.heap.get? := funext (HandSHeadRun.getT_eq s)
  show obsH (HandSHeadRun.getT s) = obsH s.abs.heap.get?
  rw [e]
end La
set_option maxHeartbeats 0
noncomputable section
namespace La
open PySem PySem.Spec PyProof.Rows L2 PySem.W PySem.Calls HandSHeadRun
abbrev endR (w : World) (os : OsState) : Option SharedT := endF (stepQ (denQ tabQ) R.prog w) 8000 R.prog w os
abbrev qv : Program := PySem.W.view R.prog [askAt]
end La
end
set_option maxHeartbeats 0
noncomputable section
namespace La
open PySem PySem.Spec PyProof.Rows L2 PySem.W PySem.Calls HandSHeadRun
abbrev G1 (w : World) (os : OsState) : Prop := (endR w os).map (fun s => (looksF R.prog (boot_heap w.params) s.abs, seenQ qv names (importedModules R.prog.main.body) (fun s => xlAt qv [] s && recOk [] s) s.abs)) = some (true, openGood qv names)
theorem g1F (w : World) (os : OsState) : G1 (w.withFollow "special-get-raises" false) os := by kernel_rfl
theorem g1T (w : World) (os : OsState) : G1 (w.withFollow "special-get-raises" true) os := by kernel_rfl
theorem g1 (w : World) (os : OsState) : G1 w os := PySem.W.byRow2 (P := fun w => G1 w os) "special-get-raises" (fun w => g1F w os) (fun w => g1T w os) w
end La
end
set_option maxHeartbeats 0
noncomputable section
namespace La
open PySem PySem.Spec PyProof.Rows L2 PySem.W PySem.Calls HandSHeadRun
abbrev G2 (w : World) (os : OsState) : Prop := (endR w os).map (fun s => (ob s).1.1.1) = some true
theorem g2F (w : World) (os : OsState) : G2 (w.withFollow "special-get-raises" false) os := by kernel_rfl
theorem g2T (w : World) (os : OsState) : G2 (w.withFollow "special-get-raises" true) os := by kernel_rfl
theorem g2 (w : World) (os : OsState) : G2 w os := PySem.W.byRow2 (P := fun w => G2 w os) "special-get-raises" (fun w => g2F w os) (fun w => g2T w os) w
end La
end
set_option maxHeartbeats 0
noncomputable section
namespace La
open PySem PySem.Spec PyProof.Rows L2 PySem.W PySem.Calls HandSHeadRun
abbrev G3 (w : World) (os : OsState) : Prop := (endR w os).map (fun s => (ob s).1.1.2) = some (fn.map He.DefD.val)
theorem g3F (w : World) (os : OsState) : G3 (w.withFollow "special-get-raises" false) os := by kernel_rfl
theorem g3T (w : World) (os : OsState) : G3 (w.withFollow "special-get-raises" true) os := by kernel_rfl
theorem g3 (w : World) (os : OsState) : G3 w os := PySem.W.byRow2 (P := fun w => G3 w os) "special-get-raises" (fun w => g3F w os) (fun w => g3T w os) w
end La
end
set_option maxHeartbeats 0
noncomputable section
namespace La
open PySem PySem.Spec PyProof.Rows L2 PySem.W PySem.Calls HandSHeadRun
abbrev G4 (w : World) (os : OsState) : Prop := (endR w os).map (fun s => (ob s).1.2) = some true
theorem g4F (w : World) (os : OsState) : G4 (w.withFollow "special-get-raises" false) os := by kernel_rfl
theorem g4T (w : World) (os : OsState) : G4 (w.withFollow "special-get-raises" true) os := by kernel_rfl
theorem g4 (w : World) (os : OsState) : G4 w os := PySem.W.byRow2 (P := fun w => G4 w os) "special-get-raises" (fun w => g4F w os) (fun w => g4T w os) w
end La
end
set_option maxHeartbeats 0
noncomputable section
namespace La
open PySem PySem.Spec PyProof.Rows L2 PySem.W PySem.Calls HandSHeadRun
abbrev G5 (w : World) (os : OsState) : Prop := (endR w os).map (fun s => (ob s).2) = some [some (He.keysIn w.params formKeys), some (He.keysIn w.params toldKeys)]
theorem g5F (w : World) (os : OsState) : G5 (w.withFollow "special-get-raises" false) os := by kernel_rfl
theorem g5T (w : World) (os : OsState) : G5 (w.withFollow "special-get-raises" true) os := by kernel_rfl
theorem g5 (w : World) (os : OsState) : G5 w os := PySem.W.byRow2 (P := fun w => G5 w os) "special-get-raises" (fun w => g5F w os) (fun w => g5T w os) w
end La
end
set_option maxHeartbeats 0
noncomputable section
namespace La
open PySem PySem.Spec PyProof.Rows L2 PySem.W PySem.Calls HandSHeadRun
theorem run (w : World) : RunEqS R qv hk ob 8000 names w := by
  intro os
  have h1 := g1 w os
  have h2 := g2 w os
  have h3 := g3 w os
  have h4 := g4 w os
  have h5 := g5 w os
  unfold G1 at h1
  unfold G2 at h2
  unfold G3 at h3
  unfold G4 at h4
  unfold G5 at h5
  show (endR w os).map (fun s => (looksF R.prog (boot_heap w.params) s.abs, seenQ qv names (importedModules R.prog.main.body) (fun s => xlAt qv [] s && recOk [] s) s.abs, ob s)) = some (true, openGood qv names, hk.val w)
  cases e : endR w os with
  | none =>
    rw [e] at h1
    cases h1
  | some s =>
    rw [e] at h1 h2 h3 h4 h5
    have a1 : (looksF R.prog (boot_heap w.params) s.abs, seenQ qv names (importedModules R.prog.main.body) (fun s => xlAt qv [] s && recOk [] s) s.abs) = (true, openGood qv names) := Option.some.inj h1
    have a2 : (ob s).1.1.1 = true := Option.some.inj h2
    have a3 : (ob s).1.1.2 = fn.map He.DefD.val := Option.some.inj h3
    have a4 : (ob s).1.2 = true := Option.some.inj h4
    have a5 : (ob s).2 = [some (He.keysIn w.params formKeys), some (He.keysIn w.params toldKeys)] := Option.some.inj h5
    have a6 : ob s = valK w := Prod.ext (Prod.ext (Prod.ext a2 a3) a4) a5
    have b1 : looksF R.prog (boot_heap w.params) s.abs = true := congrArg Prod.fst a1
    have b2 : seenQ qv names (importedModules R.prog.main.body) (fun s => xlAt qv [] s && recOk [] s) s.abs = openGood qv names := congrArg Prod.snd a1
    show some (looksF R.prog (boot_heap w.params) s.abs, seenQ qv names (importedModules R.prog.main.body) (fun s => xlAt qv [] s && recOk [] s) s.abs, ob s) = _
    rw [b1, b2, a6]
    rfl
end La
end
set_option maxHeartbeats 200000
/-! The program's scanner as total functions on bytes; no library. -/
namespace La
open EwTree
abbrev Bytes := List UInt8
/-- a byte's class, as a sign's code -/
def sg (b : UInt8) : Nat := if isSmall b = true then 97 else if isBig b = true then 65 else if isDigit b = true then 48 else if b = 95 then 95 else 63
/-- what a reader of one part answers -/
inductive RP where
  | ok (k : List Nat) (e : Nat)
  | bad (r p : Nat)
  deriving DecidableEq
def signs (s : String) : List Nat := s.toList.map fun c => c.toNat
def inL (z : List Nat) (b : UInt8) : Bool := decide (sg b ∈ z)
def runTo (p : UInt8 → Bool) (bs : Bytes) (i : Nat) : Nat := i + ((bs.drop i).takeWhile p).length
theorem run_step {bs : Bytes} {p : UInt8 → Bool} {i : Nat} (h : i < bs.length) (hp : p bs[i] = true) : runTo p bs i = runTo p bs (i + 1) := by
  unfold runTo
  rw [List.drop_eq_getElem_cons h, List.takeWhile_cons, if_pos hp, List.length_cons]
  omega
theorem run_stop {bs : Bytes} {p : UInt8 → Bool} {i : Nat} (h : i < bs.length) (hp : p bs[i] = false) : runTo p bs i = i := by
  unfold runTo
  rw [List.drop_eq_getElem_cons h, List.takeWhile_cons, if_neg (by rw [hp]; simp), List.length_nil]
  rfl
theorem run_end {bs : Bytes} {p : UInt8 → Bool} : runTo p bs bs.length = bs.length := by
  unfold runTo
  rw [List.drop_length]
  rfl
theorem run_le {bs : Bytes} {p : UInt8 → Bool} {i : Nat} (h : i ≤ bs.length) : i ≤ runTo p bs i ∧ runTo p bs i ≤ bs.length := by
  unfold runTo
  have e : ((bs.drop i).takeWhile p).length ≤ (bs.drop i).length := (List.takeWhile_sublist p).length_le
  rw [List.length_drop] at e
  omega
def byteAt (bs : Bytes) (i : Nat) : Int := match bs[i]? with
  | some b => (b.toNat : Int)
  | none => -1
def digitAt (bs : Bytes) (i : Nat) : Bool := match bs[i]? with
  | some b => decide (sg b = 48)
  | none => false
/-- a comment's end ahead of its blanks, or the place of its fault -/
def cEnd : Nat → Bytes → Bool × Nat
  | j, [] => (true, j)
  | j, c :: r => if c = 10 then (true, j) else if isSeen c = true then cEnd (j + 1) r else (false, j)
def cBack (bs : Bytes) : Nat → Nat
  | 0 => 0
  | j + 1 => if bs[j]? = some 32 then cBack bs j else j + 1
def readComment (bs : Bytes) (i : Nat) : RP := let e := cEnd i (bs.drop i)
  if e.1 = true then .ok (signs "#") (cBack bs e.2) else .bad 1 e.2
def readCode (bs : Bytes) (i : Nat) : RP := let e := runTo (inL (signs "A0")) bs i
  if 2 ≤ (e : Int) - i ∧ (e : Int) - i ≤ 8 then .ok (signs "CODE") e else .bad 1 i
def expAt (bs : Bytes) (i : Nat) : Nat := if byteAt bs i ≠ 101 then i else if digitAt bs (i + 1) = true then i + 1 else if byteAt bs (i + 1) = 45 ∧ digitAt bs (i + 2) = true then i + 2 else i
def rightExp (d : Bytes) (neg : Bool) : Bool := if d = [48] then !neg else decide (d.length ≤ 5) && !(d.head? == some 48)
end La
namespace La
open EwTree
def itemEnd (bs : Bytes) (i : Nat) : Nat := match bs[i]? with
  | none => i
  | some c => if c = 92 then (if byteAt bs (i + 1) = 34 ∨ byteAt bs (i + 1) = 92 ∨ byteAt bs (i + 1) = 110 then i + 2 else i) else if isSeen c = true then i + 1 else i
/-- a text's items from place p on, c of them read -/
def textAt (bs : Bytes) : Nat → Nat → Nat → RP
  | 0, _, _ => .bad 3 bs.length
  | f + 1, p, c => match bs[p]? with
    | none => .bad 3 bs.length
    | some b => if b = 34 then .ok (signs "TEXT") (p + 1) else if c = 1024 then .bad 1 p else if b = 92 ∧ p + 1 = bs.length then .bad 3 bs.length
      else if itemEnd bs p = p then .bad 1 p else textAt bs f (itemEnd bs p) (c + 1)
def readText (bs : Bytes) (i : Nat) : RP := textAt bs (bs.length + 1) (i + 1) 0
theorem itemEnd_le {bs : Bytes} {i : Nat} : i ≤ itemEnd bs i ∧ itemEnd bs i ≤ i + 2 := by
  unfold itemEnd
  repeat' split
  all_goals omega
end La
namespace La
open EwTree
def PLAIN : List Nat := [109, 120, 100, 115, 104, 105]
def rightNum (first : Bytes) (pt : Bool) (ex : Bytes) (neg : Bool) (mark : Bytes) : Bool :=
  if mark = [112] then !pt && (ex.isEmpty && decide (first.length ≤ 31))
  else if mark ≠ [] ∧ (1 < mark.length ∨ ∀ b, mark.head? = some b → b.toNat ∉ PLAIN) then false
  else if first.head? = some 48 ∧ 1 < first.length then false
  else if ex ≠ [] then decide (mark.length = 1) && rightExp ex neg
  else true
def readNumber (bs : Bytes) (i : Nat) : RP :=
  let whole := runTo (inL (signs "0")) bs i
  let broken := if byteAt bs whole = 46 ∧ digitAt bs (whole + 1) = true then runTo (inL (signs "0")) bs (whole + 1) else whole
  let digits := expAt bs broken
  let raised := runTo (inL (signs "0")) bs digits
  let fin := runTo (inL (signs "aA0_")) bs raised
  if rightNum ((bs.take whole).drop i) (decide (whole < broken)) ((bs.take raised).drop digits) (decide (digits = broken + 2)) ((bs.take fin).drop raised) = true ∧ fin - i ≤ 255 then .ok (signs "NUMBER") fin else .bad 1 i
end La
namespace La
open EwTree
def codes (bs : Bytes) : List Nat := bs.map fun b => b.toNat
def keyL : List (List Nat) := KEYWORDS.map codes
def readWord (bs : Bytes) (i : Nat) : RP :=
  let fin := runTo (inL (signs "a0_")) bs i
  let w := codes ((bs.take fin).drop i)
  if runTo (inL (signs "a")) bs i = fin ∧ w ∈ keyL then .ok w fin else if fin - i ≤ 31 then .ok (signs "NAME") fin else .bad 1 i
end La
namespace La
open EwTree
/-- signs: their bytes, their kind's signs -/
def sgM : List (List Nat × List Nat) := [([40], [40]), ([41], [41]), ([91], [91]), ([93], [93]), ([123], [123]), ([125], [125]), ([44], [44]), ([58], [58]), ([46], [46]), ([46, 46], [46, 46]), ([45, 62], [45, 62]), ([61], [61]), ([61, 61], [61, 61]), ([33, 61], [33, 61]), ([60], [60]), ([60, 61], [60, 61]), ([62], [62]), ([62, 61], [62, 61]), ([43], [43]), ([45], [45]), ([42], [42]), ([47], [47]), ([47, 47], [47, 47]), ([37], [80, 69, 82, 67, 69, 78, 84]), ([94], [94])]
def readSign (bs : Bytes) (i : Nat) : RP :=
  match sgM.lookup (codes ((bs.take (i + 2)).drop i)), decide (i + 2 ≤ bs.length) with
  | some z, true => .ok z (i + 2)
  | _, _ => match sgM.lookup (codes ((bs.take (i + 1)).drop i)), decide (i + 1 ≤ bs.length) with
    | some z, true => .ok z (i + 1)
    | _, _ => .bad 1 i
def readPart (bs : Bytes) (i : Nat) : RP := match bs[i]? with
  | none => .bad 0 0
  | some c => if c = 35 then readComment bs i else if sg c = 97 then readWord bs i else if sg c = 65 then readCode bs i else if sg c = 48 then readNumber bs i else if c = 34 then readText bs i else readSign bs i
/-- a part: its kind, where it begins and ends -/
structure Part where
  kind : List Nat
  lo : Nat
  hi : Nat
  deriving DecidableEq
def BLANK : List Nat := [10, 32, 59]
def scanAt (bs : Bytes) : Nat → Nat → List Part × Option (Nat × Nat)
  | 0, _ => ([], none)
  | f + 1, i => match bs[i]? with
    | none => ([], none)
    | some c => if c.toNat ∈ BLANK then scanAt bs f (i + 1) else match readPart bs i with
      | .bad r p => ([], some (r, p))
      | .ok k e => (⟨k, i, e⟩ :: (scanAt bs f e).1, (scanAt bs f e).2)
def scan (bs : Bytes) : List Part × Option (Nat × Nat) := scanAt bs (bs.length + 1) 0
end La
set_option maxHeartbeats 4000000
namespace La
open PySem PySem.Spec PyProof.Rows L2
def Env (w : World) (K : PySem.W.Frag) (mg : Str → Option Value) : Prop := (∃ h : Heap, K.In h ∧ h.Ns mainGlobals mg) ∧ obsK K = valK w
section
variable {w : World} {K : PySem.W.Frag} {mg : Str → Option Value}
theorem Env.d (e : Env w K mg) : He.SaysD fa fn K := congrArg (fun z : Al => z.1.1) e.2
theorem Env.t (e : Env w K mg) : tabs K = true := congrArg (fun z : Al => z.1.2) e.2
theorem Env.fk (e : Env w K mg) {f : He.Fa} (h : f ∈ La.fa) : f.ok K = true := List.all_eq_true.mp (He.ba (show ((La.fa.all fun f => f.ok K) && fn.all fun d => d.ok K) = true from congrArg (fun z : He.AlD => z.1) e.d)).1 _ h
theorem Env.glo (e : Env w K mg) {x : Str} (h : He.Fa.glo x ∈ fa) : mg x = some (.ref (He.ga K x)) := by
  obtain ⟨h', X, G⟩ := e.1
  exact He.glo_ok X G (e.fk h)
theorem Env.free (e : Env w K mg) {x : Str} (h : He.Fa.free x ∈ fa) : mg x = none := by
  obtain ⟨h', X, G⟩ := e.1
  exact He.free_ok X G (e.fk h)
theorem Env.str (e : Env w K mg) {x z : Str} (h : He.Fa.str x z ∈ fa) : ∃ t, mg x = some (.str z t) := by
  obtain ⟨h', X, G⟩ := e.1
  exact He.str_ok X G (e.fk h)
theorem Env.int (e : Env w K mg) {x : Str} {i : Int} (h : He.Fa.int x i ∈ fa) : ∃ t, mg x = some (.int i t) := by
  obtain ⟨h', X, G⟩ := e.1
  exact He.int_ok X G (e.fk h)
theorem Env.cls (e : Env w K mg) {x : Str} (h : He.Fa.cls x ∈ fa) : Cls K (He.ga K x) := He.cls_ok (e.fk h)
theorem Env.noat (e : Env w K mg) {x f : Str} (h : He.Fa.noat x f ∈ fa) : NoAttr K (He.ga K x) f := He.noat_ok (e.fk h)
theorem Env.meth (e : Env w K mg) {x m : Str} (h : He.Fa.meth x m ∈ fa) : Meth K (He.ga K x) m (He.ma K (He.ga K x) m) := He.meth_ok (e.fk h)
theorem Env.mkr (e : Env w K mg) {x : Str} (h : He.Fa.mkr x ∈ fa) : Mk K (He.ga K x) (He.ma K (He.ga K x) "__init__") := He.mkr_ok (e.fk h)
theorem Env.tup (e : Env w K mg) (H : Hp) {x : Str} {l : List He.Dv} (h : (x, l) ∈ tabL) : SqT K H (He.ga K x) (l.map (He.Dv.v K)) :=
  He.tupB_ok (List.all_eq_true.mp (He.ba e.t).1 _ h) H
theorem Env.signs (e : Env w K mg) : tabB K (He.ga K "SIGNS") sgT = true := (He.ba (He.ba e.t).2).1
theorem Env.forms (e : Env w K mg) : formsB K (He.ga K "FORMS") formsT = true := (He.ba (He.ba (He.ba e.t).2).2).1
theorem Env.noForm (e : Env w K mg) : noneB K (He.ga K "FORMS") noForm = true := (He.ba (He.ba (He.ba (He.ba e.t).2).2).2).1
theorem Env.told (e : Env w K mg) : toldB K (He.ga K "TOLD") toldT = true := (He.ba (He.ba (He.ba (He.ba (He.ba e.t).2).2).2).2).1
theorem Env.noTold (e : Env w K mg) : noneB K (He.ga K "TOLD") noTold = true := (He.ba (He.ba (He.ba (He.ba (He.ba e.t).2).2).2).2).2
theorem Env.kf (e : Env w K mg) : ∃ es n, KDict K w (He.ga K "FORMS") es n := He.dicW_ok (Option.some.inj (congrArg (fun z : Al => z.2[0]?) e.2))
theorem Env.kt (e : Env w K mg) : ∃ es n, KDict K w (He.ga K "TOLD") es n := He.dicW_ok (Option.some.inj (congrArg (fun z : Al => z.2[1]?) e.2))
end
/-- a def that keeps a promise, as its callers want it -/
def Callee (P : Program) (w : World) (K : PySem.W.Frag) (mg : Str → Option Value) (base : Heap) (k : Nat) (x : Str) (ps : List Str) (sp : Sp) : Prop :=
  ∃ f fd, FnOk P w K mg base CX0 k f fd ps sp ∧ mg x = some (.ref f) ∧ PySem.W.keepIn K (.ref f) = true ∧ Binds K fd ps []
/-- a method that keeps a promise -/
def CalleeM (P : Program) (w : World) (K : PySem.W.Frag) (mg : Str → Option Value) (base : Heap) (k : Nat) (C m : Str) (ps : List Str) (sp : Sp) : Prop :=
  ∃ fd, FnOk P w K mg base CX0 k (He.ma K (He.ga K C) m) fd ps sp ∧ Binds K fd ps []
/-- bytes as Python's numbers -/
def B (bs : List UInt8) : List V := bs.map fun (b : UInt8) => V.int (b.toNat : Int)
theorem B_len (bs : List UInt8) : (B bs).length = bs.length := List.length_map ..
theorem B_get {bs : List UInt8} {i : Nat} {b : UInt8} (h : bs[i]? = some b) : (B bs)[i]? = some (V.int (b.toNat : Int)) := by
  unfold B
  rw [List.getElem?_map, h]
  rfl
def strL (l : List Nat) : Str := ⟨l.toArray⟩
/-- a part's answer lies at p -/
def IsR (H : Hp) (p : Addr) : RP → Prop
  | .ok k e => H p = some (.tup [.str (strL k), .int (e : Int), .non])
  | .bad r x => ∃ q, H p = some (.tup [.str "", .int (x : Int), .ref q]) ∧ H q = some (.tup [.int (r : Int), .int (x : Int)])
/-- something new is handed back: the answer r -/
def RetR (H : Hp) (Q : VK) (r : RP) : Prop := ∀ H' p, Same H H' → IsR H' p r → Q (.ref p) H'
theorem same_upd {H : Hp} {p : Addr} {o : HO} (h : H p = none) : Same H (upd H p o) := fun b o' hb => by
  rw [upd_ne (by intro e; rw [e, h] at hb; cases hb)]
  exact hb
theorem ifT {c : Bool} {A B : Prop} (hc : c = true) (h : A) : if c = true then A else B := by
  rw [if_pos hc]
  exact h
theorem ifF {c : Bool} {A B : Prop} (hc : c = false) (h : B) : if c = true then A else B := by
  rw [hc, if_neg Bool.false_ne_true]
  exact h
/-- behind a statement that goes on: the next one -/
theorem seq_by {t u : TS} {D : Ends} {σ : L2.St} {H : Hp} (h : t { D with nx := u D } σ H) : tNext { D with nx := tSeq t u D } σ H := h
/-- an if whose test is a known truth value -/
theorem if_by {c : TT} {t u : TS} {D : Ends} {σ : L2.St} {H : Hp} (b : Bool) (hc : ∀ Q : Bool → Hp → Prop, Q b H → c σ H Q) (h1 : b = true → t D σ H) (h2 : b = false → u D σ H) : tIfS c t u D σ H := by
  refine hc _ ?_
  cases b with
  | true => exact h1 rfl
  | false => exact h2 rfl
end La
set_option maxHeartbeats 4000000
namespace La
open PySem PySem.Spec PyProof.Rows L2
local macro_rules | `(tactic| walk_at "go") => `(tactic| simp only [L2.tSeq, L2.tIfS, L2.tTest, L2.tChain, L2.tVar, L2.tC, L2.tRet, L2.tIf, L2.tOp, L2.tNext, L2.start, L2.rI0, L2.rI, L2.rEq, L2.rNe, L2.tB, L2.tAnd, L2.tOr, L2.tNot, L2.tAndV, L2.tOrV, L2.tNotV, L2.tAsg, L2.gName, L2.tCons, L2.tNil, L2.tCall, L2.tCB, L2.tUn, L2.rU, L2.tTup,
  V.int.injEq, V.str.injEq, V.bl.injEq, V.ref.injEq, Option.some.injEq, exists_eq_left', exists_eq_left, exists_eq_right, exists_eq_right', exists_and_left, true_and, and_true, List.map, List.length, List.replicate, List.append, List.cons_append, List.nil_append, List.append_nil, List.getElem?_cons_zero, List.getElem?_cons_succ, List.set_cons_zero, List.set_cons_succ, decide_eq_true_eq, Bool.false_eq_true, if_false, if_true])
section
variable {P : Program} {w : World} {K : PySem.W.Frag} {mg : Str → Option Value} {base : Heap} {f : Addr} {fd : FuncData}
/-! byte_class -/
def spByteClass : Sp := fun vs H Q _ => ∃ b : UInt8, vs = [.int b.toNat] ∧ Q (.str ⟨#[sg b]⟩) H
theorem sc_byte_class : FnScope ["byte"] ["byte"] (defScope s_byte_class) := ⟨rfl, rfl, rfl, by decide +kernel, rfl, by decide +kernel, by decide +kernel⟩
abbrev F_byte_class (K : PySem.W.Frag) (f : Addr) (fd : FuncData) : Prop := FunD K "byte_class" "byte_class" (defArgs s_byte_class) (defBody s_byte_class) (defScope s_byte_class) [] [] f fd
theorem scal_ii (i j : Int) : scal (V.int i) (V.int j) = true := rfl
theorem ok_byte_class (e : Env w K mg) (F : F_byte_class K f fd) : FnOk P w K mg base CX0 1 f fd ["byte"] spByteClass := by
  refine F.ok sc_byte_class (fun vs H Q E h => ?_) (fun cdv A outer s H vs Q E hr h => ⟨_, PSs.nox
    (pss_cons (ps_if (pt_chain op_le op_le pe_int (pv 0) pe_int) (pss_one (ps_ret pe_str)) pss_nil)
      (pss_cons (ps_if (pt_chain op_le op_le pe_int (pv 0) pe_int) (pss_one (ps_ret pe_str)) pss_nil)
      (pss_cons (ps_if (pt_chain op_le op_le pe_int (pv 0) pe_int) (pss_one (ps_ret pe_str)) pss_nil)
      (pss_one (ps_ret (pe_ifExp (pt_cmpR op_eq (pv 0) pe_int (nomark _)) pe_str pe_str)))))), ?_⟩)
  · obtain ⟨b, rfl, _⟩ := h
    rfl
  · obtain ⟨b, rfl, hQ⟩ := h
    have e1 : EwTree.isSmall b = (decide (97 ≤ (b.toNat : Int)) && decide ((b.toNat : Int) ≤ 122)) := by
      unfold EwTree.isSmall
      simp only [UInt8.le_iff_toNat_le]
      congr 1 <;> (apply decide_eq_decide.mpr; show _ ↔ _; simp; omega)
    have e2 : EwTree.isBig b = (decide (65 ≤ (b.toNat : Int)) && decide ((b.toNat : Int) ≤ 90)) := by
      unfold EwTree.isBig
      simp only [UInt8.le_iff_toNat_le]
      congr 1 <;> (apply decide_eq_decide.mpr; show _ ↔ _; simp; omega)
    have e3 : EwTree.isDigit b = (decide (48 ≤ (b.toNat : Int)) && decide ((b.toNat : Int) ≤ 57)) := by
      unfold EwTree.isDigit
      simp only [UInt8.le_iff_toNat_le]
      congr 1 <;> (apply decide_eq_decide.mpr; show _ ↔ _; simp; omega)
    have e4 : (b = 95) = ((b.toNat : Int) = 95) := by
      rw [← UInt8.toNat_inj]
      apply propext
      show b.toNat = 95 ↔ _
      omega
    have eq : sg b = if 97 ≤ (b.toNat : Int) ∧ (b.toNat : Int) ≤ 122 then 97 else if 65 ≤ (b.toNat : Int) ∧ (b.toNat : Int) ≤ 90 then 65 else if 48 ≤ (b.toNat : Int) ∧ (b.toNat : Int) ≤ 57 then 48 else if (b.toNat : Int) = 95 then 95 else 63 := by
      unfold sg
      simp only [e1, e2, e3, e4, Bool.and_eq_true, decide_eq_true_eq]
    rw [eq] at hQ
    walk_at "go"
    simp only [scal_ii, true_and]
    generalize (b.toNat : Int) = x at hQ
    repeat' split
    all_goals (first | (have q := hQ; rw [if_pos (by omega)] at q; exact q) | (rw [if_neg (by omega)] at hQ))
    all_goals (first | (have q := hQ; rw [if_pos (by omega)] at q; exact q) | (rw [if_neg (by omega)] at hQ))
    all_goals (first | (have q := hQ; rw [if_pos (by omega)] at q; exact q) | (rw [if_neg (by omega)] at hQ))
    all_goals (first | (have q := hQ; rw [if_pos (by omega)] at q; exact q) | (rw [if_neg (by omega)] at hQ))
    all_goals exact hQ
theorem c_byte_class (e : Env w K mg) : Callee P w K mg base 1 "byte_class" ["byte"] spByteClass := by
  obtain ⟨fd, F⟩ := e.d.def_ 1 (d := d_byte_class) rfl
  exact ⟨_, fd, ok_byte_class e F, e.glo (x := "byte_class") (List.mem_of_getElem? (i := 1) rfl), F.kp, F.bindsN fun _ _ _ _ _ _ us hl => match us, hl with | [_], _ => rfl⟩
/-! run_end -/
def spRunEnd (K : PySem.W.Frag) : Sp := fun vs H Q _ => ∃ (a : Addr) (bs : List UInt8) (i : Nat) (z : Str), vs = [.ref a, .int (i : Int), .str z] ∧ SqL K H a (B bs) ∧ i ≤ bs.length ∧ Q (.int (runTo (inL z.cps.toList) bs i : Int)) H
theorem sc_run_end : FnScope ["text", "at", "classes"] ["text", "at", "classes"] (defScope s_run_end) := ⟨rfl, rfl, rfl, by decide +kernel, rfl, by decide +kernel, by decide +kernel⟩
abbrev F_run_end (K : PySem.W.Frag) (f : Addr) (fd : FuncData) : Prop := FunD K "run_end" "run_end" (defArgs s_run_end) (defBody s_run_end) (defScope s_run_end) [] [] f fd
theorem ok_run_end (e : Env w K mg) (F : F_run_end K f fd) : FnOk P w K mg base CX0 2 f fd ["text", "at", "classes"] (spRunEnd K) := by
  obtain ⟨f_byte_class, fd_byte_class, G_byte_class, m_byte_class, k_byte_class, b_byte_class⟩ := c_byte_class (P := P) (w := w) (base := base) e
  have m_len : mg "len" = none := e.free (List.mem_of_getElem? (i := 103) rfl)
  refine F.ok sc_run_end (fun vs H Q E h => ?_) (fun cdv A outer s H vs Q E hr h => ⟨_, PSs.nox
    (pss_cons (ps_while PassesOwn.never (PW.pt (pw_and (pt_cmpR op_lt (pv 1) (pe_callB call_len_seq (by rfl) m_len PySem.boot_len (pa_cons (pv 0) pa_nil)) (nomark _)) (pw_and1 (pt_cmpR op_in_sign (pe_call G_byte_class (hr.mono (by decide)) rfl m_byte_class k_byte_class b_byte_class .nil pass0 (pa_cons (pe_ix ix_list (pv 0) (pv 1) (fun _ _ => rfl)) pa_nil)) (pv 2) rfl)))) (pss_one (ps_aug (i := 1) sc_run_end.nd rfl (Or.inl rfl) pe_int ip_add)))
      (pss_one (ps_ret (pv 1)))), ?_⟩)
  · obtain ⟨a, bs, i, z, rfl, _⟩ := h
    rfl
  · obtain ⟨a, bs, i, z, rfl, hS, hi, hQ⟩ := h
    refine ⟨fun m σ H' => H' = H ∧ ∃ j : Nat, σ = [some (.ref a), some (.int (j : Int)), some (.str z)] ∧ j ≤ bs.length ∧ m = bs.length - j ∧ runTo (inL z.cps.toList) bs i = runTo (inL z.cps.toList) bs j,
      ⟨_, rfl, i, rfl, hi, rfl, rfl⟩, ?_⟩
    rintro m σ H' ⟨rfl, j, rfl, hj, rfl, eq⟩
    refine ⟨_, rfl, _, rfl, _, _, rfl, .inl hS, _, _, rfl, rfl, _, rfl, ?_⟩
    by_cases hlt : j < bs.length
    · refine ifT (decide_eq_true (by rw [B_len]; omega)) ?_
      refine ⟨_, rfl, _, rfl, _, _, _, _, rfl, rfl, hS, atI_nat (B_get (List.getElem?_eq_getElem hlt)), bs[j], rfl, _, rfl, _, _, rfl, rfl, _, rfl, ?_⟩
      cases hp : inL z.cps.toList bs[j] with
      | true =>
        refine ifT hp ?_
        refine ⟨_, fun _ _ h => h, _, rfl, _, _, rfl, rfl, bs.length - (j + 1), by omega, rfl, j + 1, rfl, by omega, rfl, ?_⟩
        rw [eq, run_step hlt hp]
      | false =>
        refine ifF hp ?_
        rw [eq, run_stop hlt hp] at hQ
        exact ⟨_, rfl, hQ⟩
    · refine ifF (decide_eq_false (by rw [B_len]; omega)) (ifF rfl ?_)
      have e1 : j = bs.length := by omega
      subst e1
      rw [eq, La.run_end] at hQ
      exact ⟨_, rfl, hQ⟩
theorem c_run_end (e : Env w K mg) : Callee P w K mg base 2 "run_end" ["text", "at", "classes"] (spRunEnd K) := by
  obtain ⟨fd, F⟩ := e.d.def_ 2 (d := d_run_end) rfl
  exact ⟨_, fd, ok_run_end e F, e.glo (x := "run_end") (List.mem_of_getElem? (i := 2) rfl), F.kp, F.bindsN fun _ _ _ _ _ _ us hl => match us, hl with | [_, _, _], _ => rfl⟩
end
end La
set_option maxHeartbeats 4000000
namespace La
open PySem PySem.Spec PyProof.Rows L2
section
variable {P : Program} {w : World} {K : PySem.W.Frag} {mg : Str → Option Value} {base : Heap} {f : Addr} {fd : FuncData}
/-! byte_at -/
def spByteAt (K : PySem.W.Frag) : Sp := fun vs H Q _ => ∃ (a : Addr) (bs : Bytes) (i : Nat), vs = [.ref a, .int (i : Int)] ∧ SqL K H a (B bs) ∧ Q (.int (byteAt bs i)) H
theorem sc_byte_at : FnScope ["text", "at"] ["text", "at"] (defScope s_byte_at) := ⟨rfl, rfl, rfl, by decide +kernel, rfl, by decide +kernel, by decide +kernel⟩
abbrev F_byte_at (K : PySem.W.Frag) (f : Addr) (fd : FuncData) : Prop := FunD K "byte_at" "byte_at" (defArgs s_byte_at) (defBody s_byte_at) (defScope s_byte_at) [] [] f fd
theorem ok_byte_at (e : Env w K mg) (F : F_byte_at K f fd) : FnOk P w K mg base CX0 1 f fd ["text", "at"] (spByteAt K) := by
  have m_len : mg "len" = none := e.free (List.mem_of_getElem? (i := 103) rfl)
  refine F.ok sc_byte_at (fun vs H Q E h => ?_) (fun cdv A outer s H vs Q E hr h => ⟨_, PSs.nox
    (pss_one (ps_ret (pe_ifExp (pt_cmpR op_lt (pv 1) (pe_callB call_len_seq (by rfl) m_len PySem.boot_len (pa_cons (pv 0) pa_nil)) (nomark _)) (pe_ix ix_list (pv 0) (pv 1) (fun _ _ => rfl)) (pe_un un_neg pe_int)))), ?_⟩)
  · obtain ⟨a, bs, i, rfl, _⟩ := h
    rfl
  · obtain ⟨a, bs, i, rfl, hS, hQ⟩ := h
    refine ⟨_, rfl, _, rfl, _, _, rfl, .inl hS, _, _, rfl, rfl, _, rfl, ?_⟩
    by_cases hlt : i < bs.length
    · refine ifT (decide_eq_true (by rw [B_len]; omega)) ?_
      have e1 : byteAt bs i = (bs[i].toNat : Int) := by
        unfold byteAt
        rw [List.getElem?_eq_getElem hlt]
      rw [e1] at hQ
      exact ⟨_, rfl, _, rfl, _, _, _, _, rfl, rfl, hS, atI_nat (B_get (List.getElem?_eq_getElem hlt)), hQ⟩
    · refine ifF (decide_eq_false (by rw [B_len]; omega)) ?_
      have e1 : byteAt bs i = -1 := by
        unfold byteAt
        rw [List.getElem?_eq_none (by omega)]
      rw [e1] at hQ
      exact ⟨_, rfl, hQ⟩
theorem c_byte_at (e : Env w K mg) : Callee P w K mg base 1 "byte_at" ["text", "at"] (spByteAt K) := by
  obtain ⟨fd, F⟩ := e.d.def_ 3 (d := d_byte_at) rfl
  exact ⟨_, fd, ok_byte_at e F, e.glo (x := "byte_at") (List.mem_of_getElem? (i := 3) rfl), F.kp, F.bindsN fun _ _ _ _ _ _ us hl => match us, hl with | [_, _], _ => rfl⟩
/-! digit_at -/
def spDigitAt (K : PySem.W.Frag) : Sp := fun vs H Q _ => ∃ (a : Addr) (bs : Bytes) (i : Nat), vs = [.ref a, .int (i : Int)] ∧ SqL K H a (B bs) ∧ Q (.bl (digitAt bs i)) H
theorem sc_digit_at : FnScope ["text", "at"] ["text", "at"] (defScope s_digit_at) := ⟨rfl, rfl, rfl, by decide +kernel, rfl, by decide +kernel, by decide +kernel⟩
abbrev F_digit_at (K : PySem.W.Frag) (f : Addr) (fd : FuncData) : Prop := FunD K "digit_at" "digit_at" (defArgs s_digit_at) (defBody s_digit_at) (defScope s_digit_at) [] [] f fd
theorem dec_str1 (m n : Nat) : decide (V.str ⟨#[m]⟩ = V.str ⟨#[n]⟩) = decide (m = n) := by
  apply decide_eq_decide.mpr
  simp
theorem ok_digit_at (e : Env w K mg) (F : F_digit_at K f fd) : FnOk P w K mg base CX0 2 f fd ["text", "at"] (spDigitAt K) := by
  obtain ⟨f_byte_class, fd_byte_class, G_byte_class, m_byte_class, k_byte_class, b_byte_class⟩ := c_byte_class (P := P) (w := w) (base := base) e
  have m_len : mg "len" = none := e.free (List.mem_of_getElem? (i := 103) rfl)
  refine F.ok sc_digit_at (fun vs H Q E h => ?_) (fun cdv A outer s H vs Q E hr h => ⟨_, PSs.nox
    (pss_one (ps_ret (pe_and (pe_cmpR op_lt (pv 1) (pe_callB call_len_seq (by rfl) m_len PySem.boot_len (pa_cons (pv 0) pa_nil)) (nomark _)) (pe_one (pe_cmpR op_eq (pe_call G_byte_class (hr.mono (by decide)) rfl m_byte_class k_byte_class b_byte_class .nil pass0 (pa_cons (pe_ix ix_list (pv 0) (pv 1) (fun _ _ => rfl)) pa_nil)) pe_str (nomark _)))))), ?_⟩)
  · obtain ⟨a, bs, i, rfl, _⟩ := h
    rfl
  · obtain ⟨a, bs, i, rfl, hS, hQ⟩ := h
    refine ⟨_, rfl, _, rfl, _, _, rfl, .inl hS, _, _, rfl, rfl, _, rfl, ?_⟩
    by_cases hlt : i < bs.length
    · refine ifT (decide_eq_true (by rw [B_len]; omega)) ?_
      refine ⟨_, rfl, _, rfl, _, _, _, _, rfl, rfl, hS, atI_nat (B_get (List.getElem?_eq_getElem hlt)), bs[i], rfl, rfl, ?_⟩
      have e1 : digitAt bs i = decide (sg bs[i] = 48) := by
        unfold digitAt
        rw [List.getElem?_eq_getElem hlt]
      have e2 : decide (V.str ⟨#[sg bs[i]]⟩ = V.str (Str.ofString "0")) = decide (sg bs[i] = 48) := dec_str1 _ _
      rw [e2, ← e1]
      exact hQ
    · refine ifF (decide_eq_false (by rw [B_len]; omega)) ?_
      have e1 : digitAt bs i = false := by
        unfold digitAt
        rw [List.getElem?_eq_none (by omega)]
      rw [e1] at hQ
      exact hQ
theorem c_digit_at (e : Env w K mg) : Callee P w K mg base 2 "digit_at" ["text", "at"] (spDigitAt K) := by
  obtain ⟨fd, F⟩ := e.d.def_ 4 (d := d_digit_at) rfl
  exact ⟨_, fd, ok_digit_at e F, e.glo (x := "digit_at") (List.mem_of_getElem? (i := 4) rfl), F.kp, F.bindsN fun _ _ _ _ _ _ us hl => match us, hl with | [_, _], _ => rfl⟩
/-! right, wrong -/
def spRight : Sp := fun vs H Q _ => ∃ (k : List Nat) (i : Nat), vs = [.str (strL k), .int (i : Int)] ∧ RetR H Q (.ok k i)
theorem sc_right : FnScope ["kind", "end"] ["kind", "end"] (defScope s_right) := ⟨rfl, rfl, rfl, by decide +kernel, rfl, by decide +kernel, by decide +kernel⟩
abbrev F_right (K : PySem.W.Frag) (f : Addr) (fd : FuncData) : Prop := FunD K "right" "right" (defArgs s_right) (defBody s_right) (defScope s_right) [] [] f fd
theorem ok_right (e : Env w K mg) (F : F_right K f fd) : FnOk P w K mg base CX0 1 f fd ["kind", "end"] spRight := by
  refine F.ok sc_right (fun vs H Q E h => ?_) (fun cdv A outer s H vs Q E hr h => ⟨_, PSs.nox
    (pss_one (ps_ret (pe_tup (pa_cons (pv 0) (pa_cons (pv 1) (pa_cons pe_non pa_nil)))))), ?_⟩)
  · obtain ⟨k, i, rfl, _⟩ := h
    rfl
  · obtain ⟨k, i, rfl, hQ⟩ := h
    exact ⟨_, rfl, _, rfl, (by show 3 ≤ sizeLine; decide), fun p hp => hQ _ _ (same_upd hp) upd_same⟩
theorem c_right (e : Env w K mg) : Callee P w K mg base 1 "right" ["kind", "end"] spRight := by
  obtain ⟨fd, F⟩ := e.d.def_ 5 (d := d_right) rfl
  exact ⟨_, fd, ok_right e F, e.glo (x := "right") (List.mem_of_getElem? (i := 5) rfl), F.kp, F.bindsN fun _ _ _ _ _ _ us hl => match us, hl with | [_, _], _ => rfl⟩
def spWrong : Sp := fun vs H Q _ => ∃ (r i : Nat), vs = [.int (r : Int), .int (i : Int)] ∧ RetR H Q (.bad r i)
theorem sc_wrong : FnScope ["rule", "place"] ["rule", "place"] (defScope s_wrong) := ⟨rfl, rfl, rfl, by decide +kernel, rfl, by decide +kernel, by decide +kernel⟩
abbrev F_wrong (K : PySem.W.Frag) (f : Addr) (fd : FuncData) : Prop := FunD K "wrong" "wrong" (defArgs s_wrong) (defBody s_wrong) (defScope s_wrong) [] [] f fd
theorem ok_wrong (e : Env w K mg) (F : F_wrong K f fd) : FnOk P w K mg base CX0 1 f fd ["rule", "place"] spWrong := by
  refine F.ok sc_wrong (fun vs H Q E h => ?_) (fun cdv A outer s H vs Q E hr h => ⟨_, PSs.nox
    (pss_one (ps_ret (pe_tup (pa_cons pe_str (pa_cons (pv 1) (pa_cons (pe_tup (pa_cons (pv 0) (pa_cons (pv 1) pa_nil))) pa_nil)))))), ?_⟩)
  · obtain ⟨r, i, rfl, _⟩ := h
    rfl
  · obtain ⟨r, i, rfl, hQ⟩ := h
    refine ⟨_, rfl, _, rfl, _, rfl, (by show 2 ≤ sizeLine; decide), fun q hq => ⟨(by show 3 ≤ sizeLine; decide), fun p hp => hQ _ _ ((same_upd hq).trans (same_upd hp)) ⟨q, upd_same, ?_⟩⟩⟩
    rw [upd_ne (by intro e; subst e; rw [upd_same] at hp; cases hp)]
    exact upd_same
theorem c_wrong (e : Env w K mg) : Callee P w K mg base 1 "wrong" ["rule", "place"] spWrong := by
  obtain ⟨fd, F⟩ := e.d.def_ 6 (d := d_wrong) rfl
  exact ⟨_, fd, ok_wrong e F, e.glo (x := "wrong") (List.mem_of_getElem? (i := 6) rfl), F.kp, F.bindsN fun _ _ _ _ _ _ us hl => match us, hl with | [_, _], _ => rfl⟩
end
end La
set_option maxHeartbeats 4000000
namespace La
open PySem PySem.Spec PyProof.Rows L2
section
variable {P : Program} {w : World} {K : PySem.W.Frag} {mg : Str → Option Value} {base : Heap} {f : Addr} {fd : FuncData}
theorem isSeen_iff {b : UInt8} : EwTree.isSeen b = (decide ((32 : Int) ≤ (b.toNat : Int)) && decide ((b.toNat : Int) ≤ 126)) := by
  unfold EwTree.isSeen
  simp only [UInt8.le_iff_toNat_le]
  congr 1 <;> (apply decide_eq_decide.mpr; show _ ↔ _; simp; omega)
theorem byte_eq {b c : UInt8} : decide ((b.toNat : Int) = (c.toNat : Int)) = decide (b = c) := by
  apply decide_eq_decide.mpr
  rw [← UInt8.toNat_inj]
  omega
theorem dec_vint {i j : Int} : decide (V.int i = V.int j) = decide (i = j) := by
  apply decide_eq_decide.mpr
  simp
/-! read_comment -/
def spReadComment (K : PySem.W.Frag) : Sp := fun vs H Q _ => ∃ (a : Addr) (bs : Bytes) (i : Nat), vs = [.ref a, .int (i : Int)] ∧ SqL K H a (B bs) ∧ bs[i]? = some 35 ∧ RetR H Q (readComment bs i)
theorem sc_read_comment : FnScope ["text", "at", "end"] ["text", "at"] (defScope s_read_comment) := ⟨rfl, rfl, rfl, by decide +kernel, rfl, by decide +kernel, by decide +kernel⟩
abbrev F_read_comment (K : PySem.W.Frag) (f : Addr) (fd : FuncData) : Prop := FunD K "read_comment" "read_comment" (defArgs s_read_comment) (defBody s_read_comment) (defScope s_read_comment) [] [] f fd
theorem cEnd_le : ∀ (j : Nat) (l : Bytes), j ≤ (cEnd j l).2
  | j, [] => Nat.le_refl _
  | j, c :: r => by
    unfold cEnd
    split
    · exact Nat.le_refl _
    · split
      · exact Nat.le_trans (Nat.le_succ j) (cEnd_le (j + 1) r)
      · exact Nat.le_refl _
theorem ok_read_comment (e : Env w K mg) (F : F_read_comment K f fd) : FnOk P w K mg base CX0 2 f fd ["text", "at"] (spReadComment K) := by
  obtain ⟨f_wrong, fd_wrong, G_wrong, m_wrong, k_wrong, b_wrong⟩ := c_wrong (P := P) (w := w) (base := base) e
  obtain ⟨f_right, fd_right, G_right, m_right, k_right, b_right⟩ := c_right (P := P) (w := w) (base := base) e
  obtain ⟨t_COMMENT, m_COMMENT⟩ := e.str (x := "COMMENT") (z := "#") (List.mem_of_getElem? (i := 87) rfl)
  have m_len : mg "len" = none := e.free (List.mem_of_getElem? (i := 103) rfl)
  refine F.ok sc_read_comment (fun vs H Q E h => ?_) (fun cdv A outer s H vs Q E hr h => ⟨_, PSs.nox
    (pss_cons (ps_set (i := 2) sc_read_comment.nd rfl (Or.inl rfl) (pv 1))
      (pss_cons (ps_while PassesOwn.never (PW.pt (pw_and (pt_cmpR op_lt (pv 2) (pe_callB call_len_seq (by rfl) m_len PySem.boot_len (pa_cons (pv 0) pa_nil)) (nomark _)) (pw_and1 (pt_cmpR op_ne (pe_ix ix_list (pv 0) (pv 2) (fun _ _ => rfl)) pe_int (nomark _))))) (pss_cons (ps_if (pt_not (pt_chain op_le op_le pe_int (pe_ix ix_list (pv 0) (pv 2) (fun _ _ => rfl)) pe_int)) (pss_one (ps_ret (pe_call G_wrong (hr.mono (by decide)) rfl m_wrong k_wrong b_wrong .nil pass0 (pa_cons pe_int (pa_cons (pv 2) pa_nil))))) pss_nil)
      (pss_one (ps_aug (i := 2) sc_read_comment.nd rfl (Or.inl rfl) pe_int ip_add))))
      (pss_cons (ps_while PassesOwn.never (pt_cmpR op_eq (pe_ix ix_list (pv 0) (pe_op op_sub (pv 2) pe_int) (fun _ _ => rfl)) pe_int (nomark _)) (pss_one (ps_aug (i := 2) sc_read_comment.nd rfl (Or.inl rfl) pe_int ip_sub)))
      (pss_one (ps_ret (pe_call G_right (hr.mono (by decide)) rfl m_right k_right b_right .nil pass0 (pa_cons (pe_glob (v := V.str "#") rfl m_COMMENT ⟨_, rfl⟩) (pa_cons (pv 2) pa_nil)))))))), ?_⟩)
  · obtain ⟨a, bs, i, rfl, _⟩ := h
    rfl
  · obtain ⟨a, bs, i, rfl, hS, h35, hQ⟩ := h
    have hi : i < bs.length := (List.getElem?_eq_some_iff.mp h35).1
    refine ⟨_, rfl, ?_⟩
    refine ⟨fun m σ H' => H' = H ∧ ∃ j : Nat, σ = [some (.ref a), some (.int (i : Int)), some (.int (j : Int))] ∧ i ≤ j ∧ j ≤ bs.length ∧ m = bs.length - j ∧ cEnd i (bs.drop i) = cEnd j (bs.drop j),
      ⟨_, rfl, i, rfl, Nat.le_refl _, Nat.le_of_lt hi, rfl, rfl⟩, ?_⟩
    rintro m σ H' ⟨rfl, j, rfl, hij, hj, rfl, eq⟩
    refine ⟨_, rfl, _, rfl, _, _, rfl, .inl hS, _, _, rfl, rfl, _, rfl, ?_⟩
    -- what comes behind the first loop
    have tail : (cEnd i (bs.drop i)) = (true, j) → tSeq (tWhile (tTest (tOp rEq (tOp (rIxL K) (tVar 0) (tOp (rI0 fun i j => .int (i - j)) (tVar 2) (tC (.int 1)))) (tC (.int 32)))) (tAug 2 (tC (.int 1)) (ipI fun i j => i - j)))
        (tRet (tCall spRight [] E0 (tCons (tC (.str "#")) (tCons (tVar 2) tNil)))) { nx := fun _ H' => Q .non H', rt := Q } [some (.ref a), some (.int (i : Int)), some (.int (j : Int))] H' := by
      intro eqj
      have h0 : i < j := by
        rcases Nat.lt_or_ge i j with h | h
        · exact h
        · have e1 : i = j := by omega
          subst e1
          have e2 : cEnd i (bs.drop i) = cEnd (i + 1) (bs.drop (i + 1)) := by
            rw [List.drop_eq_getElem_cons hi]
            have e3 : bs[i] = 35 := Option.some.inj ((List.getElem?_eq_getElem hi).symm.trans h35)
            rw [e3]
            rfl
          have e4 := cEnd_le (i + 1) (bs.drop (i + 1))
          rw [← e2, eqj] at e4
          exact absurd e4 (by show ¬ i + 1 ≤ i; omega)
      refine ⟨fun m σ H2 => H2 = H' ∧ ∃ k : Nat, σ = [some (.ref a), some (.int (i : Int)), some (.int (k : Int))] ∧ i < k ∧ k ≤ bs.length ∧ m = k ∧ cBack bs j = cBack bs k,
        ⟨_, rfl, j, rfl, h0, hj, rfl, rfl⟩, ?_⟩
      rintro m σ H2 ⟨rfl, k, rfl, hik, hk, rfl, eqk⟩
      obtain ⟨k, rfl⟩ : ∃ k0, m = k0 + 1 := ⟨m - 1, by omega⟩
      have hk' : k < bs.length := by omega
      refine ⟨_, rfl, _, rfl, _, _, rfl, rfl, _, _, _, V.int (bs[k].toNat : Int), rfl, rfl, hS, ?_, rfl, _, rfl, ?_⟩
      · have e5 : ((k + 1 : Nat) : Int) - 1 = (k : Int) := by omega
        rw [e5]
        exact atI_nat (B_get (List.getElem?_eq_getElem hk'))
      · have e6 : decide (V.int (bs[k].toNat : Int) = V.int 32) = decide (bs[k] = 32) := dec_vint.trans (byte_eq (c := 32))
        have e7 : cBack bs (k + 1) = if bs[k]? = some 32 then cBack bs k else k + 1 := rfl
        rw [List.getElem?_eq_getElem hk'] at e7
        by_cases h32 : bs[k] = 32
        · refine ifT (e6.trans (decide_eq_true h32)) ?_
          have hne : i ≠ k := by
            intro e8
            subst e8
            rw [List.getElem?_eq_getElem hk', h32] at h35
            exact absurd (Option.some.inj h35) (by decide)
          refine ⟨_, fun _ _ h => h, _, rfl, _, _, rfl, rfl, k, by omega, rfl, k, ?_, by omega, by omega, rfl, ?_⟩
          · have e5 : ((k + 1 : Nat) : Int) - 1 = (k : Int) := by omega
            show [_, _, some (V.int (((k + 1 : Nat) : Int) - 1))] = _
            rw [e5]
          · rw [eqk, e7, if_pos (by rw [h32])]
        · refine ifF (e6.trans (decide_eq_false h32)) ?_
          refine ⟨_, rfl, signs "#", k + 1, rfl, ?_⟩
          rw [if_neg (by intro e8; exact h32 (Option.some.inj e8))] at e7
          have e9 : readComment bs i = .ok (signs "#") (k + 1) := by
            unfold readComment
            rw [eqj]
            show (if true = true then RP.ok (signs "#") (cBack bs j) else _) = _
            rw [if_pos rfl, eqk, e7]
          rw [← e9]
          exact hQ
    by_cases hlt : j < bs.length
    · refine ifT (decide_eq_true (by rw [B_len]; omega)) ?_
      refine ⟨_, rfl, _, rfl, _, _, _, _, rfl, rfl, hS, atI_nat (B_get (List.getElem?_eq_getElem hlt)), rfl, _, rfl, ?_⟩
      have e6 : decide (V.int (bs[j].toNat : Int) = V.int 10) = decide (bs[j] = 10) := dec_vint.trans (byte_eq (c := 10))
      have e7 : cEnd j (bs.drop j) = if bs[j] = 10 then (true, j) else if EwTree.isSeen bs[j] = true then cEnd (j + 1) (bs.drop (j + 1)) else (false, j) := by
        rw [List.drop_eq_getElem_cons hlt]
        rfl
      by_cases h10 : bs[j] = 10
      · refine ifF (by rw [e6, decide_eq_true h10]; rfl) ?_
        rw [if_pos h10] at e7
        exact tail (eq.trans e7)
      · refine ifT (by rw [e6, decide_eq_false h10]; rfl) ?_
        rw [if_neg h10] at e7
        refine ⟨_, fun _ _ h => h, ?_⟩
        refine if_by (!EwTree.isSeen bs[j]) (fun Q2 q => ⟨_, rfl, _, rfl, _, _, _, _, rfl, rfl, hS, atI_nat (B_get (List.getElem?_eq_getElem hlt)), ?_⟩) (fun hb => ?_) (fun hb => ?_)
        · rw [isSeen_iff] at q
          refine ⟨_, _, rfl, rfl, _, rfl, ?_⟩
          by_cases c1 : (32 : Int) ≤ (bs[j].toNat : Int)
          · refine ifT (decide_eq_true c1) ⟨_, _, rfl, rfl, _, rfl, ?_⟩
            rw [decide_eq_true c1] at q
            exact q
          · refine ifF (decide_eq_false c1) ⟨_, rfl, ?_⟩
            rw [decide_eq_false c1] at q
            exact q
        · have hb' : EwTree.isSeen bs[j] = false := by simpa using hb
          rw [if_neg (by rw [hb']; simp)] at e7
          refine ⟨_, rfl, 1, j, rfl, ?_⟩
          have e9 : readComment bs i = .bad 1 j := by
            unfold readComment
            rw [eq, e7]
            rfl
          rw [← e9]
          exact hQ
        · have hb' : EwTree.isSeen bs[j] = true := by simpa using hb
          rw [if_pos hb'] at e7
          exact ⟨_, rfl, _, _, rfl, rfl, bs.length - (j + 1), by omega, rfl, j + 1, rfl, by omega, by omega, rfl, eq.trans e7⟩
    · refine ifF (decide_eq_false (by rw [B_len]; omega)) (ifF rfl ?_)
      have e1 : j = bs.length := by omega
      refine tail (eq.trans ?_)
      rw [e1, List.drop_length]
      rfl
theorem c_read_comment (e : Env w K mg) : Callee P w K mg base 2 "read_comment" ["text", "at"] (spReadComment K) := by
  obtain ⟨fd, F⟩ := e.d.def_ 7 (d := d_read_comment) rfl
  exact ⟨_, fd, ok_read_comment e F, e.glo (x := "read_comment") (List.mem_of_getElem? (i := 7) rfl), F.kp, F.bindsN fun _ _ _ _ _ _ us hl => match us, hl with | [_, _], _ => rfl⟩
end
end La
set_option maxHeartbeats 4000000
namespace La
open PySem PySem.Spec PyProof.Rows L2
theorem hu64 {k : Nat} {A : Around} (hr : Room k A) : A.units + 64 < cLine := by
  have := hr.un
  omega
theorem byte_is (b c : UInt8) : decide (V.int (b.toNat : Int) = V.int (c.toNat : Int)) = decide (b = c) := dec_vint.trans byte_eq
/-- something is handed back, what stood stands -/
def RetV (H : Hp) (Q : VK) (v : V) : Prop := ∀ H', Same H H' → Q v H'
def PB (bs : List UInt8) : List PyData := bs.map fun (b : UInt8) => PyData.int (b.toNat : Int)
theorem dp_B {K : PySem.W.Frag} {H : Hp} : ∀ bs : List UInt8, DpAll K H (B bs) (PB bs)
  | [] => .nil
  | b :: r => .cons (.int _) (dp_B r)
theorem canLay_PB : ∀ bs : List UInt8, PyData.canLayAll0 (PB bs) = true
  | [] => by unfold PB PyData.canLayAll0; rfl
  | b :: r => by
    have ih := canLay_PB r
    show PyData.canLayAll0 (PyData.int _ :: PB r) = true
    unfold PyData.canLayAll0
    rw [ih]
    unfold PyData.canLay0
    rfl
theorem depth_PB : ∀ bs : List UInt8, PyData.depthAll (PB bs) = 0
  | [] => by unfold PB PyData.depthAll; rfl
  | b :: r => by
    have ih := depth_PB r
    show PyData.depthAll (PyData.int _ :: PB r) = 0
    unfold PyData.depthAll
    rw [ih]
    unfold PyData.depth
    rfl
theorem shaped_B (bs : List UInt8) : SeqAt.shaped (.list (PB bs)) = true := by
  unfold SeqAt.shaped
  unfold PyData.canLay0 PyData.depth
  rw [canLay_PB, depth_PB]
  rfl
theorem eqvAll_PB : ∀ bs cs : List UInt8, PyData.eqvAll (PB bs) (PB cs) = decide (bs = cs)
  | [], [] => by unfold PB PyData.eqvAll; rfl
  | [], c :: s => by unfold PB PyData.eqvAll; rfl
  | b :: r, [] => by unfold PB PyData.eqvAll; rfl
  | b :: r, c :: s => by
    have ih := eqvAll_PB r s
    show PyData.eqvAll (PyData.int _ :: PB r) (PyData.int _ :: PB s) = _
    unfold PyData.eqvAll
    rw [ih]
    unfold PyData.eqv
    rw [Bool.eq_iff_iff]
    simp only [Bool.and_eq_true, beq_iff_eq, decide_eq_true_eq, List.cons.injEq, Int.natCast_inj, UInt8.toNat_inj]
theorem eqv_B (bs cs : List UInt8) : PyData.eqv (.list (PB bs)) (.list (PB cs)) = decide (bs = cs) := by
  unfold PyData.eqv
  exact eqvAll_PB bs cs
/-- a slice of bytes -/
theorem cut_B (bs : List UInt8) (i j : Nat) : cutV (B bs) (some (i : Int)) (some (j : Int)) = B ((bs.take j).drop i) := by
  unfold cutV
  rw [HT.sIx_nat, HT.sIx_nat, B_len]
  unfold B
  rw [← List.map_drop, ← List.map_take]
  congr 1
  rw [List.drop_take]
  rcases Nat.lt_or_ge bs.length i with h | h
  · rw [List.drop_eq_nil_of_le (by omega : bs.length ≤ min i bs.length), List.drop_eq_nil_of_le (by omega : bs.length ≤ i)]
    simp
  · rw [show min i bs.length = i by omega]
    rw [List.take_eq_take_iff]
    rw [List.length_drop]
    omega
end La
set_option maxHeartbeats 4000000
namespace La
open PySem PySem.Spec PyProof.Rows L2
section
variable {P : Program} {w : World} {K : PySem.W.Frag} {mg : Str → Option Value} {base : Heap} {f : Addr} {fd : FuncData}
/-! read_code -/
def spReadCode (K : PySem.W.Frag) : Sp := fun vs H Q _ => ∃ (a : Addr) (bs : Bytes) (i : Nat), vs = [.ref a, .int (i : Int)] ∧ SqL K H a (B bs) ∧ i ≤ bs.length ∧ RetR H Q (readCode bs i)
theorem sc_read_code : FnScope ["text", "at", "end"] ["text", "at"] (defScope s_read_code) := ⟨rfl, rfl, rfl, by decide +kernel, rfl, by decide +kernel, by decide +kernel⟩
abbrev F_read_code (K : PySem.W.Frag) (f : Addr) (fd : FuncData) : Prop := FunD K "read_code" "read_code" (defArgs s_read_code) (defBody s_read_code) (defScope s_read_code) [] [] f fd
theorem ok_read_code (e : Env w K mg) (F : F_read_code K f fd) : FnOk P w K mg base CX0 3 f fd ["text", "at"] (spReadCode K) := by
  obtain ⟨f_run_end, fd_run_end, G_run_end, m_run_end, k_run_end, b_run_end⟩ := c_run_end (P := P) (w := w) (base := base) e
  obtain ⟨f_right, fd_right, G_right, m_right, k_right, b_right⟩ := c_right (P := P) (w := w) (base := base) e
  obtain ⟨f_wrong, fd_wrong, G_wrong, m_wrong, k_wrong, b_wrong⟩ := c_wrong (P := P) (w := w) (base := base) e
  obtain ⟨t_CODE, m_CODE⟩ := e.str (x := "CODE") (z := "CODE") (List.mem_of_getElem? (i := 84) rfl)
  refine F.ok sc_read_code (fun vs H Q E h => ?_) (fun cdv A outer s H vs Q E hr h => ⟨_, PSs.nox
    (pss_cons (ps_set (i := 2) sc_read_code.nd rfl (Or.inl rfl) (pe_call G_run_end (hr.mono (by decide)) rfl m_run_end k_run_end b_run_end .nil pass0 (pa_cons (pv 0) (pa_cons (pv 1) (pa_cons pe_str pa_nil)))))
      (pss_one (ps_ret (pe_ifExp (pt_chain op_le op_le pe_int (pe_op op_sub (pv 2) (pv 1)) pe_int) (pe_call G_right (hr.mono (by decide)) rfl m_right k_right b_right .nil pass0 (pa_cons (pe_glob (v := V.str "CODE") rfl m_CODE ⟨_, rfl⟩) (pa_cons (pv 2) pa_nil))) (pe_call G_wrong (hr.mono (by decide)) rfl m_wrong k_wrong b_wrong .nil pass0 (pa_cons pe_int (pa_cons (pv 1) pa_nil))))))), ?_⟩)
  · obtain ⟨a, bs, i, rfl, _⟩ := h
    rfl
  · obtain ⟨a, bs, i, rfl, hS, hi, hQ⟩ := h
    refine ⟨_, rfl, _, rfl, a, bs, i, _, rfl, hS, hi, ?_⟩
    have e0 : inL (Str.ofString "A0").cps.toList = inL (signs "A0") := rfl
    rw [e0]
    generalize hn : runTo (inL (signs "A0")) bs i = n at *
    have hrc : readCode bs i = if 2 ≤ (n : Int) - i ∧ (n : Int) - i ≤ 8 then RP.ok (signs "CODE") n else .bad 1 i := by
      unfold readCode
      rw [hn]
    have yes : (2 ≤ (n : Int) - i ∧ (n : Int) - i ≤ 8) → tCall spRight [] E0 (tCons (tC (.str (Str.ofString "CODE"))) (tCons (tVar 2) tNil)) [some (.ref a), some (.int (i : Int)), some (.int (n : Int))] H Q := by
      intro c
      rw [if_pos c] at hrc
      rw [hrc] at hQ
      exact ⟨_, rfl, signs "CODE", n, rfl, hQ⟩
    have no : ¬ (2 ≤ (n : Int) - i ∧ (n : Int) - i ≤ 8) → tCall spWrong [] E0 (tCons (tC (.int 1)) (tCons (tVar 1) tNil)) [some (.ref a), some (.int (i : Int)), some (.int (n : Int))] H Q := by
      intro c
      rw [if_neg c] at hrc
      rw [hrc] at hQ
      exact ⟨_, rfl, 1, i, rfl, hQ⟩
    refine ⟨_, rfl, _, rfl, _, _, rfl, rfl, _, _, rfl, rfl, _, rfl, ?_⟩
    by_cases c1 : 2 ≤ (n : Int) - i
    · refine ifT (decide_eq_true c1) ⟨_, _, rfl, rfl, _, rfl, ?_⟩
      by_cases c2 : (n : Int) - i ≤ 8
      · exact ifT (decide_eq_true c2) (yes ⟨c1, c2⟩)
      · exact ifF (decide_eq_false c2) (no fun c => c2 c.2)
    · exact ifF (decide_eq_false c1) ⟨_, rfl, ifF rfl (no fun c => c1 c.1)⟩
theorem c_read_code (e : Env w K mg) : Callee P w K mg base 3 "read_code" ["text", "at"] (spReadCode K) := by
  obtain ⟨fd, F⟩ := e.d.def_ 9 (d := d_read_code) rfl
  exact ⟨_, fd, ok_read_code e F, e.glo (x := "read_code") (List.mem_of_getElem? (i := 9) rfl), F.kp, F.bindsN fun _ _ _ _ _ _ us hl => match us, hl with | [_, _], _ => rfl⟩
/-! exponent_digits -/
def spExp (K : PySem.W.Frag) : Sp := fun vs H Q _ => ∃ (a : Addr) (bs : Bytes) (i : Nat), vs = [.ref a, .int (i : Int)] ∧ SqL K H a (B bs) ∧ Q (.int (expAt bs i : Int)) H
theorem sc_exponent_digits : FnScope ["text", "at"] ["text", "at"] (defScope s_exponent_digits) := ⟨rfl, rfl, rfl, by decide +kernel, rfl, by decide +kernel, by decide +kernel⟩
abbrev F_exponent_digits (K : PySem.W.Frag) (f : Addr) (fd : FuncData) : Prop := FunD K "exponent_digits" "exponent_digits" (defArgs s_exponent_digits) (defBody s_exponent_digits) (defScope s_exponent_digits) [] [] f fd
theorem ok_exponent_digits (e : Env w K mg) (F : F_exponent_digits K f fd) : FnOk P w K mg base CX0 3 f fd ["text", "at"] (spExp K) := by
  obtain ⟨f_byte_at, fd_byte_at, G_byte_at, m_byte_at, k_byte_at, b_byte_at⟩ := c_byte_at (P := P) (w := w) (base := base) e
  obtain ⟨f_digit_at, fd_digit_at, G_digit_at, m_digit_at, k_digit_at, b_digit_at⟩ := c_digit_at (P := P) (w := w) (base := base) e
  skip
  refine F.ok sc_exponent_digits (fun vs H Q E h => ?_) (fun cdv A outer s H vs Q E hr h => ⟨_, PSs.nox
    (pss_cons (ps_if (pt_cmpR op_ne (pe_call G_byte_at (hr.mono (by decide)) rfl m_byte_at k_byte_at b_byte_at .nil pass0 (pa_cons (pv 0) (pa_cons (pv 1) pa_nil))) pe_int (nomark _)) (pss_one (ps_ret (pv 1))) pss_nil)
      (pss_cons (ps_if (pt_val (pe_call G_digit_at (hr.mono (by decide)) rfl m_digit_at k_digit_at b_digit_at .nil pass0 (pa_cons (pv 0) (pa_cons (pe_op op_add (pv 1) pe_int) pa_nil)))) (pss_one (ps_ret (pe_op op_add (pv 1) pe_int))) pss_nil)
      (pss_cons (ps_if (PW.pt (pw_and (pt_cmpR op_eq (pe_call G_byte_at (hr.mono (by decide)) rfl m_byte_at k_byte_at b_byte_at .nil pass0 (pa_cons (pv 0) (pa_cons (pe_op op_add (pv 1) pe_int) pa_nil))) pe_int (nomark _)) (pw_and1 (pt_val (pe_call G_digit_at (hr.mono (by decide)) rfl m_digit_at k_digit_at b_digit_at .nil pass0 (pa_cons (pv 0) (pa_cons (pe_op op_add (pv 1) pe_int) pa_nil))))))) (pss_one (ps_ret (pe_op op_add (pv 1) pe_int))) pss_nil)
      (pss_one (ps_ret (pv 1)))))), ?_⟩)
  · obtain ⟨a, bs, i, rfl, _⟩ := h
    rfl
  · obtain ⟨a, bs, i, rfl, hS, hQ⟩ := h
    have he : expAt bs i = if byteAt bs i ≠ 101 then i else if digitAt bs (i + 1) = true then i + 1 else if byteAt bs (i + 1) = 45 ∧ digitAt bs (i + 2) = true then i + 2 else i := rfl
    refine ⟨_, rfl, _, rfl, a, bs, i, rfl, hS, rfl, _, rfl, ?_⟩
    by_cases c1 : byteAt bs i = 101
    · refine ifF (by rw [dec_vint, decide_eq_true c1]; rfl) ?_
      rw [if_neg (by simpa using c1)] at he
      refine ⟨_, rfl, _, rfl, _, _, rfl, rfl, a, bs, i + 1, rfl, hS, _, rfl, ?_⟩
      by_cases c2 : digitAt bs (i + 1) = true
      · rw [if_pos c2] at he
        refine ifT c2 ⟨_, rfl, _, _, rfl, rfl, ?_⟩
        rw [he] at hQ
        exact hQ
      · rw [if_neg c2] at he
        refine ifF (by simpa using c2) ?_
        refine ⟨_, rfl, _, rfl, _, _, rfl, rfl, a, bs, i + 1, rfl, hS, rfl, _, rfl, ?_⟩
        by_cases c3 : byteAt bs (i + 1) = 45
        · refine ifT (by rw [dec_vint, decide_eq_true c3]) ?_
          refine ⟨_, rfl, _, rfl, _, _, rfl, rfl, a, bs, i + 2, rfl, hS, _, rfl, ?_⟩
          by_cases c4 : digitAt bs (i + 2) = true
          · rw [if_pos ⟨c3, c4⟩] at he
            refine ifT c4 ⟨_, rfl, _, _, rfl, rfl, ?_⟩
            rw [he] at hQ
            exact hQ
          · rw [if_neg (fun c => c4 c.2)] at he
            refine ifF (by simpa using c4) ⟨_, rfl, ?_⟩
            rw [he] at hQ
            exact hQ
        · rw [if_neg (fun c => c3 c.1)] at he
          refine ifF (by rw [dec_vint, decide_eq_false c3]) (ifF rfl ⟨_, rfl, ?_⟩)
          rw [he] at hQ
          exact hQ
    · refine ifT (by rw [dec_vint, decide_eq_false c1]; rfl) ⟨_, rfl, ?_⟩
      rw [if_pos c1] at he
      rw [he] at hQ
      exact hQ
theorem c_exponent_digits (e : Env w K mg) : Callee P w K mg base 3 "exponent_digits" ["text", "at"] (spExp K) := by
  obtain ⟨fd, F⟩ := e.d.def_ 10 (d := d_exponent_digits) rfl
  exact ⟨_, fd, ok_exponent_digits e F, e.glo (x := "exponent_digits") (List.mem_of_getElem? (i := 10) rfl), F.kp, F.bindsN fun _ _ _ _ _ _ us hl => match us, hl with | [_, _], _ => rfl⟩
/-! right_exponent -/
def spRightExp (K : PySem.W.Frag) : Sp := fun vs H Q _ => ∃ (a : Addr) (d : Bytes) (n : Bool), vs = [.ref a, .bl n] ∧ SqL K H a (B d) ∧ d ≠ [] ∧ RetV H Q (.bl (rightExp d n))
theorem sc_right_exponent : FnScope ["digits", "negative"] ["digits", "negative"] (defScope s_right_exponent) := ⟨rfl, rfl, rfl, by decide +kernel, rfl, by decide +kernel, by decide +kernel⟩
abbrev F_right_exponent (K : PySem.W.Frag) (f : Addr) (fd : FuncData) : Prop := FunD K "right_exponent" "right_exponent" (defArgs s_right_exponent) (defBody s_right_exponent) (defScope s_right_exponent) [] [] f fd
theorem ok_right_exponent (e : Env w K mg) (F : F_right_exponent K f fd) : FnOk P w K mg base CX0 1 f fd ["digits", "negative"] (spRightExp K) := by
  have m_len : mg "len" = none := e.free (List.mem_of_getElem? (i := 103) rfl)
  refine F.ok sc_right_exponent (fun vs H Q E h => ?_) (fun cdv A outer s H vs Q E hr h => ⟨_, PSs.nox
    (pss_cons (ps_if (pt_cmpR (op_eqD (hu64 hr)) (pv 0) (pe_lst (pa_cons pe_int pa_nil)) (nomark _)) (pss_one (ps_ret (pe_not (pv 1)))) pss_nil)
      (pss_one (ps_ret (pe_and (pe_cmpR op_le (pe_callB call_len_seq (by rfl) m_len PySem.boot_len (pa_cons (pv 0) pa_nil)) pe_int (nomark _)) (pe_one (pe_cmpR op_ne (pe_ix ix_list (pv 0) pe_int (fun _ _ => rfl)) pe_int (nomark _))))))), ?_⟩)
  · obtain ⟨a, d, n, rfl, _⟩ := h
    rfl
  · obtain ⟨a, d, n, rfl, hS, hd, hQ⟩ := h
    have hr' : rightExp d n = if d = [48] then !n else decide (d.length ≤ 5) && !(d.head? == some 48) := rfl
    refine ⟨_, rfl, (by show 1 ≤ sizeLine; decide), fun q hq => ?_⟩
    have s1 := same_upd (o := .lst [.int 48]) hq
    refine ⟨_, _, .lst (s1.seq hS) (dp_B d), .lst (.of upd_same) (dp_B [48]), shaped_B d, shaped_B [48], _, rfl, ?_⟩
    by_cases c : d = [48]
    · rw [if_pos c] at hr'
      refine ifT (by rw [eqv_B, decide_eq_true c]) ⟨_, rfl, _, rfl, ?_⟩
      rw [hr'] at hQ
      exact hQ _ s1
    · rw [if_neg c] at hr'
      refine ifF (by rw [eqv_B, decide_eq_false c]) ⟨_, rfl, _, _, rfl, .inl (s1.seq hS), _, _, rfl, rfl, _, rfl, ?_⟩
      obtain ⟨x, r, rfl⟩ : ∃ x r, d = x :: r := by
        cases d with
        | nil => exact absurd rfl hd
        | cons x r => exact ⟨x, r, rfl⟩
      by_cases c2 : (x :: r).length ≤ 5
      · refine ifT (decide_eq_true (by rw [B_len]; omega)) ⟨_, rfl, _, _, _, _, rfl, rfl, s1.seq hS, atI_nat (j := 0) rfl, rfl, ?_⟩
        have q := hQ _ s1
        rw [hr', decide_eq_true c2] at q
        have e1 : (!decide (V.int (x.toNat : Int) = V.int 48)) = (true && !((x :: r).head? == some 48)) := by
          have e3 : decide (V.int (x.toNat : Int) = V.int 48) = decide (x = 48) := byte_is x 48
          rw [e3, Bool.eq_iff_iff]
          simp
        rw [e1]
        exact q
      · refine ifF (decide_eq_false (by rw [B_len]; omega)) ?_
        have q := hQ _ s1
        rw [hr', decide_eq_false c2] at q
        exact q
theorem c_right_exponent (e : Env w K mg) : Callee P w K mg base 1 "right_exponent" ["digits", "negative"] (spRightExp K) := by
  obtain ⟨fd, F⟩ := e.d.def_ 11 (d := d_right_exponent) rfl
  exact ⟨_, fd, ok_right_exponent e F, e.glo (x := "right_exponent") (List.mem_of_getElem? (i := 11) rfl), F.kp, F.bindsN fun _ _ _ _ _ _ us hl => match us, hl with | [_, _], _ => rfl⟩
end
end La
set_option maxHeartbeats 4000000
namespace La
open PySem PySem.Spec PyProof.Rows L2
section
variable {P : Program} {w : World} {K : PySem.W.Frag} {mg : Str → Option Value} {base : Heap} {f : Addr} {fd : FuncData}
/-! item_end -/
def spItemEnd (K : PySem.W.Frag) : Sp := fun vs H Q _ => ∃ (a : Addr) (bs : Bytes) (i : Nat), vs = [.ref a, .int (i : Int)] ∧ SqL K H a (B bs) ∧ i < bs.length ∧ RetV H Q (.int (itemEnd bs i : Int))
theorem sc_item_end : FnScope ["text", "at"] ["text", "at"] (defScope s_item_end) := ⟨rfl, rfl, rfl, by decide +kernel, rfl, by decide +kernel, by decide +kernel⟩
abbrev F_item_end (K : PySem.W.Frag) (f : Addr) (fd : FuncData) : Prop := FunD K "item_end" "item_end" (defArgs s_item_end) (defBody s_item_end) (defScope s_item_end) [] [] f fd
theorem ok_item_end (e : Env w K mg) (F : F_item_end K f fd) : FnOk P w K mg base CX0 2 f fd ["text", "at"] (spItemEnd K) := by
  obtain ⟨f_byte_at, fd_byte_at, G_byte_at, m_byte_at, k_byte_at, b_byte_at⟩ := c_byte_at (P := P) (w := w) (base := base) e
  skip
  refine F.ok sc_item_end (fun vs H Q E h => ?_) (fun cdv A outer s H vs Q E hr h => ⟨_, PSs.nox
    (pss_cons (ps_if (pt_cmpR op_eq (pe_ix ix_list (pv 0) (pv 1) (fun _ _ => rfl)) pe_int (nomark _)) (pss_one (ps_ret (pe_ifExp (pt_cmpR op_in_seq (pe_call G_byte_at (hr.mono (by decide)) rfl m_byte_at k_byte_at b_byte_at .nil pass0 (pa_cons (pv 0) (pa_cons (pe_op op_add (pv 1) pe_int) pa_nil))) (pe_tup (pa_cons pe_int (pa_cons pe_int (pa_cons pe_int pa_nil)))) rfl) (pe_op op_add (pv 1) pe_int) (pv 1)))) pss_nil)
      (pss_one (ps_ret (pe_ifExp (pt_chain op_le op_le pe_int (pe_ix ix_list (pv 0) (pv 1) (fun _ _ => rfl)) pe_int) (pe_op op_add (pv 1) pe_int) (pv 1))))), ?_⟩)
  · obtain ⟨a, bs, i, rfl, _⟩ := h
    rfl
  · obtain ⟨a, bs, i, rfl, hS, hi, hQ⟩ := h
    have hat : atI (B bs) (i : Int) = some (V.int (bs[i].toNat : Int)) := atI_nat (B_get (List.getElem?_eq_getElem hi))
    have he : itemEnd bs i = if bs[i] = 92 then (if byteAt bs (i + 1) = 34 ∨ byteAt bs (i + 1) = 92 ∨ byteAt bs (i + 1) = 110 then i + 2 else i) else if EwTree.isSeen bs[i] = true then i + 1 else i := by
      unfold itemEnd
      rw [List.getElem?_eq_getElem hi]
    refine ⟨_, rfl, _, rfl, _, _, _, _, rfl, rfl, hS, hat, rfl, _, rfl, ?_⟩
    by_cases c : bs[i] = 92
    · rw [if_pos c] at he
      refine ifT ((byte_is bs[i] 92).trans (decide_eq_true c)) ?_
      refine ⟨_, rfl, _, rfl, _, _, rfl, rfl, a, bs, i + 1, rfl, hS, (by show 3 ≤ sizeLine; decide), fun p hp => ?_⟩
      refine ⟨p, [.int 34, .int 92, .int 110], rfl, .inr (.of upd_same), rfl, rfl, _, rfl, ?_⟩
      have s1 := same_upd (o := .tup [.int 34, .int 92, .int 110]) hp
      have ei : inV (V.int (byteAt bs (i + 1))) [.int 34, .int 92, .int 110] = decide (byteAt bs (i + 1) = 34 ∨ byteAt bs (i + 1) = 92 ∨ byteAt bs (i + 1) = 110) := by
        generalize byteAt bs (i + 1) = x
        rw [Bool.eq_iff_iff]
        simp only [inV, List.any_cons, List.any_nil, eqV, Bool.or_false, Bool.or_eq_true, beq_iff_eq, decide_eq_true_eq]
        omega
      by_cases c2 : byteAt bs (i + 1) = 34 ∨ byteAt bs (i + 1) = 92 ∨ byteAt bs (i + 1) = 110
      · rw [if_pos c2] at he
        refine ifT (ei.trans (decide_eq_true c2)) ⟨_, rfl, _, _, rfl, rfl, ?_⟩
        rw [he] at hQ
        exact hQ _ s1
      · rw [if_neg c2] at he
        refine ifF (ei.trans (decide_eq_false c2)) ⟨_, rfl, ?_⟩
        rw [he] at hQ
        exact hQ _ s1
    · rw [if_neg c] at he
      refine ifF ((byte_is bs[i] 92).trans (decide_eq_false c)) ?_
      have yes : EwTree.isSeen bs[i] = true → Q (.int ((i : Int) + 1)) H := fun h => by
        rw [if_pos h] at he
        rw [he] at hQ
        exact hQ _ (Same.refl H)
      have no : EwTree.isSeen bs[i] = false → Q (.int (i : Int)) H := fun h => by
        rw [if_neg (by rw [h]; simp)] at he
        rw [he] at hQ
        exact hQ _ (Same.refl H)
      refine ⟨_, rfl, _, rfl, _, _, _, _, rfl, rfl, hS, hat, _, _, rfl, rfl, _, rfl, ?_⟩
      by_cases c1 : (32 : Int) ≤ (bs[i].toNat : Int)
      · refine ifT (decide_eq_true c1) ⟨_, _, rfl, rfl, _, rfl, ?_⟩
        by_cases c2 : (bs[i].toNat : Int) ≤ 126
        · exact ifT (decide_eq_true c2) ⟨_, rfl, _, _, rfl, rfl, yes (by rw [isSeen_iff, decide_eq_true c1, decide_eq_true c2]; rfl)⟩
        · exact ifF (decide_eq_false c2) ⟨_, rfl, no (by rw [isSeen_iff, decide_eq_false c2, Bool.and_false])⟩
      · exact ifF (decide_eq_false c1) ⟨_, rfl, ifF rfl ⟨_, rfl, no (by rw [isSeen_iff, decide_eq_false c1]; rfl)⟩⟩
theorem c_item_end (e : Env w K mg) : Callee P w K mg base 2 "item_end" ["text", "at"] (spItemEnd K) := by
  obtain ⟨fd, F⟩ := e.d.def_ 14 (d := d_item_end) rfl
  exact ⟨_, fd, ok_item_end e F, e.glo (x := "item_end") (List.mem_of_getElem? (i := 14) rfl), F.kp, F.bindsN fun _ _ _ _ _ _ us hl => match us, hl with | [_, _], _ => rfl⟩
/-! read_text -/
def spReadText (K : PySem.W.Frag) : Sp := fun vs H Q _ => ∃ (a : Addr) (bs : Bytes) (i : Nat), vs = [.ref a, .int (i : Int)] ∧ SqL K H a (B bs) ∧ i < bs.length ∧ RetR H Q (readText bs i)
theorem sc_read_text : FnScope ["text", "at", "place", "count", "after"] ["text", "at"] (defScope s_read_text) := ⟨rfl, rfl, rfl, by decide +kernel, rfl, by decide +kernel, by decide +kernel⟩
abbrev F_read_text (K : PySem.W.Frag) (f : Addr) (fd : FuncData) : Prop := FunD K "read_text" "read_text" (defArgs s_read_text) (defBody s_read_text) (defScope s_read_text) [] [] f fd
theorem RetR.of {H H' : Hp} {Q : VK} {r : RP} (h : RetR H Q r) (s : Same H H') : RetR H' Q r := fun H2 p s2 => h H2 p (s.trans s2)
theorem ok_read_text (e : Env w K mg) (F : F_read_text K f fd) : FnOk P w K mg base CX0 3 f fd ["text", "at"] (spReadText K) := by
  obtain ⟨f_wrong, fd_wrong, G_wrong, m_wrong, k_wrong, b_wrong⟩ := c_wrong (P := P) (w := w) (base := base) e
  obtain ⟨f_item_end, fd_item_end, G_item_end, m_item_end, k_item_end, b_item_end⟩ := c_item_end (P := P) (w := w) (base := base) e
  obtain ⟨f_right, fd_right, G_right, m_right, k_right, b_right⟩ := c_right (P := P) (w := w) (base := base) e
  obtain ⟨t_TEXT, m_TEXT⟩ := e.str (x := "TEXT") (z := "TEXT") (List.mem_of_getElem? (i := 86) rfl)
  have m_len : mg "len" = none := e.free (List.mem_of_getElem? (i := 103) rfl)
  refine F.ok sc_read_text (fun vs H Q E h => ?_) (fun cdv A outer s H vs Q E hr h => ⟨_, PSs.nox
    (pss_cons (ps_set (i := 2) sc_read_text.nd rfl (Or.inl rfl) (pe_op op_add (pv 1) pe_int))
      (pss_cons (ps_set (i := 3) sc_read_text.nd rfl (Or.inl rfl) pe_int)
      (pss_cons (ps_while PassesOwn.never (PW.pt (pw_and (pt_cmpR op_lt (pv 2) (pe_callB call_len_seq (by rfl) m_len PySem.boot_len (pa_cons (pv 0) pa_nil)) (nomark _)) (pw_and1 (pt_cmpR op_ne (pe_ix ix_list (pv 0) (pv 2) (fun _ _ => rfl)) pe_int (nomark _))))) (pss_cons (ps_if (pt_cmpR op_eq (pv 3) pe_int (nomark _)) (pss_one (ps_ret (pe_call G_wrong (hr.mono (by decide)) rfl m_wrong k_wrong b_wrong .nil pass0 (pa_cons pe_int (pa_cons (pv 2) pa_nil))))) pss_nil)
      (pss_cons (ps_if (PW.pt (pw_and (pt_cmpR op_eq (pe_ix ix_list (pv 0) (pv 2) (fun _ _ => rfl)) pe_int (nomark _)) (pw_and1 (pt_cmpR op_eq (pe_op op_add (pv 2) pe_int) (pe_callB call_len_seq (by rfl) m_len PySem.boot_len (pa_cons (pv 0) pa_nil)) (nomark _))))) (pss_one (ps_ret (pe_call G_wrong (hr.mono (by decide)) rfl m_wrong k_wrong b_wrong .nil pass0 (pa_cons pe_int (pa_cons (pe_callB call_len_seq (by rfl) m_len PySem.boot_len (pa_cons (pv 0) pa_nil)) pa_nil))))) pss_nil)
      (pss_cons (ps_set (i := 4) sc_read_text.nd rfl (Or.inl rfl) (pe_call G_item_end (hr.mono (by decide)) rfl m_item_end k_item_end b_item_end .nil pass0 (pa_cons (pv 0) (pa_cons (pv 2) pa_nil))))
      (pss_cons (ps_if (pt_cmpR op_eq (pv 4) (pv 2) (nomark _)) (pss_one (ps_ret (pe_call G_wrong (hr.mono (by decide)) rfl m_wrong k_wrong b_wrong .nil pass0 (pa_cons pe_int (pa_cons (pv 2) pa_nil))))) pss_nil)
      (pss_cons (ps_set (i := 2) sc_read_text.nd rfl (Or.inl rfl) (pv 4))
      (pss_one (ps_aug (i := 3) sc_read_text.nd rfl (Or.inl rfl) pe_int ip_add))))))))
      (pss_one (ps_ret (pe_ifExp (pt_cmpR op_lt (pv 2) (pe_callB call_len_seq (by rfl) m_len PySem.boot_len (pa_cons (pv 0) pa_nil)) (nomark _)) (pe_call G_right (hr.mono (by decide)) rfl m_right k_right b_right .nil pass0 (pa_cons (pe_glob (v := V.str "TEXT") rfl m_TEXT ⟨_, rfl⟩) (pa_cons (pe_op op_add (pv 2) pe_int) pa_nil))) (pe_call G_wrong (hr.mono (by decide)) rfl m_wrong k_wrong b_wrong .nil pass0 (pa_cons pe_int (pa_cons (pe_callB call_len_seq (by rfl) m_len PySem.boot_len (pa_cons (pv 0) pa_nil)) pa_nil))))))))), ?_⟩)
  · obtain ⟨a, bs, i, rfl, _⟩ := h
    rfl
  · obtain ⟨a, bs, i, rfl, hS, hi, hQ⟩ := h
    refine ⟨_, rfl, _, _, rfl, rfl, ?_⟩
    refine ⟨fun m σ H' => Same H H' ∧ ∃ (p c : Nat) (z : Option V), σ = [some (.ref a), some (.int (i : Int)), some (.int (p : Int)), some (.int (c : Int)), z] ∧ p ≤ bs.length ∧ bs.length < p + m ∧ readText bs i = textAt bs m p c,
      ⟨bs.length + 1, Same.refl H, i + 1, 0, none, rfl, hi, by omega, rfl⟩, ?_⟩
    rintro m σ H' ⟨s1, p, c, z, rfl, hp, hm, eq⟩
    obtain ⟨m, rfl⟩ : ∃ m0, m = m0 + 1 := ⟨m - 1, by omega⟩
    have hS' := s1.seq hS
    have hQ' := hQ.of s1
    refine ⟨_, rfl, _, rfl, _, _, rfl, .inl hS', _, _, rfl, rfl, _, rfl, ?_⟩
    by_cases hlt : p < bs.length
    · have hat : atI (B bs) (p : Int) = some (V.int (bs[p].toNat : Int)) := atI_nat (B_get (List.getElem?_eq_getElem hlt))
      have he : textAt bs (m + 1) p c = if bs[p] = 34 then .ok (signs "TEXT") (p + 1) else if c = 1024 then .bad 1 p else if bs[p] = 92 ∧ p + 1 = bs.length then .bad 3 bs.length
          else if itemEnd bs p = p then .bad 1 p else textAt bs m (itemEnd bs p) (c + 1) := by
        conv => lhs; unfold textAt
        rw [List.getElem?_eq_getElem hlt]
      refine ifT (decide_eq_true (by rw [B_len]; omega)) ?_
      refine ⟨_, rfl, _, rfl, _, _, _, _, rfl, rfl, hS', hat, rfl, _, rfl, ?_⟩
      by_cases c1 : bs[p] = 34
      · rw [if_pos c1] at he
        refine ifF (congrArg (fun t => !t) ((byte_is bs[p] 34).trans (decide_eq_true c1))) ?_
        -- behind the loop
        refine ⟨_, rfl, _, rfl, _, _, rfl, .inl hS', _, _, rfl, rfl, _, rfl, ifT (decide_eq_true (by rw [B_len]; omega)) ?_⟩
        refine ⟨_, rfl, _, _, rfl, rfl, signs "TEXT", p + 1, rfl, ?_⟩
        rw [eq, he] at hQ'
        exact hQ'
      · rw [if_neg c1] at he
        refine ifT (congrArg (fun t => !t) ((byte_is bs[p] 34).trans (decide_eq_false c1))) ?_
        refine ⟨_, fun _ _ h => h, ?_⟩
        refine ⟨_, rfl, rfl, _, rfl, ?_⟩
        by_cases c2 : c = 1024
        · rw [if_pos c2] at he
          refine ifT (by rw [dec_vint, decide_eq_true (by omega)]) ⟨_, rfl, 1, p, rfl, ?_⟩
          rw [eq, he] at hQ'
          exact hQ'
        · rw [if_neg c2] at he
          refine ifF (by rw [dec_vint, decide_eq_false (by omega)]) ?_
          have go : ¬ (bs[p] = 92 ∧ p + 1 = bs.length) → ∀ (D : Ends), D.rt = Q → (D.nx = fun σ' H'_1 => ∃ m', m' < m + 1 ∧ Same H H'_1 ∧ ∃ (p c : Nat) (z : Option V), σ' = [some (.ref a), some (.int (i : Int)), some (.int (p : Int)), some (.int (c : Int)), z] ∧ p ≤ bs.length ∧ bs.length < p + m' ∧ readText bs i = textAt bs m' p c) →
              tSeq (tAsg (tCall (spItemEnd K) [] E0 (tCons (tVar 0) (tCons (tVar 2) tNil))) (gName 4))
                (tSeq (tIfS (tTest (tOp rEq (tVar 4) (tVar 2))) (tRet (tCall spWrong [] E0 (tCons (tC (.int 1)) (tCons (tVar 2) tNil)))) tNext)
                  (tSeq (tAsg (tVar 4) (gName 2)) (tAug 3 (tC (.int 1)) (ipI fun i j => i + j)))) D [some (.ref a), some (.int (i : Int)), some (.int (p : Int)), some (.int (c : Int)), z] H' := by
            intro c3 D hrt hnx
            rw [if_neg c3] at he
            refine ⟨_, rfl, _, rfl, a, bs, p, rfl, hS', hlt, fun H2 s2 => ?_⟩
            refine ⟨_, rfl, _, rfl, rfl, _, rfl, ?_⟩
            by_cases c4 : itemEnd bs p = p
            · rw [if_pos c4] at he
              refine ifT (by rw [dec_vint, decide_eq_true (by rw [c4])]) ?_
              refine ⟨_, rfl, 1, p, rfl, ?_⟩
              rw [eq, he] at hQ'
              show RetR H2 D.rt _
              rw [hrt]
              exact hQ'.of s2
            · rw [if_neg c4] at he
              refine ifF (by rw [dec_vint, decide_eq_false (by omega)]) ?_
              refine ⟨_, rfl, _, rfl, _, _, rfl, rfl, ?_⟩
              show D.nx _ H2
              rw [hnx]
              have hb := @itemEnd_le bs p
              have hend : itemEnd bs p ≤ bs.length := by
                rcases Nat.lt_or_ge (p + 1) bs.length with h | h
                · omega
                · have e1 : p + 1 = bs.length := by omega
                  have e2 : ¬ bs[p] = 92 := fun h => c3 ⟨h, e1⟩
                  have : itemEnd bs p ≤ p + 1 := by
                    unfold itemEnd
                    rw [List.getElem?_eq_getElem hlt]
                    show (if bs[p] = 92 then _ else _) ≤ _
                    rw [if_neg e2]
                    split <;> omega
                  omega
              exact ⟨m, by omega, s1.trans s2, itemEnd bs p, c + 1, some (.int (itemEnd bs p : Int)), rfl, hend, by omega, eq.trans he⟩
          refine ⟨_, rfl, _, rfl, _, _, _, _, rfl, rfl, hS', hat, rfl, _, rfl, ?_⟩
          by_cases c5 : bs[p] = 92
          · refine ifT ((byte_is bs[p] 92).trans (decide_eq_true c5)) ?_
            refine ⟨_, rfl, _, _, rfl, rfl, _, rfl, _, _, rfl, .inl hS', rfl, _, rfl, ?_⟩
            by_cases c6 : p + 1 = bs.length
            · rw [if_pos ⟨c5, c6⟩] at he
              refine ifT (by rw [dec_vint, decide_eq_true (by rw [B_len]; omega)]) ?_
              refine ⟨_, rfl, _, _, rfl, .inl hS', 3, bs.length, by rw [B_len]; rfl, ?_⟩
              rw [eq, he] at hQ'
              exact hQ'
            · refine ifF (by rw [dec_vint, decide_eq_false (by rw [B_len]; omega)]) ?_
              exact go (fun h => c6 h.2) _ rfl rfl
          · refine ifF ((byte_is bs[p] 92).trans (decide_eq_false c5)) (ifF rfl ?_)
            exact go (fun h => c5 h.1) _ rfl rfl
    · have he : textAt bs (m + 1) p c = .bad 3 bs.length := by
        conv => lhs; unfold textAt
        rw [List.getElem?_eq_none (by omega)]
      refine ifF (decide_eq_false (by rw [B_len]; omega)) (ifF rfl ?_)
      refine ⟨_, rfl, _, rfl, _, _, rfl, .inl hS', _, _, rfl, rfl, _, rfl, ifF (decide_eq_false (by rw [B_len]; omega)) ?_⟩
      refine ⟨_, rfl, _, _, rfl, .inl hS', 3, bs.length, by rw [B_len]; rfl, ?_⟩
      rw [eq, he] at hQ'
      exact hQ'
theorem c_read_text (e : Env w K mg) : Callee P w K mg base 3 "read_text" ["text", "at"] (spReadText K) := by
  obtain ⟨fd, F⟩ := e.d.def_ 15 (d := d_read_text) rfl
  exact ⟨_, fd, ok_read_text e F, e.glo (x := "read_text") (List.mem_of_getElem? (i := 15) rfl), F.kp, F.bindsN fun _ _ _ _ _ _ us hl => match us, hl with | [_, _], _ => rfl⟩
end
end La
set_option maxHeartbeats 4000000
namespace La
open PySem PySem.Spec PyProof.Rows L2
section
variable {P : Program} {w : World} {K : PySem.W.Frag} {mg : Str → Option Value} {base : Heap} {f : Addr} {fd : FuncData}
theorem RetV.of {H H' : Hp} {Q : VK} {v : V} (h : RetV H Q v) (s : Same H H') : RetV H' Q v := fun H2 s2 => h H2 (s.trans s2)
theorem ref_tru {H : Hp} {a : Addr} {bs : Bytes} (h : SqL K H a (B bs)) : TruV K (.ref a) H (!bs.isEmpty) := .inl ⟨_, h, by unfold B; rw [List.isEmpty_map]⟩
/-! right_number -/
def spRightNum (K : PySem.W.Frag) : Sp := fun vs H Q _ => ∃ (a1 a2 a3 : Addr) (first ex mark : Bytes) (pt neg : Bool), vs = [.ref a1, .bl pt, .ref a2, .bl neg, .ref a3] ∧ SqL K H a1 (B first) ∧ SqL K H a2 (B ex) ∧ SqL K H a3 (B mark) ∧ first ≠ [] ∧ RetV H Q (.bl (rightNum first pt ex neg mark))
theorem sc_right_number : FnScope ["first", "pointed", "exponent", "negative", "mark"] ["first", "pointed", "exponent", "negative", "mark"] (defScope s_right_number) := ⟨rfl, rfl, rfl, by decide +kernel, rfl, by decide +kernel, by decide +kernel⟩
abbrev F_right_number (K : PySem.W.Frag) (f : Addr) (fd : FuncData) : Prop := FunD K "right_number" "right_number" (defArgs s_right_number) (defBody s_right_number) (defScope s_right_number) [] [] f fd
theorem in_plain (b : UInt8) : inV (V.int (b.toNat : Int)) (t_PLAIN_MARKS.map (He.Dv.v K)) = decide (b.toNat ∈ PLAIN) := by
  rw [Bool.eq_iff_iff]
  simp only [t_PLAIN_MARKS, List.map_cons, List.map_nil, He.Dv.v, inV, List.any_cons, List.any_nil, eqV, Bool.or_false, Bool.or_eq_true, beq_iff_eq, decide_eq_true_eq, PLAIN, List.mem_cons, List.not_mem_nil, or_false]
  omega
theorem ok_right_number (e : Env w K mg) (F : F_right_number K f fd) : FnOk P w K mg base CX0 2 f fd ["first", "pointed", "exponent", "negative", "mark"] (spRightNum K) := by
  obtain ⟨f_right_exponent, fd_right_exponent, G_right_exponent, m_right_exponent, k_right_exponent, b_right_exponent⟩ := c_right_exponent (P := P) (w := w) (base := base) e
  obtain ⟨t_PACKED_MARK, m_PACKED_MARK⟩ := e.int (x := "PACKED_MARK") (i := 112) (List.mem_of_getElem? (i := 95) rfl)
  have m_PLAIN_MARKS : mg "PLAIN_MARKS" = some (.ref (He.ga K "PLAIN_MARKS")) := e.glo (List.mem_of_getElem? (i := 94) rfl)
  have m_len : mg "len" = none := e.free (List.mem_of_getElem? (i := 103) rfl)
  have hPM : ∀ H, SqT K H (He.ga K "PLAIN_MARKS") (t_PLAIN_MARKS.map (He.Dv.v K)) := fun H => e.tup H (List.mem_of_getElem? (i := 4) rfl)
  refine F.ok sc_right_number (fun vs H Q E h => ?_) (fun cdv A outer s H vs Q E hr h => ⟨_, PSs.nox
    (pss_cons (ps_if (pt_cmpR (op_eqD (hu64 hr)) (pv 4) (pe_lst (pa_cons (pe_glob (v := V.int 112) rfl m_PACKED_MARK ⟨_, rfl⟩) pa_nil)) (nomark _)) (pss_one (ps_ret (pe_and (pe_not (pv 1)) (pe_and (pe_notT (pv 2)) (pe_one (pe_cmpR op_le (pe_callB call_len_seq (by rfl) m_len PySem.boot_len (pa_cons (pv 0) pa_nil)) pe_int (nomark _))))))) pss_nil)
      (pss_cons (ps_if (PW.pt (pw_and (pt_truth (pv 4) (fun _ => rfl)) (pw_and1 (PW.pt (pw_or (pt_cmpR op_gt (pe_callB call_len_seq (by rfl) m_len PySem.boot_len (pa_cons (pv 4) pa_nil)) pe_int (nomark _)) (pw_or1 (pt_cmpR op_notIn_seq (pe_ix ix_list (pv 4) pe_int (fun _ _ => rfl)) (pe_glob (v := V.ref (He.ga K "PLAIN_MARKS")) rfl m_PLAIN_MARKS rfl) rfl))))))) (pss_one (ps_ret pe_bl)) pss_nil)
      (pss_cons (ps_if (PW.pt (pw_and (pt_cmpR op_eq (pe_ix ix_list (pv 0) pe_int (fun _ _ => rfl)) pe_int (nomark _)) (pw_and1 (pt_cmpR op_gt (pe_callB call_len_seq (by rfl) m_len PySem.boot_len (pa_cons (pv 0) pa_nil)) pe_int (nomark _))))) (pss_one (ps_ret pe_bl)) pss_nil)
      (pss_cons (ps_if (pt_truth (pv 2) (fun _ => rfl)) (pss_one (ps_ret (pe_and (pe_cmpR op_eq (pe_callB call_len_seq (by rfl) m_len PySem.boot_len (pa_cons (pv 4) pa_nil)) pe_int (nomark _)) (pe_one (pe_call G_right_exponent (hr.mono (by decide)) rfl m_right_exponent k_right_exponent b_right_exponent .nil pass0 (pa_cons (pv 2) (pa_cons (pv 3) pa_nil))))))) pss_nil)
      (pss_one (ps_ret pe_bl)))))), ?_⟩)
  · obtain ⟨a1, a2, a3, first, ex, mark, pt, neg, rfl, _⟩ := h
    rfl
  · obtain ⟨a1, a2, a3, first, ex, mark, pt, neg, rfl, h1, h2, h3, hne, hQ⟩ := h
    have he : rightNum first pt ex neg mark = if mark = [112] then !pt && (ex.isEmpty && decide (first.length ≤ 31))
        else if mark ≠ [] ∧ (1 < mark.length ∨ ∀ b, mark.head? = some b → b.toNat ∉ PLAIN) then false
        else if first.head? = some 48 ∧ 1 < first.length then false
        else if ex ≠ [] then decide (mark.length = 1) && rightExp ex neg
        else true := rfl
    generalize hrn : rightNum first pt ex neg mark = R0 at *
    refine ⟨_, rfl, (by show 1 ≤ sizeLine; decide), fun q hq => ?_⟩
    have s1 := same_upd (o := .lst [.int 112]) hq
    have g1 := s1.seq h1
    have g2 := s1.seq h2
    have g3 := s1.seq h3
    have hQ' := hQ.of s1
    refine ⟨_, _, .lst g3 (dp_B mark), .lst (.of upd_same) (dp_B [112]), shaped_B mark, shaped_B [112], _, rfl, ?_⟩
    by_cases c : mark = [112]
    · rw [if_pos c] at he
      refine ifT (by rw [eqv_B, decide_eq_true c]) ⟨_, rfl, _, rfl, ?_⟩
      cases pt with
      | true =>
        refine ⟨_, rfl, ifF rfl ?_⟩
        rw [he] at hQ'
        exact hQ' _ (Same.refl _)
      | false =>
        refine ⟨_, rfl, ifT rfl ⟨_, rfl, _, ref_tru g2, _, rfl, ?_⟩⟩
        cases hx : ex.isEmpty with
        | true =>
          refine ifT rfl ⟨_, rfl, _, _, rfl, .inl g1, _, _, rfl, rfl, ?_⟩
          rw [he, hx] at hQ'
          have e1 : decide (((B first).length : Int) ≤ 31) = decide (first.length ≤ 31) := decide_eq_decide.mpr (by rw [B_len]; omega)
          show Q (.bl (decide (((B first).length : Int) ≤ 31))) _
          rw [e1]
          exact hQ' _ (Same.refl _)
        | false =>
          refine ifF rfl ?_
          rw [he, hx] at hQ'
          exact hQ' _ (Same.refl _)
    · rw [if_neg c] at he
      refine ifF (by rw [eqv_B, decide_eq_false c]) ?_
      refine seq_by ?_
      refine if_by (decide (mark ≠ [] ∧ (1 < mark.length ∨ ∀ b, mark.head? = some b → b.toNat ∉ PLAIN))) ?_ (fun hb => ?_) (fun hb => ?_)
      · intro Q2 q2
        refine ⟨_, rfl, _, ref_tru g3, ?_⟩
        cases mark with
        | nil =>
          refine ifF rfl ?_
          simpa using q2
        | cons m r =>
          refine ifT rfl ⟨_, rfl, _, _, rfl, .inl g3, _, _, rfl, rfl, _, rfl, ?_⟩
          by_cases c1 : 1 < (m :: r).length
          · refine ifT (decide_eq_true (by rw [B_len]; omega)) ?_
            rw [decide_eq_true ⟨by simp, .inl c1⟩] at q2
            exact q2
          · refine ifF (decide_eq_false (by rw [B_len]; omega)) ⟨_, rfl, _, _, _, _, rfl, rfl, g3, atI_nat (j := 0) rfl, _, _, rfl, .inr (hPM _), rfl, rfl, _, rfl, ?_⟩
            have e1 : decide ((m :: r) ≠ [] ∧ (1 < (m :: r).length ∨ ∀ b, (m :: r).head? = some b → b.toNat ∉ PLAIN)) = !decide (m.toNat ∈ PLAIN) := by
              rw [Bool.eq_iff_iff]
              simp only [decide_eq_true_eq, Bool.not_eq_true', decide_eq_false_iff_not]
              constructor
              · rintro ⟨_, h | h⟩
                · exact absurd h c1
                · exact h m rfl
              · intro h
                exact ⟨by simp, .inr fun b hb => by cases hb; exact h⟩
            rw [e1, ← in_plain (K := K)] at q2
            exact q2
      · rw [if_pos (of_decide_eq_true hb)] at he
        rw [he] at hQ'
        exact hQ' _ (Same.refl _)
      · rw [if_neg (of_decide_eq_false hb)] at he
        obtain ⟨x, r, rfl⟩ : ∃ x r, first = x :: r := by
          cases first with
          | nil => exact absurd rfl hne
          | cons x r => exact ⟨x, r, rfl⟩
        refine seq_by ?_
        refine if_by (decide ((x :: r).head? = some 48 ∧ 1 < (x :: r).length)) ?_ (fun hb2 => ?_) (fun hb2 => ?_)
        · intro Q2 q2
          refine ⟨_, rfl, _, _, _, _, rfl, rfl, g1, atI_nat (j := 0) rfl, rfl, _, rfl, ?_⟩
          have e48 : decide (V.int (x.toNat : Int) = V.int 48) = decide (x = 48) := byte_is x 48
          by_cases c1 : x = 48
          · refine ifT (e48.trans (decide_eq_true c1)) ⟨_, rfl, _, _, rfl, .inl g1, _, _, rfl, rfl, _, rfl, ?_⟩
            have e1 : decide ((x :: r).head? = some 48 ∧ 1 < (x :: r).length) = decide ((1 : Int) < ((B (x :: r)).length : Int)) := decide_eq_decide.mpr (by rw [B_len, c1]; simp; omega)
            rw [e1] at q2
            exact q2
          · refine ifF (e48.trans (decide_eq_false c1)) ?_
            rw [decide_eq_false (by simp [c1])] at q2
            exact q2
        · rw [if_pos (of_decide_eq_true hb2)] at he
          rw [he] at hQ'
          exact hQ' _ (Same.refl _)
        · rw [if_neg (of_decide_eq_false hb2)] at he
          refine ⟨_, rfl, _, ref_tru g2, ?_⟩
          cases ex with
          | nil =>
            refine ifF rfl ?_
            rw [if_neg (by simp)] at he
            rw [he] at hQ'
            exact hQ' _ (Same.refl _)
          | cons y t =>
            rw [if_pos (by simp)] at he
            refine ifT rfl ⟨_, rfl, _, _, rfl, .inl g3, rfl, _, rfl, ?_⟩
            by_cases c1 : mark.length = 1
            · refine ifT (by rw [dec_vint, decide_eq_true (by rw [B_len]; omega)]) ⟨_, rfl, _, rfl, a2, y :: t, neg, rfl, g2, by simp, ?_⟩
              rw [he, decide_eq_true c1] at hQ'
              exact hQ'
            · refine ifF (by rw [dec_vint, decide_eq_false (by rw [B_len]; omega)]) ?_
              rw [he, decide_eq_false c1] at hQ'
              exact hQ' _ (Same.refl _)
theorem c_right_number (e : Env w K mg) : Callee P w K mg base 2 "right_number" ["first", "pointed", "exponent", "negative", "mark"] (spRightNum K) := by
  obtain ⟨fd, F⟩ := e.d.def_ 12 (d := d_right_number) rfl
  exact ⟨_, fd, ok_right_number e F, e.glo (x := "right_number") (List.mem_of_getElem? (i := 12) rfl), F.kp, F.bindsN fun _ _ _ _ _ _ us hl => match us, hl with | [_, _, _, _, _], _ => rfl⟩
end
end La
set_option maxHeartbeats 4000000
namespace La
open PySem PySem.Spec PyProof.Rows L2
theorem cut_len (bs : Bytes) (lo hi : Option Int) : (cutV (B bs) lo hi).length ≤ bs.length := by
  have h := cutV_length (B bs) lo hi
  rwa [B_len] at h
section
variable {P : Program} {w : World} {K : PySem.W.Frag} {mg : Str → Option Value} {base : Heap} {f : Addr} {fd : FuncData}
def spReadNumber (K : PySem.W.Frag) : Sp := fun vs H Q _ => ∃ (a : Addr) (bs : Bytes) (i : Nat), vs = [.ref a, .int (i : Int)] ∧ SqL K H a (B bs) ∧ (∃ b, bs[i]? = some b ∧ sg b = 48) ∧ RetR H Q (readNumber bs i)
theorem sc_read_number : FnScope ["text", "at", "whole", "broken", "digits", "raised", "end", "fit"] ["text", "at"] (defScope s_read_number) := ⟨rfl, rfl, rfl, by decide +kernel, rfl, by decide +kernel, by decide +kernel⟩
abbrev F_read_number (K : PySem.W.Frag) (f : Addr) (fd : FuncData) : Prop := FunD K "read_number" "read_number" (defArgs s_read_number) (defBody s_read_number) (defScope s_read_number) [] [] f fd
theorem expAt_le {bs : Bytes} {i : Nat} (h : i ≤ bs.length) : expAt bs i ≤ bs.length := by
  have hd : ∀ j, digitAt bs j = true → j < bs.length := fun j hj => by
    unfold digitAt at hj
    rcases Nat.lt_or_ge j bs.length with h | h
    · exact h
    · rw [List.getElem?_eq_none h] at hj
      cases hj
  unfold expAt
  split
  · exact h
  · split
    · rename_i h1
      exact Nat.le_of_lt (hd _ h1)
    · split
      · rename_i h1
        exact Nat.le_of_lt (hd _ h1.2)
      · exact h
theorem ok_read_number (e : Env w K mg) (F : F_read_number K f fd) : FnOk P w K mg base CX0 4 f fd ["text", "at"] (spReadNumber K) := by
  obtain ⟨f_run_end, fd_run_end, G_run_end, m_run_end, k_run_end, b_run_end⟩ := c_run_end (P := P) (w := w) (base := base) e
  obtain ⟨f_digit_at, fd_digit_at, G_digit_at, m_digit_at, k_digit_at, b_digit_at⟩ := c_digit_at (P := P) (w := w) (base := base) e
  obtain ⟨f_byte_at, fd_byte_at, G_byte_at, m_byte_at, k_byte_at, b_byte_at⟩ := c_byte_at (P := P) (w := w) (base := base) e
  obtain ⟨f_exponent_digits, fd_exponent_digits, G_exponent_digits, m_exponent_digits, k_exponent_digits, b_exponent_digits⟩ := c_exponent_digits (P := P) (w := w) (base := base) e
  obtain ⟨f_right_number, fd_right_number, G_right_number, m_right_number, k_right_number, b_right_number⟩ := c_right_number (P := P) (w := w) (base := base) e
  obtain ⟨f_right, fd_right, G_right, m_right, k_right, b_right⟩ := c_right (P := P) (w := w) (base := base) e
  obtain ⟨f_wrong, fd_wrong, G_wrong, m_wrong, k_wrong, b_wrong⟩ := c_wrong (P := P) (w := w) (base := base) e
  obtain ⟨t_NUMBER, m_NUMBER⟩ := e.str (x := "NUMBER") (z := "NUMBER") (List.mem_of_getElem? (i := 85) rfl)
  refine F.ok sc_read_number (fun vs H Q E h => ?_) (fun cdv A outer s H vs Q E hr h => ⟨_, PSs.nox
    (pss_cons (ps_set (i := 2) sc_read_number.nd rfl (Or.inl rfl) (pe_call G_run_end (hr.mono (by decide)) rfl m_run_end k_run_end b_run_end .nil pass0 (pa_cons (pv 0) (pa_cons (pv 1) (pa_cons pe_str pa_nil)))))
      (pss_cons (ps_set (i := 3) sc_read_number.nd rfl (Or.inl rfl) (pv 2))
      (pss_cons (ps_if (PW.pt (pw_and (pt_cmpR op_eq (pe_call G_byte_at (hr.mono (by decide)) rfl m_byte_at k_byte_at b_byte_at .nil pass0 (pa_cons (pv 0) (pa_cons (pv 2) pa_nil))) pe_int (nomark _)) (pw_and1 (pt_val (pe_call G_digit_at (hr.mono (by decide)) rfl m_digit_at k_digit_at b_digit_at .nil pass0 (pa_cons (pv 0) (pa_cons (pe_op op_add (pv 2) pe_int) pa_nil))))))) (pss_one (ps_set (i := 3) sc_read_number.nd rfl (Or.inl rfl) (pe_call G_run_end (hr.mono (by decide)) rfl m_run_end k_run_end b_run_end .nil pass0 (pa_cons (pv 0) (pa_cons (pe_op op_add (pv 2) pe_int) (pa_cons pe_str pa_nil)))))) pss_nil)
      (pss_cons (ps_set (i := 4) sc_read_number.nd rfl (Or.inl rfl) (pe_call G_exponent_digits (hr.mono (by decide)) rfl m_exponent_digits k_exponent_digits b_exponent_digits .nil pass0 (pa_cons (pv 0) (pa_cons (pv 3) pa_nil))))
      (pss_cons (ps_set (i := 5) sc_read_number.nd rfl (Or.inl rfl) (pe_call G_run_end (hr.mono (by decide)) rfl m_run_end k_run_end b_run_end .nil pass0 (pa_cons (pv 0) (pa_cons (pv 4) (pa_cons pe_str pa_nil)))))
      (pss_cons (ps_set (i := 6) sc_read_number.nd rfl (Or.inl rfl) (pe_call G_run_end (hr.mono (by decide)) rfl m_run_end k_run_end b_run_end .nil pass0 (pa_cons (pv 0) (pa_cons (pv 5) (pa_cons pe_str pa_nil)))))
      (pss_cons (ps_set (i := 7) sc_read_number.nd rfl (Or.inl rfl) (pe_call G_right_number (hr.mono (by decide)) rfl m_right_number k_right_number b_right_number .nil pass0 (pa_cons (pe_slice sl_list (pv 0) (po_some (pv 1)) (po_some (pv 2))) (pa_cons (pe_cmpR op_gt (pv 3) (pv 2) (nomark _)) (pa_cons (pe_slice sl_list (pv 0) (po_some (pv 4)) (po_some (pv 5))) (pa_cons (pe_cmpR op_eq (pv 4) (pe_op op_add (pv 3) pe_int) (nomark _)) (pa_cons (pe_slice sl_list (pv 0) (po_some (pv 5)) (po_some (pv 6))) pa_nil)))))))
      (pss_one (ps_ret (pe_ifExp (PW.pt (pw_and (pt_val (pv 7)) (pw_and1 (pt_cmpR op_le (pe_op op_sub (pv 6) (pv 1)) pe_int (nomark _))))) (pe_call G_right (hr.mono (by decide)) rfl m_right k_right b_right .nil pass0 (pa_cons (pe_glob (v := V.str "NUMBER") rfl m_NUMBER ⟨_, rfl⟩) (pa_cons (pv 6) pa_nil))) (pe_call G_wrong (hr.mono (by decide)) rfl m_wrong k_wrong b_wrong .nil pass0 (pa_cons pe_int (pa_cons (pv 1) pa_nil))))))))))))), ?_⟩)
  · obtain ⟨a, bs, i, rfl, _⟩ := h
    rfl
  · obtain ⟨a, bs, i, rfl, hS, ⟨b0, hb0, hsg⟩, hQ⟩ := h
    have hi : i < bs.length := (List.getElem?_eq_some_iff.mp hb0).1
    have z0 : inL (Str.ofString "0").cps.toList = inL (signs "0") := rfl
    have z1 : inL (Str.ofString "aA0_").cps.toList = inL (signs "aA0_") := rfl
    refine ⟨_, rfl, _, rfl, a, bs, i, _, rfl, hS, Nat.le_of_lt hi, ?_⟩
    rw [z0]
    generalize hwh : runTo (inL (signs "0")) bs i = wh
    have lwh : i ≤ wh ∧ wh ≤ bs.length := hwh ▸ run_le (Nat.le_of_lt hi)
    have lwh2 : i < wh := by
      have e1 : runTo (inL (signs "0")) bs i = runTo (inL (signs "0")) bs (i + 1) := run_step hi (by
        have e2 : bs[i] = b0 := Option.some.inj ((List.getElem?_eq_getElem hi).symm.trans hb0)
        rw [e2]
        show decide (sg b0 ∈ signs "0") = true
        rw [hsg]
        rfl)
      have e3 := (run_le (p := inL (signs "0")) (bs := bs) (i := i + 1) hi).1
      omega
    refine ⟨_, rfl, ?_⟩
    -- behind the point
    have rest : ∀ br : Nat, br = (if byteAt bs wh = 46 ∧ digitAt bs (wh + 1) = true then runTo (inL (signs "0")) bs (wh + 1) else wh) → br ≤ bs.length →
        tSeq (tAsg (tCall (spExp K) [] E0 (tCons (tVar 0) (tCons (tVar 3) tNil))) (gName 4))
          (tSeq (tAsg (tCall (spRunEnd K) [] E0 (tCons (tVar 0) (tCons (tVar 4) (tCons (tC (.str (Str.ofString "0"))) tNil)))) (gName 5))
          (tSeq (tAsg (tCall (spRunEnd K) [] E0 (tCons (tVar 0) (tCons (tVar 5) (tCons (tC (.str (Str.ofString "aA0_"))) tNil)))) (gName 6))
          (tSeq (tAsg (tCall (spRightNum K) [] E0 (tCons (tSl (rSlL K) (tVar 0) (tPart (tVar 1)) (tPart (tVar 2)))
              (tCons (tOp (rI0 fun i j => .bl (decide (j < i))) (tVar 3) (tVar 2))
              (tCons (tSl (rSlL K) (tVar 0) (tPart (tVar 4)) (tPart (tVar 5)))
              (tCons (tOp rEq (tVar 4) (tOp (rI0 fun i j => .int (i + j)) (tVar 3) (tC (.int 2))))
              (tCons (tSl (rSlL K) (tVar 0) (tPart (tVar 5)) (tPart (tVar 6))) tNil)))))) (gName 7))
          (tRet (tIf (tAnd (tB (tVar 7)) (tTest (tOp (rI0 fun i j => .bl (decide (i ≤ j))) (tOp (rI0 fun i j => .int (i - j)) (tVar 6) (tVar 1)) (tC (.int 255)))))
            (tCall spRight [] E0 (tCons (tC (.str (Str.ofString "NUMBER"))) (tCons (tVar 6) tNil))) (tCall spWrong [] E0 (tCons (tC (.int 1)) (tCons (tVar 1) tNil))))))))
        { nx := fun _ H' => Q .non H', rt := Q } [some (.ref a), some (.int (i : Int)), some (.int (wh : Int)), some (.int (br : Int)), none, none, none, none] H := by
      intro br hbr lbr
      refine ⟨_, rfl, _, rfl, a, bs, br, rfl, hS, ?_⟩
      generalize hdg : expAt bs br = dg
      have ldg : dg ≤ bs.length := hdg ▸ expAt_le lbr
      refine ⟨_, rfl, _, rfl, a, bs, dg, _, rfl, hS, ldg, ?_⟩
      rw [z0]
      generalize hra : runTo (inL (signs "0")) bs dg = ra
      have lra : dg ≤ ra ∧ ra ≤ bs.length := hra ▸ run_le ldg
      refine ⟨_, rfl, _, rfl, a, bs, ra, _, rfl, hS, lra.2, ?_⟩
      rw [z1]
      generalize hfi : runTo (inL (signs "aA0_")) bs ra = fi
      have lfi : ra ≤ fi ∧ fi ≤ bs.length := hfi ▸ run_le lra.2
      have hrd : readNumber bs i = if rightNum ((bs.take wh).drop i) (decide (wh < br)) ((bs.take ra).drop dg) (decide (dg = br + 2)) ((bs.take fi).drop ra) = true ∧ fi - i ≤ 255 then .ok (signs "NUMBER") fi else .bad 1 i := by
        unfold readNumber
        simp only [hwh, ← hbr, hdg, hra, hfi]
      refine ⟨_, rfl, _, rfl, _, rfl, _, rfl, _, rfl, a, _, rfl, hS, fun p1 hp1 => ?_⟩
      rw [cut_B]
      have s1 := same_upd (o := .lst (B ((bs.take wh).drop i))) hp1
      refine ⟨_, rfl, _, rfl, _, _, rfl, rfl, ?_⟩
      refine ⟨_, rfl, _, rfl, _, rfl, _, rfl, _, rfl, a, _, rfl, s1.seq hS, fun p2 hp2 => ?_⟩
      rw [cut_B]
      have s2 := same_upd (o := .lst (B ((bs.take ra).drop dg))) hp2
      refine ⟨_, rfl, _, rfl, _, _, rfl, rfl, rfl, ?_⟩
      refine ⟨_, rfl, _, rfl, _, rfl, _, rfl, _, rfl, a, _, rfl, (s1.trans s2).seq hS, fun p3 hp3 => ?_⟩
      rw [cut_B]
      have s3 := same_upd (o := .lst (B ((bs.take fi).drop ra))) hp3
      have g1 := (s2.trans s3).seq (K := K) (.of upd_same : SqL K (upd H p1 (.lst (B ((bs.take wh).drop i)))) p1 _)
      have g2 := s3.seq (K := K) (.of upd_same : SqL K (upd (upd H p1 (.lst (B ((bs.take wh).drop i)))) p2 (.lst (B ((bs.take ra).drop dg)))) p2 _)
      have ed : decide (V.int (dg : Int) = V.int ((br : Int) + 2)) = decide (dg = br + 2) := by
        rw [dec_vint]
        exact decide_eq_decide.mpr (by omega)
      have ew : decide ((wh : Int) < (br : Int)) = decide (wh < br) := decide_eq_decide.mpr (by omega)
      rw [ed]
      rw [← ew] at hrd
      refine ⟨p1, p2, p3, _, _, _, _, _, rfl, g1, g2, .of upd_same, ?_, fun H4 s4 => ?_⟩
      · intro h0
        have := congrArg List.length h0
        rw [List.length_drop, List.length_take, List.length_nil] at this
        omega
      · generalize rightNum ((bs.take wh).drop i) (decide ((wh : Int) < (br : Int))) ((bs.take ra).drop dg) (decide (dg = br + 2)) ((bs.take fi).drop ra) = R0 at *
        have sA := (s1.trans s2).trans (s3.trans s4)
        have hQ' := hQ.of sA
        refine ⟨_, rfl, R0, rfl, ?_⟩
        have no : (R0 = true ∧ fi - i ≤ 255 → False) → RetR H4 Q (.bad 1 i) := fun hn => by
          rw [if_neg hn] at hrd
          rw [hrd] at hQ'
          exact hQ'
        cases R0 with
        | true =>
          refine ifT rfl ⟨_, rfl, _, rfl, _, _, rfl, rfl, _, _, rfl, rfl, _, rfl, ?_⟩
          by_cases c : fi - i ≤ 255
          · refine ifT (decide_eq_true (by omega)) ⟨_, rfl, signs "NUMBER", fi, rfl, ?_⟩
            rw [if_pos ⟨rfl, c⟩] at hrd
            rw [hrd] at hQ'
            exact hQ'
          · exact ifF (decide_eq_false (by omega)) ⟨_, rfl, 1, i, rfl, no fun h => c h.2⟩
        | false =>
          exact ifF rfl (ifF rfl ⟨_, rfl, 1, i, rfl, no fun h => Bool.noConfusion h.1⟩)
    refine ⟨_, rfl, _, rfl, a, bs, wh, rfl, hS, rfl, _, rfl, ?_⟩
    by_cases c1 : byteAt bs wh = 46
    · refine ifT (by rw [dec_vint, decide_eq_true c1]) ?_
      refine ⟨_, rfl, _, rfl, _, _, rfl, rfl, a, bs, wh + 1, rfl, hS, _, rfl, ?_⟩
      by_cases c2 : digitAt bs (wh + 1) = true
      · have hlt : wh + 1 < bs.length := by
          unfold digitAt at c2
          rcases Nat.lt_or_ge (wh + 1) bs.length with h | h
          · exact h
          · rw [List.getElem?_eq_none h] at c2
            cases c2
        refine ifT c2 ⟨_, rfl, _, rfl, _, _, rfl, rfl, a, bs, wh + 1, _, rfl, hS, Nat.le_of_lt hlt, ?_⟩
        rw [z0]
        exact rest _ (by rw [if_pos ⟨c1, c2⟩]) (run_le (Nat.le_of_lt hlt)).2
      · exact ifF (by simpa using c2) (rest wh (by rw [if_neg fun c => c2 c.2]) lwh.2)
    · exact ifF (by rw [dec_vint, decide_eq_false c1]) (ifF rfl (rest wh (by rw [if_neg fun c => c1 c.1]) lwh.2))
theorem c_read_number (e : Env w K mg) : Callee P w K mg base 4 "read_number" ["text", "at"] (spReadNumber K) := by
  obtain ⟨fd, F⟩ := e.d.def_ 13 (d := d_read_number) rfl
  exact ⟨_, fd, ok_read_number e F, e.glo (x := "read_number") (List.mem_of_getElem? (i := 13) rfl), F.kp, F.bindsN fun _ _ _ _ _ _ us hl => match us, hl with | [_, _], _ => rfl⟩
end
end La
set_option maxHeartbeats 4000000
namespace La
open PySem PySem.Spec PyProof.Rows L2
theorem cut_all {bs : Bytes} {p : UInt8 → Bool} {i fin : Nat} (h : runTo p bs i = fin) : ∀ b ∈ (bs.take fin).drop i, p b = true := by
  intro b hb
  have e : (bs.take fin).drop i = (bs.drop i).takeWhile p := by
    rw [List.drop_take, ← h]
    unfold runTo
    rw [Nat.add_sub_cancel_left]
    exact (List.prefix_iff_eq_take.mp (List.takeWhile_prefix p)).symm
  rw [e] at hb
  exact List.all_eq_true.mp List.all_takeWhile b hb
theorem sg97 {b : UInt8} (h : inL (signs "a") b = true) : EwTree.isSmall b = true := by
  have h1 : sg b = 97 := by
    have := of_decide_eq_true h
    simpa [signs] using this
  unfold sg at h1
  split at h1
  · assumption
  · split at h1
    · cases h1
    · split at h1
      · cases h1
      · split at h1 <;> cases h1
theorem letter {b : UInt8} (h : EwTree.isSmall b = true) : atI ("abcdefghijklmnopqrstuvwxyz" : Str).cps.toList ((b.toNat : Int) - 97) = some b.toNat := by
  unfold EwTree.isSmall at h
  simp only [UInt8.le_iff_toNat_le, Bool.and_eq_true, decide_eq_true_eq] at h
  obtain ⟨h1, h2⟩ := h
  have h1' : 97 ≤ b.toNat := h1
  have h2' : b.toNat ≤ 122 := h2
  obtain ⟨k, hk⟩ : ∃ k : Nat, b.toNat = 97 + k := ⟨b.toNat - 97, by omega⟩
  rw [hk, show (((97 + k : Nat) : Int) - 97) = (k : Int) by omega]
  refine atI_nat ?_
  have hk2 : k < 26 := by omega
  have all : ∀ k : Fin 26, ("abcdefghijklmnopqrstuvwxyz" : Str).cps.toList[k.val]? = some (97 + k.val) := by decide +kernel
  exact all ⟨k, hk2⟩
theorem kw_list (K : PySem.W.Frag) : t_KEYWORDS.map (He.Dv.v K) = keyL.map fun l => V.str (strL l) := by rfl
theorem in_kw (K : PySem.W.Frag) (l : List Nat) : inV (.str (strL l)) (t_KEYWORDS.map (He.Dv.v K)) = decide (l ∈ keyL) := by
  rw [kw_list]
  have gen : ∀ ks : List (List Nat), inV (.str (strL l)) (ks.map fun l => V.str (strL l)) = decide (l ∈ ks) := by
    intro ks
    induction ks with
    | nil => rfl
    | cons k r ih =>
      have e1 : inV (.str (strL l)) ((k :: r).map fun l => V.str (strL l)) = (eqV (.str (strL k)) (.str (strL l)) || inV (.str (strL l)) (r.map fun l => V.str (strL l))) := rfl
      have e2 : eqV (.str (strL k)) (.str (strL l)) = decide (k = l) := SX.S_beq_eq
      rw [e1, ih, e2, Bool.eq_iff_iff]
      simp only [Bool.or_eq_true, decide_eq_true_eq, List.mem_cons]
      constructor
      · rintro (h | h)
        · exact .inl h.symm
        · exact .inr h
      · rintro (h | h)
        · exact .inl h.symm
        · exact .inr h
  exact gen keyL
theorem kw_flat (K : PySem.W.Frag) : (t_KEYWORDS.map (He.Dv.v K)).all flatV = true := by
  rw [kw_list]
  simp [flatV]
theorem joinL_nil : ∀ l : List Nat, TL.joinL [] (l.map fun c => [c]) = l
  | [] => rfl
  | [a] => rfl
  | a :: b :: r => by
    have ih := joinL_nil (b :: r)
    show [a] ++ [] ++ TL.joinL [] ((b :: r).map fun c => [c]) = _
    rw [ih]
    rfl
theorem join_ones (l : List Nat) : Txt.join (Str.ofString "") ((l.map fun c => [c]).map strL) = strL l := by
  have h := SX.join_S [] (l.map fun c => [c])
  rw [joinL_nil] at h
  exact h
section
variable {P : Program} {w : World} {K : PySem.W.Frag} {mg : Str → Option Value} {base : Heap} {f : Addr} {fd : FuncData}
def spReadWord (K : PySem.W.Frag) : Sp := fun vs H Q _ => ∃ (a : Addr) (bs : Bytes) (i : Nat), vs = [.ref a, .int (i : Int)] ∧ SqL K H a (B bs) ∧ i ≤ bs.length ∧ bs.length ≤ 4096 ∧ RetR H Q (readWord bs i)
theorem sc_read_word : FnScope ["text", "at", "end", "word", "byte"] ["text", "at"] (defScope s_read_word) := ⟨rfl, rfl, rfl, by decide +kernel, rfl, by decide +kernel, by decide +kernel⟩
abbrev F_read_word (K : PySem.W.Frag) (f : Addr) (fd : FuncData) : Prop := FunD K "read_word" "read_word" (defArgs s_read_word) (defBody s_read_word) (defScope s_read_word) [] [] f fd
theorem ok_read_word (e : Env w K mg) (F : F_read_word K f fd) : FnOk P w K mg base CX0 3 f fd ["text", "at"] (spReadWord K) := by
  obtain ⟨f_run_end, fd_run_end, G_run_end, m_run_end, k_run_end, b_run_end⟩ := c_run_end (P := P) (w := w) (base := base) e
  obtain ⟨f_right, fd_right, G_right, m_right, k_right, b_right⟩ := c_right (P := P) (w := w) (base := base) e
  obtain ⟨f_wrong, fd_wrong, G_wrong, m_wrong, k_wrong, b_wrong⟩ := c_wrong (P := P) (w := w) (base := base) e
  have m_KEYWORDS : mg "KEYWORDS" = some (.ref (He.ga K "KEYWORDS")) := e.glo (List.mem_of_getElem? (i := 89) rfl)
  obtain ⟨t_NAME, m_NAME⟩ := e.str (x := "NAME") (z := "NAME") (List.mem_of_getElem? (i := 83) rfl)
  obtain ⟨t_LETTERS, m_LETTERS⟩ := e.str (x := "LETTERS") (z := "abcdefghijklmnopqrstuvwxyz") (List.mem_of_getElem? (i := 93) rfl)
  have hKW : ∀ H, SqT K H (He.ga K "KEYWORDS") (t_KEYWORDS.map (He.Dv.v K)) := fun H => e.tup H (List.mem_of_getElem? (i := 1) rfl)
  refine F.ok sc_read_word (fun vs H Q E h => ?_) (fun cdv A outer s H vs Q E hr h => ⟨_, PSs.nox
    (pss_cons (ps_set (i := 2) sc_read_word.nd rfl (Or.inl rfl) (pe_call G_run_end (hr.mono (by decide)) rfl m_run_end k_run_end b_run_end .nil pass0 (pa_cons (pv 0) (pa_cons (pv 1) (pa_cons pe_str pa_nil)))))
      (pss_cons (ps_if (pt_cmpR op_eq (pe_call G_run_end (hr.mono (by decide)) rfl m_run_end k_run_end b_run_end .nil pass0 (pa_cons (pv 0) (pa_cons (pv 1) (pa_cons pe_str pa_nil)))) (pv 2) (nomark _)) (pss_cons (ps_set (i := 3) sc_read_word.nd rfl (Or.inl rfl) (pe_join pe_str (pe_lc (own := [("byte", 4)]) (g := gName 4) (tt := tYes) rfl sc_read_word.nd (pi_list (pe_slice sl_list (pv 0) (po_some (pv 1)) (po_some (pv 2)))) (blkOk_by (N := ["text", "at", "end", "word", "byte"]) (sc := defScope s_read_word) (by decide +kernel)) (fun _ _ _ _ _ => pg_name (i := 4) sc_read_word.nd rfl (Or.inl rfl)) (fun _ _ _ _ _ => pts_nil) (fun _ _ _ _ _ => pe_ix ix_str (pe_glob (v := V.str "abcdefghijklmnopqrstuvwxyz") rfl m_LETTERS ⟨_, rfl⟩) (pe_op op_sub (pv 4) pe_int) (fun _ _ => rfl)))))
      (pss_one (ps_if (pt_cmpR op_in_seq (pv 3) (pe_glob (v := V.ref (He.ga K "KEYWORDS")) rfl m_KEYWORDS rfl) rfl) (pss_one (ps_ret (pe_call G_right (hr.mono (by decide)) rfl m_right k_right b_right .nil pass0 (pa_cons (pv 3) (pa_cons (pv 2) pa_nil))))) pss_nil))) pss_nil)
      (pss_one (ps_ret (pe_ifExp (pt_cmpR op_le (pe_op op_sub (pv 2) (pv 1)) pe_int (nomark _)) (pe_call G_right (hr.mono (by decide)) rfl m_right k_right b_right .nil pass0 (pa_cons (pe_glob (v := V.str "NAME") rfl m_NAME ⟨_, rfl⟩) (pa_cons (pv 2) pa_nil))) (pe_call G_wrong (hr.mono (by decide)) rfl m_wrong k_wrong b_wrong .nil pass0 (pa_cons pe_int (pa_cons (pv 1) pa_nil)))))))), ?_⟩)
  · obtain ⟨a, bs, i, rfl, _⟩ := h
    rfl
  · obtain ⟨a, bs, i, rfl, hS, hi, hlen, hQ⟩ := h
    have z0 : inL (Str.ofString "a0_").cps.toList = inL (signs "a0_") := rfl
    have z1 : inL (Str.ofString "a").cps.toList = inL (signs "a") := rfl
    refine ⟨_, rfl, _, rfl, a, bs, i, _, rfl, hS, hi, ?_⟩
    rw [z0]
    generalize hfi : runTo (inL (signs "a0_")) bs i = fi
    have lfi : i ≤ fi ∧ fi ≤ bs.length := hfi ▸ run_le hi
    have hrw : readWord bs i = if runTo (inL (signs "a")) bs i = fi ∧ codes ((bs.take fi).drop i) ∈ keyL then .ok (codes ((bs.take fi).drop i)) fi else if fi - i ≤ 31 then .ok (signs "NAME") fi else .bad 1 i := by
      unfold readWord
      simp only [hfi]
    -- no keyword
    have rest : ∀ (H' : Hp) (z : Option V) (zb : Option V), Same H H' → ¬ (runTo (inL (signs "a")) bs i = fi ∧ codes ((bs.take fi).drop i) ∈ keyL) →
        tRet (tIf (tTest (tOp (rI0 fun i j => .bl (decide (i ≤ j))) (tOp (rI0 fun i j => .int (i - j)) (tVar 2) (tVar 1)) (tC (.int 31))))
          (tCall spRight [] E0 (tCons (tC (.str (Str.ofString "NAME"))) (tCons (tVar 2) tNil))) (tCall spWrong [] E0 (tCons (tC (.int 1)) (tCons (tVar 1) tNil))))
        { nx := fun _ H' => Q .non H', rt := Q } [some (.ref a), some (.int (i : Int)), some (.int (fi : Int)), z, zb] H' := by
      intro H' z zb s1 hn
      have hQ' := hQ.of s1
      rw [if_neg hn] at hrw
      refine ⟨_, rfl, _, rfl, _, _, rfl, rfl, _, _, rfl, rfl, _, rfl, ?_⟩
      by_cases c : fi - i ≤ 31
      · rw [if_pos c] at hrw
        rw [hrw] at hQ'
        exact ifT (decide_eq_true (by omega)) ⟨_, rfl, signs "NAME", fi, rfl, hQ'⟩
      · rw [if_neg c] at hrw
        rw [hrw] at hQ'
        exact ifF (decide_eq_false (by omega)) ⟨_, rfl, 1, i, rfl, hQ'⟩
    refine ⟨_, rfl, _, rfl, a, bs, i, _, rfl, hS, hi, _, rfl, rfl, _, rfl, ?_⟩
    rw [z1]
    by_cases c : runTo (inL (signs "a")) bs i = fi
    · refine ifT (by rw [dec_vint, decide_eq_true (by rw [c])]) ?_
      have small : ∀ b ∈ (bs.take fi).drop i, EwTree.isSmall b = true := fun b hb => sg97 (cut_all c b hb)
      refine ⟨⟨_, rfl⟩, _, rfl, _, rfl, _, rfl, _, rfl, _, rfl, a, _, rfl, hS, fun p hp => ?_⟩
      rw [cut_B]
      have s1 := same_upd (o := .lst (B ((bs.take fi).drop i))) hp
      generalize hcut : (bs.take fi).drop i = cut at *
      have lcut : cut.length ≤ 4096 := by
        have h0 := congrArg List.length hcut
        rw [List.length_drop, List.length_take] at h0
        omega
      generalize hH1 : upd H p (.lst (B cut)) = H1 at *
      have hp1 : H1 p = some (.lst (B cut)) := by
        rw [← hH1]
        exact upd_same
      refine ⟨p, rfl, ⟨_, .of hp1⟩, fun D hD => ?_⟩
      refine lc_list (K := K) (a := p) (xs := B cut) (fun k Hx => Hx D = some (.lst ((codes (cut.take k)).map fun c => V.str (strL [c]))) ∧ ∀ b, b ≠ D → Hx b = H1 b) ⟨upd_same, fun b hb => upd_ne hb⟩ ?_ ?_ ?_
      · rintro k Hx _ ⟨_, hx⟩
        refine .of ?_
        rw [hx p (by intro e0; rw [e0, hD] at hp1; cases hp1)]
        exact hp1
      · rintro k x Hx hk ⟨hx1, hx2⟩
        obtain ⟨b, hb, rfl⟩ : ∃ b, cut[k]? = some b ∧ x = V.int (b.toNat : Int) := by
          unfold B at hk
          rw [List.getElem?_map] at hk
          cases e0 : cut[k]? with
          | none =>
            rw [e0] at hk
            cases hk
          | some b =>
            rw [e0] at hk
            exact ⟨b, rfl, (Option.some.inj hk).symm⟩
        have hmem : b ∈ cut := List.mem_of_getElem? hb
        refine ⟨rfl, ?_⟩
        refine ⟨_, rfl, _, _, rfl, rfl, _, _, b.toNat, rfl, rfl, (by decide), letter (small b hmem), _, hx1, ?_, upd_same.trans ?_, fun b' hb' => ?_⟩
        · rw [List.length_map]
          unfold codes
          rw [List.length_map, List.length_take]
          have : (4096 : Nat) < sizeLine := by rw [sizeLine_eq]; decide
          omega
        · have e1 : cut.take (k + 1) = cut.take k ++ [b] := by
            rw [List.take_add_one, hb]
            rfl
          rw [e1]
          unfold codes
          rw [List.map_append, List.map_append]
          rfl
        · rw [upd_ne hb']
          exact hx2 b' hb'
      · rintro Hx ⟨hx1, hx2⟩
        rw [B_len, List.take_length] at hx1
        have s2 : Same H Hx := fun b o hb => by
          have h1 := s1 b o hb
          rw [hx2 b (by intro e0; rw [e0, hD] at h1; cases h1)]
          exact h1
        refine ⟨_, D, (codes cut).map (fun c => strL [c]), rfl, rfl, .inl (.of ?_), ?_, ?_⟩
        · rw [List.map_map]
          exact hx1
        · rw [List.map_map]
          have e1 : ∀ l : List Nat, (l.map ((fun x : Str => x.length) ∘ fun c => strL [c])).sum = l.length := by
            intro l
            induction l with
            | nil => rfl
            | cons x r ih =>
              rw [List.map_cons, List.sum_cons, ih, List.length_cons]
              show 1 + r.length = _
              omega
          rw [e1]
          unfold codes
          rw [List.length_map]
          have e2 : (Str.ofString "").length = 0 := rfl
          rw [e2]
          omega
        · have e3 : Txt.join (Str.ofString "") ((codes cut).map (fun c => strL [c])) = strL (codes cut) := by
            rw [← join_ones (codes cut), List.map_map]
            rfl
          rw [e3]
          refine ⟨_, rfl, _, _, rfl, .inr (hKW _), rfl, kw_flat K, _, rfl, ?_⟩
          show (if (inV (.str (strL (codes cut))) (t_KEYWORDS.map (He.Dv.v K))) = true then _ else _)
          rw [in_kw]
          by_cases c2 : codes cut ∈ keyL
          · refine ifT (decide_eq_true c2) ⟨_, rfl, _, rfl, codes cut, fi, rfl, ?_⟩
            rw [if_pos ⟨c, c2⟩] at hrw
            rw [hrw] at hQ
            exact hQ.of s2
          · exact ifF (decide_eq_false c2) (rest Hx _ _ s2 fun h => c2 h.2)
    · refine ifF (by rw [dec_vint, decide_eq_false (by omega)]) ?_
      exact rest H _ _ (Same.refl H) fun h => c h.1
theorem c_read_word (e : Env w K mg) : Callee P w K mg base 3 "read_word" ["text", "at"] (spReadWord K) := by
  obtain ⟨fd, F⟩ := e.d.def_ 8 (d := d_read_word) rfl
  exact ⟨_, fd, ok_read_word e F, e.glo (x := "read_word") (List.mem_of_getElem? (i := 8) rfl), F.kp, F.bindsN fun _ _ _ _ _ _ us hl => match us, hl with | [_, _], _ => rfl⟩
end
end La
set_option maxHeartbeats 4000000
namespace La
open PySem PySem.Spec PyProof.Rows L2
def nI (l : List Nat) : List Int := l.map fun (n : Nat) => (n : Int)
theorem sg_list : sgT = sgM.map fun x => (nI x.1, strL x.2) := by rfl
theorem nI_inj : ∀ {a b : List Nat}, nI a = nI b → a = b
  | [], [], _ => rfl
  | [], _ :: _, h => by cases h
  | _ :: _, [], h => by cases h
  | x :: r, y :: s, h => by
    have h1 : (x : Int) = (y : Int) := (List.cons.inj h).1
    have h2 := nI_inj (List.cons.inj h).2
    rw [h2, show x = y by omega]
theorem lookup_sg (k : List Nat) : sgT.lookup (nI k) = (sgM.lookup k).map strL := by
  rw [sg_list]
  induction sgM with
  | nil => rfl
  | cons x r ih =>
    obtain ⟨x1, x2⟩ := x
    rw [List.map_cons]
    simp only [List.lookup]
    by_cases c : k = x1
    · subst c
      simp
    · have c1 : (k == x1) = false := by simpa using c
      have c2 : (nI k == nI x1) = false := by
        simp only [beq_eq_false_iff_ne]
        exact fun h => c (nI_inj h)
      rw [c1, c2]
      exact ih
theorem sg_nodup : (sgT.map (·.1)).Nodup := by decide +kernel
theorem B_ints (bs : Bytes) : B bs = (nI (codes bs)).map V.int := by
  unfold B nI codes
  rw [List.map_map, List.map_map]
  rfl
section
variable {P : Program} {w : World} {K : PySem.W.Frag} {mg : Str → Option Value} {base : Heap} {f : Addr} {fd : FuncData}
def spReadSign (K : PySem.W.Frag) : Sp := fun vs H Q _ => ∃ (a : Addr) (bs : Bytes) (i : Nat), vs = [.ref a, .int (i : Int)] ∧ SqL K H a (B bs) ∧ RetR H Q (readSign bs i)
theorem sc_read_sign : FnScope ["text", "at", "size", "kind"] ["text", "at"] (defScope s_read_sign) := ⟨rfl, rfl, rfl, by decide +kernel, rfl, by decide +kernel, by decide +kernel⟩
abbrev F_read_sign (K : PySem.W.Frag) (f : Addr) (fd : FuncData) : Prop := FunD K "read_sign" "read_sign" (defArgs s_read_sign) (defBody s_read_sign) (defScope s_read_sign) [] [] f fd
def failed (bs : Bytes) (i n : Nat) : Prop := ∀ z, sgM.lookup (codes ((bs.take (i + n)).drop i)) = some z → ¬ i + n ≤ bs.length
theorem ok_read_sign (e : Env w K mg) (F : F_read_sign K f fd) : FnOk P w K mg base CX0 2 f fd ["text", "at"] (spReadSign K) := by
  obtain ⟨f_right, fd_right, G_right, m_right, k_right, b_right⟩ := c_right (P := P) (w := w) (base := base) e
  obtain ⟨f_wrong, fd_wrong, G_wrong, m_wrong, k_wrong, b_wrong⟩ := c_wrong (P := P) (w := w) (base := base) e
  have m_SIGNS : mg "SIGNS" = some (.ref (He.ga K "SIGNS")) := e.glo (List.mem_of_getElem? (i := 90) rfl)
  have m_tuple : mg "tuple" = none := e.free (List.mem_of_getElem? (i := 107) rfl)
  have m_len : mg "len" = none := e.free (List.mem_of_getElem? (i := 103) rfl)
  have hSG : tabB K (He.ga K "SIGNS") sgT = true := e.signs
  refine F.ok sc_read_sign (fun vs H Q E h => ?_) (fun cdv A outer s H vs Q E hr h => ⟨_, PSs.nox
    (pss_cons (ps_for PassesOwn.never rfl (pi_tup (pe_tup (pa_cons pe_int (pa_cons pe_int pa_nil)))) (pg_name (i := 2) sc_read_sign.nd rfl (Or.inl rfl))
      (pss_cons (ps_set (i := 3) sc_read_sign.nd rfl (Or.inl rfl) (pe_bmK PySem.F.plainAttrs_dict PySem.F.slot_dict_get PySem.F.type_dict_get (mt_getT (hu_of hr)) (pe_glob (v := V.ref (He.ga K "SIGNS")) rfl m_SIGNS rfl) (pa_cons (pe_tupleOf rfl m_tuple (pe_slice sl_list (pv 0) (po_some (pv 1)) (po_some (pe_op op_add (pv 1) (pv 2))))) pa_nil)))
      (pss_one (ps_if (PW.pt (pw_and (pt_cmpR op_notN (pv 3) pe_non (nomark _)) (pw_and1 (pt_cmpR op_le (pe_op op_add (pv 1) (pv 2)) (pe_callB call_len_seq (by rfl) m_len PySem.boot_len (pa_cons (pv 0) pa_nil)) (nomark _))))) (pss_one (ps_ret (pe_call G_right (hr.mono (by decide)) rfl m_right k_right b_right .nil pass0 (pa_cons (pv 3) (pa_cons (pe_op op_add (pv 1) (pv 2)) pa_nil))))) pss_nil))))
      (pss_one (ps_ret (pe_call G_wrong (hr.mono (by decide)) rfl m_wrong k_wrong b_wrong .nil pass0 (pa_cons pe_int (pa_cons (pv 1) pa_nil)))))), ?_⟩)
  · obtain ⟨a, bs, i, rfl, _⟩ := h
    rfl
  · obtain ⟨a, bs, i, rfl, hS, hQ⟩ := h
    refine ⟨(by show 2 ≤ sizeLine; decide), fun p hp => ⟨p, rfl, ⟨_, .of upd_same⟩, ?_⟩⟩
    have s0 := same_upd (o := .tup [.int 2, .int 1]) hp
    have h0 : (upd H p (.tup [.int 2, .int 1])) p = some (.tup [.int 2, .int 1]) := upd_same
    generalize upd H p (.tup [.int 2, .int 1]) = H0 at *
    refine for_tup (K := K) (a := p) (xs := [.int 2, .int 1]) (fun k σ H' => Same H0 H' ∧ (∃ z1 z2, σ = [some (.ref a), some (.int (i : Int)), z1, z2]) ∧ (1 ≤ k → failed bs i 2) ∧ (2 ≤ k → failed bs i 1))
      ⟨Same.refl _, ⟨none, none, rfl⟩, fun h => absurd h (by omega), fun h => absurd h (by omega)⟩ ?_ ?_ ?_
    · rintro k σ H' _ ⟨s1, _⟩
      exact .of (s1 _ _ h0)
    · rintro k x σ H' hk ⟨s1, ⟨z1, z2, rfl⟩, f2, f1⟩
      have hS' := (s0.trans s1).seq hS
      have hQ' := hQ.of (s0.trans s1)
      obtain ⟨n, hn, rfl⟩ : ∃ n : Nat, ((k = 0 ∧ n = 2) ∨ (k = 1 ∧ n = 1)) ∧ x = V.int (n : Int) := by
        match k, hk with
        | 0, hk => exact ⟨2, .inl ⟨rfl, rfl⟩, (Option.some.inj hk).symm⟩
        | 1, hk => exact ⟨1, .inr ⟨rfl, rfl⟩, (Option.some.inj hk).symm⟩
        | k + 2, hk => exact absurd hk (by simp)
      obtain ⟨_, ⟨ob, ok1, ok2, ok3⟩, _⟩ := tab_ok (prog := P) (w := w) hSG sg_nodup
      have hc : cutV (B bs) (some (i : Int)) (some ((i : Int) + (n : Int))) = B ((bs.take (i + n)).drop i) := cut_B bs i (i + n)
      refine ⟨⟨_, ob, rfl, ok1, ok2, ok3⟩, _, rfl, _, rfl, _, rfl, _, rfl, _, rfl, _, _, rfl, rfl, _, rfl, a, _, rfl, hS', fun p1 hp1 => .inl ⟨p1, _, rfl, .of upd_same, fun q hq => ?_⟩⟩
      rw [hc] at hq ⊢
      have s2 := same_upd (o := .lst (B ((bs.take (i + n)).drop i))) hp1
      have s3 := same_upd (o := .tup (B ((bs.take (i + n)).drop i))) hq
      generalize hcut : (bs.take (i + n)).drop i = cut at *
      refine ⟨_, q, nI (codes cut), sgT, rfl, rfl, hSG, sg_nodup, .of (by rw [← B_ints]; exact upd_same), ?_⟩
      rw [lookup_sg]
      have s4 := s1.trans (s2.trans s3)
      have hQ4 := hQ'.of (s2.trans s3)
      have hS4 := (s2.trans s3).seq hS'
      generalize upd (upd H' p1 (.lst (B cut))) q (.tup (B cut)) = H4 at *
      have fail : failed bs i n → Same H0 H4 ∧ (∃ z1 z2, [some (.ref a), some (.int (i : Int)), some (.int (n : Int)), some (match (sgM.lookup (codes cut)).map strL with | some z => V.str z | none => V.non)] = [some (.ref a), some (.int (i : Int)), z1, z2]) ∧ (1 ≤ k + 1 → failed bs i 2) ∧ (2 ≤ k + 1 → failed bs i 1) := by
        intro hf
        refine ⟨s4, ⟨_, _, rfl⟩, fun _ => ?_, fun h => ?_⟩
        · rcases hn with ⟨hk0, hn2⟩ | ⟨hk1, hn1⟩
          · rw [← hn2]
            exact hf
          · exact f2 (by omega)
        · rcases hn with ⟨hk0, hn2⟩ | ⟨hk1, hn1⟩
          · omega
          · rw [← hn1]
            exact hf
      cases hl : sgM.lookup (codes cut) with
      | none =>
        rw [hl] at fail
        refine ⟨_, rfl, rfl, _, rfl, ifF rfl (ifF rfl ?_)⟩
        exact fail fun z hz => by rw [hcut, hl] at hz; cases hz
      | some z =>
        rw [hl] at fail
        refine ⟨_, rfl, rfl, _, rfl, ifT rfl ⟨_, rfl, _, rfl, _, _, rfl, rfl, _, rfl, _, _, rfl, .inl hS4, _, _, rfl, rfl, _, rfl, ?_⟩⟩
        by_cases c : i + n ≤ bs.length
        · refine ifT (decide_eq_true (by rw [B_len]; omega)) ⟨_, rfl, _, rfl, _, rfl, _, _, rfl, rfl, z, i + n, rfl, ?_⟩
          have e1 : readSign bs i = .ok z (i + n) := by
            rcases hn with ⟨hk0, hn2⟩ | ⟨hk1, hn1⟩
            · subst hn2
              unfold readSign
              rw [hcut, hl, decide_eq_true c]
            · subst hn1
              have g2 := f2 (by omega)
              unfold readSign
              rw [hcut, hl, decide_eq_true c]
              cases q2 : sgM.lookup (codes ((bs.take (i + 2)).drop i)) with
              | none => rfl
              | some z2 => simp only [decide_eq_false (g2 z2 q2)]
          rw [← e1]
          exact hQ4
        · exact ifF (decide_eq_false (by rw [B_len]; omega)) (fail fun _ _ => c)
    · rintro σ H' ⟨s1, ⟨z1, z2, rfl⟩, f2, f1⟩
      refine ⟨_, rfl, 1, i, rfl, ?_⟩
      have e1 : readSign bs i = .bad 1 i := by
        have g2 := f2 (by decide)
        have g1 := f1 (by decide)
        unfold readSign
        cases q2 : sgM.lookup (codes ((bs.take (i + 2)).drop i)) with
        | none =>
          cases q1 : sgM.lookup (codes ((bs.take (i + 1)).drop i)) with
          | none => rfl
          | some z =>
            simp only [decide_eq_false (g1 z q1)]
        | some z =>
          simp only [decide_eq_false (g2 z q2)]
          cases q1 : sgM.lookup (codes ((bs.take (i + 1)).drop i)) with
          | none => rfl
          | some z =>
            simp only [decide_eq_false (g1 z q1)]
      rw [← e1]
      exact hQ.of (s0.trans s1)
theorem c_read_sign (e : Env w K mg) : Callee P w K mg base 2 "read_sign" ["text", "at"] (spReadSign K) := by
  obtain ⟨fd, F⟩ := e.d.def_ 16 (d := d_read_sign) rfl
  exact ⟨_, fd, ok_read_sign e F, e.glo (x := "read_sign") (List.mem_of_getElem? (i := 16) rfl), F.kp, F.bindsN fun _ _ _ _ _ _ us hl => match us, hl with | [_, _], _ => rfl⟩
end
end La
set_option maxHeartbeats 200000
/-! Readers go on: each part ends behind its first byte, within the text; no library. -/
namespace La
open EwTree
theorem scan_none {bs : Bytes} {m i : Nat} (h : bs[i]? = none) : scanAt bs (m + 1) i = ([], none) := by
  unfold scanAt
  rw [h]
theorem scan_blank {bs : Bytes} {m i : Nat} {c : UInt8} (h : bs[i]? = some c) (hb : c.toNat ∈ BLANK) : scanAt bs (m + 1) i = scanAt bs m (i + 1) := by
  conv => lhs; unfold scanAt
  rw [h]
  exact if_pos hb
theorem scan_bad {bs : Bytes} {m i : Nat} {c : UInt8} {r p : Nat} (h : bs[i]? = some c) (hb : c.toNat ∉ BLANK) (hr : readPart bs i = .bad r p) : scanAt bs (m + 1) i = ([], some (r, p)) := by
  conv => lhs; unfold scanAt
  rw [h, hr]
  exact if_neg hb
theorem scan_ok {bs : Bytes} {m i : Nat} {c : UInt8} {k : List Nat} {e : Nat} (h : bs[i]? = some c) (hb : c.toNat ∉ BLANK) (hr : readPart bs i = .ok k e) : scanAt bs (m + 1) i = (⟨k, i, e⟩ :: (scanAt bs m e).1, (scanAt bs m e).2) := by
  conv => lhs; unfold scanAt
  rw [h, hr]
  exact if_neg hb
theorem run_gt {bs : Bytes} {p : UInt8 → Bool} {i : Nat} {b : UInt8} (h : bs[i]? = some b) (hp : p b = true) : i < runTo p bs i ∧ runTo p bs i ≤ bs.length := by
  obtain ⟨hi, hb⟩ := List.getElem?_eq_some_iff.mp h
  have e1 : runTo p bs i = runTo p bs (i + 1) := run_step hi (by rw [hb]; exact hp)
  have e2 := run_le (p := p) (bs := bs) (i := i + 1) hi
  omega
theorem digitAt_lt {bs : Bytes} {j : Nat} (h : digitAt bs j = true) : j < bs.length := by
  unfold digitAt at h
  rcases Nat.lt_or_ge j bs.length with h1 | h1
  · exact h1
  · rw [List.getElem?_eq_none h1] at h
    cases h
theorem expAt_ge {bs : Bytes} {i : Nat} (h : i ≤ bs.length) : i ≤ expAt bs i ∧ expAt bs i ≤ bs.length := by
  unfold expAt
  split
  · exact ⟨Nat.le_refl _, h⟩
  · split
    · rename_i h1
      exact ⟨by omega, Nat.le_of_lt (digitAt_lt h1)⟩
    · split
      · rename_i h1
        exact ⟨by omega, Nat.le_of_lt (digitAt_lt h1.2)⟩
      · exact ⟨Nat.le_refl _, h⟩
theorem cEnd_bd : ∀ (j : Nat) (l : Bytes), j ≤ (cEnd j l).2 ∧ (cEnd j l).2 ≤ j + l.length
  | j, [] => ⟨Nat.le_refl _, Nat.le_refl _⟩
  | j, c :: r => by
    unfold cEnd
    split
    · exact ⟨Nat.le_refl _, by simp⟩
    · split
      · have ih := cEnd_bd (j + 1) r
        rw [List.length_cons]
        omega
      · exact ⟨Nat.le_refl _, by simp⟩
theorem cBack_bd {bs : Bytes} {i : Nat} (h : bs[i]? = some 35) : ∀ j, i < j → i < cBack bs j ∧ cBack bs j ≤ j
  | 0, hj => absurd hj (by omega)
  | j + 1, hj => by
    unfold cBack
    split
    · rename_i h32
      have hne : i ≠ j := by
        intro e
        subst e
        rw [h] at h32
        exact absurd (Option.some.inj h32) (by decide)
      have ih := cBack_bd h j (by omega)
      omega
    · omega
theorem readComment_bd {bs : Bytes} {i e : Nat} {k : List Nat} (h : bs[i]? = some 35) (hr : readComment bs i = .ok k e) : i < e ∧ e ≤ bs.length := by
  obtain ⟨hi, hb⟩ := List.getElem?_eq_some_iff.mp h
  have e2 : cEnd i (bs.drop i) = cEnd (i + 1) (bs.drop (i + 1)) := by
    rw [List.drop_eq_getElem_cons hi, hb]
    rfl
  have e3 := cEnd_bd (i + 1) (bs.drop (i + 1))
  rw [← e2, List.length_drop] at e3
  unfold readComment at hr
  simp only at hr
  split at hr
  · cases hr
    have e4 := cBack_bd h (cEnd i (bs.drop i)).2 (by omega)
    omega
  · cases hr
theorem textAt_bd {bs : Bytes} {k : List Nat} {e : Nat} : ∀ (f p c : Nat), textAt bs f p c = .ok k e → p < e ∧ e ≤ bs.length
  | 0, p, c, h => by cases h
  | f + 1, p, c, h => by
    unfold textAt at h
    split at h
    · cases h
    · rename_i b hb
      obtain ⟨hi, _⟩ := List.getElem?_eq_some_iff.mp hb
      split at h
      · cases h
        omega
      · split at h
        · cases h
        · split at h
          · cases h
          · split at h
            · cases h
            · have ih := textAt_bd f _ _ h
              have := @itemEnd_le bs p
              omega
theorem readNumber_bd {bs : Bytes} {i e : Nat} {k : List Nat} {b : UInt8} (h : bs[i]? = some b) (hs : sg b = 48) (hr : readNumber bs i = .ok k e) : i < e ∧ e ≤ bs.length := by
  have h1 := run_gt (p := inL (signs "0")) h (by show decide (sg b ∈ signs "0") = true; rw [hs]; rfl)
  unfold readNumber at hr
  simp only at hr
  generalize runTo (inL (signs "0")) bs i = wh at *
  generalize hbr : (if byteAt bs wh = 46 ∧ digitAt bs (wh + 1) = true then runTo (inL (signs "0")) bs (wh + 1) else wh) = br at *
  have h2 : wh ≤ br ∧ br ≤ bs.length := by
    rw [← hbr]
    split
    · rename_i c
      have := run_le (p := inL (signs "0")) (Nat.le_of_lt (digitAt_lt c.2))
      omega
    · omega
  have h3 := expAt_ge h2.2
  generalize expAt bs br = dg at *
  have h4 := run_le (p := inL (signs "0")) h3.2
  generalize runTo (inL (signs "0")) bs dg = ra at *
  have h5 := run_le (p := inL (signs "aA0_")) h4.2
  generalize runTo (inL (signs "aA0_")) bs ra = fi at *
  split at hr
  · cases hr
    omega
  · cases hr
theorem readPart_bd {bs : Bytes} {i e : Nat} {k : List Nat} (h : readPart bs i = .ok k e) : i < e ∧ e ≤ bs.length := by
  unfold readPart at h
  split at h
  · cases h
  · rename_i b hb
    obtain ⟨hi, _⟩ := List.getElem?_eq_some_iff.mp hb
    split at h
    · rename_i c
      exact readComment_bd (by rw [hb, c]) h
    · split at h
      · rename_i c
        have h1 := run_gt (p := inL (signs "a0_")) hb (by show decide (sg b ∈ signs "a0_") = true; rw [c]; rfl)
        unfold readWord at h
        simp only at h
        split at h
        · cases h
          exact h1
        · split at h
          · cases h
            exact h1
          · cases h
      · split at h
        · have h1 := run_le (p := inL (signs "A0")) (Nat.le_of_lt hi)
          unfold readCode at h
          simp only at h
          split at h
          · cases h
            omega
          · cases h
        · split at h
          · rename_i c
            exact readNumber_bd hb c h
          · split at h
            · have h1 := textAt_bd _ _ _ h
              omega
            · unfold readSign at h
              split at h
              · rename_i z hz hd
                cases h
                have := of_decide_eq_true hd
                omega
              · split at h
                · rename_i z hz hd
                  cases h
                  have := of_decide_eq_true hd
                  omega
                · cases h
end La
set_option maxHeartbeats 4000000
namespace La
open PySem PySem.Spec PyProof.Rows L2
section
variable {P : Program} {w : World} {K : PySem.W.Frag} {mg : Str → Option Value} {base : Heap} {f : Addr} {fd : FuncData}
/-! read_part -/
def spReadPart (K : PySem.W.Frag) : Sp := fun vs H Q _ => ∃ (a : Addr) (bs : Bytes) (i : Nat), vs = [.ref a, .int (i : Int)] ∧ SqL K H a (B bs) ∧ i < bs.length ∧ bs.length ≤ 4096 ∧ RetR H Q (readPart bs i)
theorem sc_read_part : FnScope ["text", "at", "found"] ["text", "at"] (defScope s_read_part) := ⟨rfl, rfl, rfl, by decide +kernel, rfl, by decide +kernel, by decide +kernel⟩
abbrev F_read_part (K : PySem.W.Frag) (f : Addr) (fd : FuncData) : Prop := FunD K "read_part" "read_part" (defArgs s_read_part) (defBody s_read_part) (defScope s_read_part) [] [] f fd
theorem ok_read_part (e : Env w K mg) (F : F_read_part K f fd) : FnOk P w K mg base CX0 5 f fd ["text", "at"] (spReadPart K) := by
  obtain ⟨f_byte_class, fd_byte_class, G_byte_class, m_byte_class, k_byte_class, b_byte_class⟩ := c_byte_class (P := P) (w := w) (base := base) e
  obtain ⟨f_read_comment, fd_read_comment, G_read_comment, m_read_comment, k_read_comment, b_read_comment⟩ := c_read_comment (P := P) (w := w) (base := base) e
  obtain ⟨f_read_word, fd_read_word, G_read_word, m_read_word, k_read_word, b_read_word⟩ := c_read_word (P := P) (w := w) (base := base) e
  obtain ⟨f_read_code, fd_read_code, G_read_code, m_read_code, k_read_code, b_read_code⟩ := c_read_code (P := P) (w := w) (base := base) e
  obtain ⟨f_read_number, fd_read_number, G_read_number, m_read_number, k_read_number, b_read_number⟩ := c_read_number (P := P) (w := w) (base := base) e
  obtain ⟨f_read_text, fd_read_text, G_read_text, m_read_text, k_read_text, b_read_text⟩ := c_read_text (P := P) (w := w) (base := base) e
  obtain ⟨f_read_sign, fd_read_sign, G_read_sign, m_read_sign, k_read_sign, b_read_sign⟩ := c_read_sign (P := P) (w := w) (base := base) e
  skip
  refine F.ok sc_read_part (fun vs H Q E h => ?_) (fun cdv A outer s H vs Q E hr h => ⟨_, PSs.nox
    (pss_cons (ps_set (i := 2) sc_read_part.nd rfl (Or.inl rfl) (pe_call G_byte_class (hr.mono (by decide)) rfl m_byte_class k_byte_class b_byte_class .nil pass0 (pa_cons (pe_ix ix_list (pv 0) (pv 1) (fun _ _ => rfl)) pa_nil)))
      (pss_cons (ps_if (pt_cmpR op_eq (pe_ix ix_list (pv 0) (pv 1) (fun _ _ => rfl)) pe_int (nomark _)) (pss_one (ps_ret (pe_call G_read_comment (hr.mono (by decide)) rfl m_read_comment k_read_comment b_read_comment .nil pass0 (pa_cons (pv 0) (pa_cons (pv 1) pa_nil))))) pss_nil)
      (pss_cons (ps_if (pt_cmpR op_eq (pv 2) pe_str (nomark _)) (pss_one (ps_ret (pe_call G_read_word (hr.mono (by decide)) rfl m_read_word k_read_word b_read_word .nil pass0 (pa_cons (pv 0) (pa_cons (pv 1) pa_nil))))) pss_nil)
      (pss_cons (ps_if (pt_cmpR op_eq (pv 2) pe_str (nomark _)) (pss_one (ps_ret (pe_call G_read_code (hr.mono (by decide)) rfl m_read_code k_read_code b_read_code .nil pass0 (pa_cons (pv 0) (pa_cons (pv 1) pa_nil))))) pss_nil)
      (pss_cons (ps_if (pt_cmpR op_eq (pv 2) pe_str (nomark _)) (pss_one (ps_ret (pe_call G_read_number (hr.mono (by decide)) rfl m_read_number k_read_number b_read_number .nil pass0 (pa_cons (pv 0) (pa_cons (pv 1) pa_nil))))) pss_nil)
      (pss_cons (ps_if (pt_cmpR op_eq (pe_ix ix_list (pv 0) (pv 1) (fun _ _ => rfl)) pe_int (nomark _)) (pss_one (ps_ret (pe_call G_read_text (hr.mono (by decide)) rfl m_read_text k_read_text b_read_text .nil pass0 (pa_cons (pv 0) (pa_cons (pv 1) pa_nil))))) pss_nil)
      (pss_one (ps_ret (pe_call G_read_sign (hr.mono (by decide)) rfl m_read_sign k_read_sign b_read_sign .nil pass0 (pa_cons (pv 0) (pa_cons (pv 1) pa_nil))))))))))), ?_⟩)
  · obtain ⟨a, bs, i, rfl, _⟩ := h
    rfl
  · obtain ⟨a, bs, i, rfl, hS, hi, hlen, hQ⟩ := h
    have hat : atI (B bs) (i : Int) = some (V.int (bs[i].toNat : Int)) := atI_nat (B_get (List.getElem?_eq_getElem hi))
    have hg : bs[i]? = some bs[i] := List.getElem?_eq_getElem hi
    have he : readPart bs i = if bs[i] = 35 then readComment bs i else if sg bs[i] = 97 then readWord bs i else if sg bs[i] = 65 then readCode bs i else if sg bs[i] = 48 then readNumber bs i else if bs[i] = 34 then readText bs i else readSign bs i := by
      unfold readPart
      rw [hg]
    refine ⟨_, rfl, _, rfl, _, _, _, _, rfl, rfl, hS, hat, bs[i], rfl, ?_⟩
    refine ⟨_, rfl, _, rfl, _, _, _, _, rfl, rfl, hS, hat, rfl, _, rfl, ?_⟩
    by_cases c1 : bs[i] = 35
    · refine ifT ((byte_is bs[i] 35).trans (decide_eq_true c1)) ?_
      rw [if_pos c1] at he
      rw [he] at hQ
      exact ⟨_, rfl, _, rfl, a, bs, i, rfl, hS, by rw [hg, c1], hQ⟩
    · refine ifF ((byte_is bs[i] 35).trans (decide_eq_false c1)) ?_
      rw [if_neg c1] at he
      refine ⟨_, rfl, rfl, _, rfl, ?_⟩
      by_cases c2 : sg bs[i] = 97
      · refine ifT ((dec_str1 _ 97).trans (decide_eq_true c2)) ?_
        rw [if_pos c2] at he
        rw [he] at hQ
        exact ⟨_, rfl, _, rfl, a, bs, i, rfl, hS, Nat.le_of_lt hi, hlen, hQ⟩
      · refine ifF ((dec_str1 _ 97).trans (decide_eq_false c2)) ?_
        rw [if_neg c2] at he
        refine ⟨_, rfl, rfl, _, rfl, ?_⟩
        by_cases c3 : sg bs[i] = 65
        · refine ifT ((dec_str1 _ 65).trans (decide_eq_true c3)) ?_
          rw [if_pos c3] at he
          rw [he] at hQ
          exact ⟨_, rfl, _, rfl, a, bs, i, rfl, hS, Nat.le_of_lt hi, hQ⟩
        · refine ifF ((dec_str1 _ 65).trans (decide_eq_false c3)) ?_
          rw [if_neg c3] at he
          refine ⟨_, rfl, rfl, _, rfl, ?_⟩
          by_cases c4 : sg bs[i] = 48
          · refine ifT ((dec_str1 _ 48).trans (decide_eq_true c4)) ?_
            rw [if_pos c4] at he
            rw [he] at hQ
            exact ⟨_, rfl, _, rfl, a, bs, i, rfl, hS, ⟨_, hg, c4⟩, hQ⟩
          · refine ifF ((dec_str1 _ 48).trans (decide_eq_false c4)) ?_
            rw [if_neg c4] at he
            refine ⟨_, rfl, _, rfl, _, _, _, _, rfl, rfl, hS, hat, rfl, _, rfl, ?_⟩
            by_cases c5 : bs[i] = 34
            · refine ifT ((byte_is bs[i] 34).trans (decide_eq_true c5)) ?_
              rw [if_pos c5] at he
              rw [he] at hQ
              exact ⟨_, rfl, _, rfl, a, bs, i, rfl, hS, hi, hQ⟩
            · refine ifF ((byte_is bs[i] 34).trans (decide_eq_false c5)) ?_
              rw [if_neg c5] at he
              rw [he] at hQ
              exact ⟨_, rfl, _, rfl, a, bs, i, rfl, hS, hQ⟩
theorem c_read_part (e : Env w K mg) : Callee P w K mg base 5 "read_part" ["text", "at"] (spReadPart K) := by
  obtain ⟨fd, F⟩ := e.d.def_ 17 (d := d_read_part) rfl
  exact ⟨_, fd, ok_read_part e F, e.glo (x := "read_part") (List.mem_of_getElem? (i := 17) rfl), F.kp, F.bindsN fun _ _ _ _ _ _ us hl => match us, hl with | [_, _], _ => rfl⟩
/-! scan -/
def PartAt (H : Hp) (v : V) (p : Part) : Prop := ∃ a, v = .ref a ∧ H a = some (.tup [.str (strL p.kind), .int (p.lo : Int), .int (p.hi : Int)])
def PartsIn (H : Hp) : List V → List Part → Prop
  | [], [] => True
  | v :: r, p :: s => PartAt H v p ∧ PartsIn H r s
  | _, _ => False
theorem PartsIn.same {H H' : Hp} (s : Same H H') : ∀ {vs : List V} {ps : List Part}, PartsIn H vs ps → PartsIn H' vs ps
  | [], [], _ => trivial
  | [], _ :: _, h => h.elim
  | _ :: _, [], h => h.elim
  | v :: r, p :: t, ⟨⟨a, e, h1⟩, h2⟩ => ⟨⟨a, e, s _ _ h1⟩, PartsIn.same s h2⟩
theorem PartsIn.push {H : Hp} {v : V} {p : Part} (h : PartAt H v p) : ∀ {vs : List V} {ps : List Part}, PartsIn H vs ps → PartsIn H (vs ++ [v]) (ps ++ [p])
  | [], [], _ => ⟨h, trivial⟩
  | [], _ :: _, g => g.elim
  | _ :: _, [], g => g.elim
  | u :: r, q :: t, ⟨g1, g2⟩ => ⟨g1, PartsIn.push h g2⟩
theorem PartsIn.len {H : Hp} : ∀ {vs : List V} {ps : List Part}, PartsIn H vs ps → vs.length = ps.length
  | [], [], _ => rfl
  | [], _ :: _, h => h.elim
  | _ :: _, [], h => h.elim
  | v :: r, p :: t, h => congrArg (· + 1) (PartsIn.len h.2)
def FaultAt (H : Hp) (v : V) : Option (Nat × Nat) → Prop
  | none => v = .non
  | some x => ∃ q, v = .ref q ∧ H q = some (.tup [.int (x.1 : Int), .int (x.2 : Int)])
def spScan (K : PySem.W.Frag) : Sp := fun vs H Q _ => ∃ (a : Addr) (bs : Bytes), vs = [.ref a] ∧ SqL K H a (B bs) ∧ bs.length ≤ 4096 ∧
  ∀ (H' : Hp) (t l : Addr) (us : List V) (fv : V), Same H H' → H t = none → H l = none → H' t = some (.tup [.ref l, fv]) → H' l = some (.lst us) → PartsIn H' us (scan bs).1 → FaultAt H' fv (scan bs).2 → Q (.ref t) H'
theorem in_blank (K : PySem.W.Frag) (b : UInt8) : inV (V.int (b.toNat : Int)) (t_BLANKS.map (He.Dv.v K)) = decide (b.toNat ∈ BLANK) := by
  rw [Bool.eq_iff_iff]
  simp only [t_BLANKS, List.map_cons, List.map_nil, He.Dv.v, inV, List.any_cons, List.any_nil, eqV, Bool.or_false, Bool.or_eq_true, beq_iff_eq, decide_eq_true_eq, BLANK, List.mem_cons, List.not_mem_nil, or_false]
  omega
theorem sc_scan : FnScope ["text", "parts", "at", "kind", "end", "fault"] ["text"] (defScope s_scan) := ⟨rfl, rfl, rfl, by decide +kernel, rfl, by decide +kernel, by decide +kernel⟩
abbrev F_scan (K : PySem.W.Frag) (f : Addr) (fd : FuncData) : Prop := FunD K "scan" "scan" (defArgs s_scan) (defBody s_scan) (defScope s_scan) [] [] f fd
theorem ok_scan (e : Env w K mg) (F : F_scan K f fd) : FnOk P w K mg base CX0 6 f fd ["text"] (spScan K) := by
  obtain ⟨f_read_part, fd_read_part, G_read_part, m_read_part, k_read_part, b_read_part⟩ := c_read_part (P := P) (w := w) (base := base) e
  have m_len : mg "len" = none := e.free (List.mem_of_getElem? (i := 103) rfl)
  have m_BLANKS : mg "BLANKS" = some (.ref (He.ga K "BLANKS")) := e.glo (List.mem_of_getElem? (i := 88) rfl)
  have hBL : ∀ H, SqT K H (He.ga K "BLANKS") (t_BLANKS.map (He.Dv.v K)) := fun H => e.tup H (List.mem_of_getElem? (i := 0) rfl)
  refine F.ok sc_scan (fun vs H Q E h => ?_) (fun cdv A outer s H vs Q E hr h => ⟨_, PSs.nox
    (pss_cons (ps_set (i := 1) sc_scan.nd rfl (Or.inl rfl) (pe_lst pa_nil))
      (pss_cons (ps_set (i := 2) sc_scan.nd rfl (Or.inl rfl) pe_int)
      (pss_cons (ps_while PassesOwn.never (pt_cmpR op_lt (pv 2) (pe_callB call_len_seq (by rfl) m_len PySem.boot_len (pa_cons (pv 0) pa_nil)) (nomark _)) (pss_cons (ps_if (pt_cmpR op_in_seq (pe_ix ix_list (pv 0) (pv 2) (fun _ _ => rfl)) (pe_glob (v := V.ref (He.ga K "BLANKS")) rfl m_BLANKS rfl) rfl) (pss_cons (ps_aug (i := 2) sc_scan.nd rfl (Or.inl rfl) pe_int ip_add)
      (pss_one ps_continue)) pss_nil)
      (pss_cons (ps_asg (pe_call G_read_part (hr.mono (by decide)) rfl m_read_part k_read_part b_read_part .nil pass0 (pa_cons (pv 0) (pa_cons (pv 2) pa_nil))) (pg_tup rfl (pgs_cons (pg_name (i := 3) sc_scan.nd rfl (Or.inl rfl)) (pgs_cons (pg_name (i := 4) sc_scan.nd rfl (Or.inl rfl)) (pgs_cons (pg_name (i := 5) sc_scan.nd rfl (Or.inl rfl)) pgs_nil)))))
      (pss_cons (ps_if (pt_cmpR op_notN (pv 5) pe_non (nomark _)) (pss_one (ps_ret (pe_tup (pa_cons (pv 1) (pa_cons (pv 5) pa_nil))))) pss_nil)
      (pss_cons (ps_expr (pe_bm PySem.F.plainAttrs_list PySem.F.slot_list_append PySem.F.type_list_append mt_append (pv 1) (pa_cons (pe_tup (pa_cons (pv 3) (pa_cons (pv 2) (pa_cons (pv 4) pa_nil)))) pa_nil)))
      (pss_one (ps_set (i := 2) sc_scan.nd rfl (Or.inl rfl) (pv 4))))))))
      (pss_one (ps_ret (pe_tup (pa_cons (pv 1) (pa_cons pe_non pa_nil)))))))), ?_⟩)
  · obtain ⟨a, bs, rfl, _⟩ := h
    rfl
  · obtain ⟨a, bs, rfl, hS, hlen, hQ⟩ := h
    refine ⟨(by show 0 ≤ sizeLine; decide), fun l hl => ?_⟩
    have s0 := same_upd (o := .lst []) hl
    have h0 : (upd H l (.lst [])) l = some (.lst []) := upd_same
    generalize hH0 : upd H l (.lst []) = H0 at *
    -- all that stood ahead of the list stands
    refine ⟨fun m σ H' => Same H H' ∧ ∃ (i : Nat) (us : List V) (ps : List Part) (z1 z2 z3 : Option V), σ = [some (.ref a), some (.ref l), some (.int (i : Int)), z1, z2, z3] ∧ H' l = some (.lst us) ∧ PartsIn H' us ps ∧ ps.length ≤ i ∧ i ≤ bs.length ∧ bs.length < i + m ∧
        (scan bs).1 = ps ++ (scanAt bs m i).1 ∧ (scan bs).2 = (scanAt bs m i).2,
      ⟨bs.length + 1, s0, 0, [], [], none, none, none, rfl, h0, trivial, Nat.le_refl _, Nat.zero_le _, by omega, rfl, rfl⟩, ?_⟩
    rintro m σ H' ⟨s1, i, us, ps, z1, z2, z3, rfl, hl1, hps, hpl, hi, hm, e1, e2⟩
    obtain ⟨m, rfl⟩ : ∃ m0, m = m0 + 1 := ⟨m - 1, by omega⟩
    have hS' := s1.seq hS
    refine ⟨_, rfl, _, rfl, _, _, rfl, .inl hS', _, _, rfl, rfl, _, rfl, ?_⟩
    by_cases hlt : i < bs.length
    · have hat : atI (B bs) (i : Int) = some (V.int (bs[i].toNat : Int)) := atI_nat (B_get (List.getElem?_eq_getElem hlt))
      have hg : bs[i]? = some bs[i] := List.getElem?_eq_getElem hlt
      refine ifT (decide_eq_true (by rw [B_len]; omega)) ⟨_, fun _ _ h => h, ?_⟩
      refine ⟨_, rfl, _, rfl, _, _, _, _, rfl, rfl, hS', hat, _, _, rfl, .inr (hBL _), rfl, rfl, _, rfl, ?_⟩
      show (if (inV (V.int (bs[i].toNat : Int)) (t_BLANKS.map (He.Dv.v K))) = true then _ else _)
      rw [in_blank]
      by_cases c1 : bs[i].toNat ∈ BLANK
      · have hs2 : scanAt bs m (i + 1) = scanAt bs (m + 1) i := (scan_blank hg c1).symm
        refine ifT (decide_eq_true c1) ⟨_, rfl, _, _, rfl, rfl, ?_⟩
        exact ⟨m, by omega, s1, i + 1, us, ps, z1, z2, z3, rfl, hl1, hps, by omega, hlt, by omega, by rw [hs2]; exact e1, by rw [hs2]; exact e2⟩
      · refine ifF (decide_eq_false c1) ?_
        refine ⟨_, rfl, _, rfl, a, bs, i, rfl, hS', hlt, hlen, fun H2 p s2 hp => ?_⟩
        have hl2 : H2 l = some (.lst us) := s2 _ _ hl1
        have s12 := s1.trans s2
        cases hrp : readPart bs i with
        | bad r x =>
          rw [hrp] at hp
          have hs2 := scan_bad (m := m) hg c1 hrp
          obtain ⟨q, hp1, hq1⟩ := hp
          refine ⟨p, _, rfl, .of hp1, rfl, _, _, rfl, _, _, rfl, _, _, rfl, rfl, ?_⟩
          refine ⟨_, rfl, rfl, _, rfl, ifT rfl ?_⟩
          refine ⟨_, rfl, _, rfl, (by show 2 ≤ sizeLine; decide), fun t ht => ?_⟩
          have st := same_upd (o := .tup [.ref l, .ref q]) ht
          refine hQ _ t l us (.ref q) (s12.trans st) (s12.free ht) hl upd_same (st _ _ hl2) ?_ ?_
          · have e3 : (scan bs).1 = ps := by
              rw [e1, hs2]
              exact List.append_nil ps
            rw [e3]
            exact (hps.same s2).same st
          · have e3 : (scan bs).2 = some (r, x) := by rw [e2, hs2]
            rw [e3]
            exact ⟨q, rfl, st _ _ hq1⟩
        | ok k en =>
          rw [hrp] at hp
          have hs2 := scan_ok (m := m) hg c1 hrp
          have hbd := readPart_bd hrp
          have hp1 : H2 p = some (.tup [.str (strL k), .int (en : Int), .non]) := hp
          refine ⟨p, _, rfl, .of hp1, rfl, _, _, rfl, _, _, rfl, _, _, rfl, rfl, ?_⟩
          refine ⟨_, rfl, rfl, _, rfl, ifF rfl ?_⟩
          refine ⟨_, rfl, .inl ⟨rfl, _, .of hl2⟩, _, rfl, _, rfl, _, rfl, (by show 3 ≤ sizeLine; decide), fun q hq => ?_⟩
          have s3 := same_upd (o := .tup [.str (strL k), .int (i : Int), .int (en : Int)]) hq
          have hl3 := s3 _ _ hl2
          have hq3 : (upd H2 q (.tup [.str (strL k), .int (i : Int), .int (en : Int)])) q = some (.tup [.str (strL k), .int (i : Int), .int (en : Int)]) := upd_same
          have hps3 := (hps.same s2).same s3
          have s13 := s12.trans s3
          generalize upd H2 q (.tup [.str (strL k), .int (i : Int), .int (en : Int)]) = H3 at *
          have hlenus : us.length < sizeLine := by
            rw [hps3.len]
            have : (4096 : Nat) < sizeLine := by rw [sizeLine_eq]; decide
            omega
          refine ⟨l, _, _, rfl, rfl, hl3, hlenus, ?_⟩
          refine ⟨_, rfl, ?_⟩
          have s4 : Same H (upd H3 l (.lst (us ++ [.ref q]))) := fun b o hb => by
            rw [upd_ne (by intro e0; rw [e0, hl] at hb; cases hb)]
            exact s13 b o hb
          have hps4 : PartsIn (upd H3 l (.lst (us ++ [.ref q]))) us ps := by
            have gen : ∀ {vs : List V} {qs : List Part}, PartsIn H3 vs qs → PartsIn (upd H3 l (.lst (us ++ [.ref q]))) vs qs := by
              intro vs
              induction vs with
              | nil => intro qs h; cases qs with
                | nil => trivial
                | cons _ _ => exact h.elim
              | cons v r ih => intro qs h; cases qs with
                | nil => exact h.elim
                | cons y t =>
                  obtain ⟨⟨b, eb, hb⟩, h2⟩ := h
                  refine ⟨⟨b, eb, ?_⟩, ih h2⟩
                  rw [upd_ne (by intro e0; rw [e0, hl3] at hb; cases hb)]
                  exact hb
            exact gen hps3
          have hql : q ≠ l := by
            intro e0
            rw [e0, hl3] at hq3
            cases hq3
          refine ⟨m, by omega, s4, en, us ++ [.ref q], ps ++ [⟨k, i, en⟩], _, _, _, rfl, upd_same, PartsIn.push ⟨q, rfl, by rw [upd_ne hql]; exact hq3⟩ hps4, ?_, hbd.2, by omega, ?_, ?_⟩
          · rw [List.length_append]
            show ps.length + 1 ≤ en
            omega
          · rw [e1, hs2, List.append_assoc]
            rfl
          · rw [e2, hs2]
    · have hs2 := scan_none (m := m) (List.getElem?_eq_none (by omega) : bs[i]? = none)
      refine ifF (decide_eq_false (by rw [B_len]; omega)) ?_
      refine ⟨_, rfl, (by show 2 ≤ sizeLine; decide), fun t ht => ?_⟩
      have st := same_upd (o := .tup [.ref l, .non]) ht
      refine hQ _ t l us .non (s1.trans st) (s1.free ht) hl upd_same (st _ _ hl1) ?_ ?_
      · have e3 : (scan bs).1 = ps := by
          rw [e1, hs2]
          exact List.append_nil ps
        rw [e3]
        exact hps.same st
      · have e3 : (scan bs).2 = none := by rw [e2, hs2]
        rw [e3]
        exact rfl
theorem c_scan (e : Env w K mg) : Callee P w K mg base 6 "scan" ["text"] (spScan K) := by
  obtain ⟨fd, F⟩ := e.d.def_ 18 (d := d_scan) rfl
  exact ⟨_, fd, ok_scan e F, e.glo (x := "scan") (List.mem_of_getElem? (i := 18) rfl), F.kp, F.bindsN fun _ _ _ _ _ _ us hl => match us, hl with | [_], _ => rfl⟩
end
end La
set_option maxHeartbeats 200000
/-! The scanner's mirror against the specification's tokens; no library. -/
namespace La
open EwTree
theorem all_bytes {P : UInt8 → Bool} (h : (List.range 256).all (fun n => P (UInt8.ofNat n)) = true) (b : UInt8) : P b = true := by
  have h1 := List.all_eq_true.mp h b.toNat (List.mem_range.mpr b.toNat_lt)
  rwa [UInt8.ofNat_toNat] at h1
theorem bytes_eq {f g : UInt8 → Bool} (h : (List.range 256).all (fun n => f (UInt8.ofNat n) == g (UInt8.ofNat n)) = true) : f = g := by
  funext b
  exact eq_of_beq (all_bytes (P := fun b => f b == g b) h b)
theorem in_word : inL (signs "a0_") = isWordByte := bytes_eq (by decide +kernel)
theorem in_code : inL (signs "A0") = isCodeByte := bytes_eq (by decide +kernel)
theorem in_digit : inL (signs "0") = isDigit := bytes_eq (by decide +kernel)
theorem in_mark : inL (signs "aA0_") = isMarkByte := bytes_eq (by decide +kernel)
theorem in_small : inL (signs "a") = isSmall := bytes_eq (by decide +kernel)
theorem sg_small (b : UInt8) : (sg b = 97) ↔ isSmall b = true := by
  have h := all_bytes (P := fun b => decide (sg b = 97) == isSmall b) (by decide +kernel) b
  rw [← eq_of_beq h, decide_eq_true_eq]
theorem sg_big (b : UInt8) : (sg b = 65) ↔ isBig b = true := by
  have h := all_bytes (P := fun b => decide (sg b = 65) == isBig b) (by decide +kernel) b
  rw [← eq_of_beq h, decide_eq_true_eq]
theorem sg_digit (b : UInt8) : (sg b = 48) ↔ isDigit b = true := by
  have h := all_bytes (P := fun b => decide (sg b = 48) == isDigit b) (by decide +kernel) b
  rw [← eq_of_beq h, decide_eq_true_eq]
theorem blank_is (b : UInt8) : (b.toNat ∈ BLANK) ↔ isBlank b = true := by
  have h := all_bytes (P := fun b => decide (b.toNat ∈ BLANK) == isBlank b) (by decide +kernel) b
  rw [← eq_of_beq h, decide_eq_true_eq]
theorem cut_run {bs : Bytes} {p : UInt8 → Bool} {i : Nat} : (bs.take (runTo p bs i)).drop i = (bs.drop i).takeWhile p := by
  rw [List.drop_take]
  unfold runTo
  rw [Nat.add_sub_cancel_left]
  exact (List.prefix_iff_eq_take.mp (List.takeWhile_prefix p)).symm
theorem codes_inj : ∀ {a b : Bytes}, codes a = codes b → a = b
  | [], [], _ => rfl
  | [], _ :: _, h => by cases h
  | _ :: _, [], h => by cases h
  | x :: r, y :: s, h => by
    have h1 : x.toNat = y.toNat := (List.cons.inj h).1
    have h2 := codes_inj (List.cons.inj h).2
    rw [h2, UInt8.toNat_inj.mp h1]
theorem mem_keyL {w : Bytes} : codes w ∈ keyL ↔ isKeyword w = true := by
  unfold keyL isKeyword
  rw [List.contains_iff_mem, List.mem_map]
  constructor
  · rintro ⟨a, ha, e⟩
    rw [← codes_inj e]
    exact ha
  · intro h
    exact ⟨w, h, rfl⟩
theorem key_small {w : Bytes} (h : isKeyword w = true) : ∀ b ∈ w, isSmall b = true := by
  have hall : KEYWORDS.all (fun k => k.all isSmall) = true := by decide +kernel
  have h1 : w ∈ KEYWORDS := List.contains_iff_mem.mp h
  exact fun b hb => List.all_eq_true.mp (List.all_eq_true.mp hall w h1) b hb
/-- two runs that end together: where all of the longer are of the shorter's kind -/
theorem run_eq {bs : Bytes} {p q : UInt8 → Bool} (hpq : ∀ b, p b = true → q b = true) {i : Nat} (h : ∀ b ∈ (bs.drop i).takeWhile q, p b = true) : runTo p bs i = runTo q bs i := by
  unfold runTo
  have gen : ∀ l : Bytes, (∀ b ∈ l.takeWhile q, p b = true) → l.takeWhile p = l.takeWhile q := by
    intro l
    induction l with
    | nil => intro _; rfl
    | cons x r ih =>
      intro hx
      by_cases c : q x = true
      · rw [List.takeWhile_cons, if_pos c] at hx
        rw [List.takeWhile_cons, List.takeWhile_cons, if_pos c, if_pos (hx x (by simp)), ih fun b hb => hx b (by simp [hb])]
      · rw [List.takeWhile_cons, List.takeWhile_cons, if_neg c, if_neg fun h => c (hpq x h)]
  rw [gen _ h]
/-- a part as the specification's token -/
def kindOfPart (k : List Nat) : Nat := if k = signs "NAME" then 1 else if k = signs "CODE" then 2 else if k = signs "NUMBER" then 3 else if k = signs "TEXT" then 4 else if k ∈ keyL then 0 else 5
def tokBytes (bs : Bytes) (p : Part) : Bytes := if p.kind = signs "TEXT" then (match itemsIn 0 (p.lo + 1) (bs.drop (p.lo + 1)) with
  | .ok x => x.1
  | .error _ => []) else (bs.take p.hi).drop p.lo
def toTok (bs : Bytes) (p : Part) : Tok := ⟨kindOfPart p.kind, p.lo, p.hi, tokBytes bs p⟩
/-- what a reader of one part answers, as the specification's reader does -/
def SameTok (bs : Bytes) (i : Nat) (r : RP) (t : Except Fault (Tok × Bytes)) : Prop := match r with
  | .bad a b => t = .error (a, b)
  | .ok k e => t = .ok (toTok bs ⟨k, i, e⟩, bs.drop e)
theorem word_same {bs : Bytes} {i : Nat} {c : UInt8} (h : bs[i]? = some c) (hs : isSmall c = true) : SameTok bs i (readWord bs i) (tokenIn i (bs.drop i)) := by
  obtain ⟨hi, hc⟩ := List.getElem?_eq_some_iff.mp h
  have hd : bs.drop i = c :: bs.drop (i + 1) := by rw [List.drop_eq_getElem_cons hi, hc]
  have ht : tokenIn i (bs.drop i) = (let w := (bs.drop i).takeWhile isWordByte
      if isKeyword w = true then .ok (⟨0, i, i + w.length, w⟩, (bs.drop i).drop w.length) else if w.length ≤ NAME then .ok (⟨1, i, i + w.length, w⟩, (bs.drop i).drop w.length) else .error (1, i)) := by
    unfold tokenIn
    rw [hd]
    simp only [hs, if_true]
  rw [ht]
  have e1 : runTo (inL (signs "a0_")) bs i = i + ((bs.drop i).takeWhile isWordByte).length := by rw [in_word]; rfl
  have e2 : (bs.take (runTo (inL (signs "a0_")) bs i)).drop i = (bs.drop i).takeWhile isWordByte := by rw [cut_run, in_word]
  unfold readWord
  simp only
  rw [e2, e1]
  generalize hw : (bs.drop i).takeWhile isWordByte = w at *
  rw [List.drop_drop]
  by_cases ck : isKeyword w = true
  · have e3 : runTo (inL (signs "a")) bs i = i + w.length := by
      rw [in_small, ← e1, in_word]
      exact run_eq (fun b hb => by unfold isWordByte; rw [hb]; rfl) (by rw [hw]; exact key_small ck)
    rw [if_pos ⟨e3, mem_keyL.mpr ck⟩, if_pos ck]
    have hk : codes w ∈ keyL := mem_keyL.mpr ck
    have hno : ∀ s ∈ ["NAME", "CODE", "NUMBER", "TEXT"], codes w ≠ signs s := by
      intro s hs e
      rw [e] at hk
      have : (["NAME", "CODE", "NUMBER", "TEXT"].all fun s => decide (signs s ∉ keyL)) = true := by decide +kernel
      exact of_decide_eq_true (List.all_eq_true.mp this s hs) hk
    show Except.ok _ = Except.ok _
    unfold toTok kindOfPart tokBytes
    rw [if_neg (hno "NAME" (by simp)), if_neg (hno "CODE" (by simp)), if_neg (hno "NUMBER" (by simp)), if_neg (hno "TEXT" (by simp)), if_pos hk, if_neg (hno "TEXT" (by simp))]
    rw [show (bs.take (i + w.length)).drop i = w by rw [← e1]; exact e2]
  · rw [if_neg (fun h => ck (mem_keyL.mp h.2)), if_neg ck]
    rw [Nat.add_sub_cancel_left]
    by_cases cl : w.length ≤ 31
    · rw [if_pos cl, if_pos (show w.length ≤ NAME from cl)]
      show Except.ok _ = Except.ok _
      unfold toTok kindOfPart tokBytes
      rw [if_pos rfl, if_neg (show ¬ signs "NAME" = signs "TEXT" by decide)]
      rw [show (bs.take (i + w.length)).drop i = w by rw [← e1]; exact e2]
    · rw [if_neg cl, if_neg (show ¬ w.length ≤ NAME from cl)]
      rfl
theorem code_same {bs : Bytes} {i : Nat} {c : UInt8} (h : bs[i]? = some c) (hs : isBig c = true) (hn : isSmall c = false) : SameTok bs i (readCode bs i) (tokenIn i (bs.drop i)) := by
  obtain ⟨hi, hc⟩ := List.getElem?_eq_some_iff.mp h
  have hd : bs.drop i = c :: bs.drop (i + 1) := by rw [List.drop_eq_getElem_cons hi, hc]
  have ht : tokenIn i (bs.drop i) = (let w := (bs.drop i).takeWhile isCodeByte
      if isCode w = true then .ok (⟨2, i, i + w.length, w⟩, (bs.drop i).drop w.length) else .error (1, i)) := by
    unfold tokenIn
    rw [hd]
    simp only [hs, hn, if_true, Bool.false_eq_true, if_false]
  rw [ht]
  have e1 : runTo (inL (signs "A0")) bs i = i + ((bs.drop i).takeWhile isCodeByte).length := by rw [in_code]; rfl
  have e2 : (bs.take (runTo (inL (signs "A0")) bs i)).drop i = (bs.drop i).takeWhile isCodeByte := by rw [cut_run, in_code]
  have e4 : ∃ r, (bs.drop i).takeWhile isCodeByte = c :: r := by
    rw [hd, List.takeWhile_cons, if_pos (by unfold isCodeByte; rw [hs]; rfl)]
    exact ⟨_, rfl⟩
  have e5 : ((bs.drop i).takeWhile isCodeByte).all isCodeByte = true := List.all_takeWhile
  unfold readCode
  simp only
  rw [e1]
  rw [e1] at e2
  generalize (bs.drop i).takeWhile isCodeByte = w at *
  rw [List.drop_drop]
  obtain ⟨r, hr⟩ := e4
  have e6 : isCode w = true ↔ 2 ≤ w.length ∧ w.length ≤ 8 := by
    unfold isCode
    rw [e5, hr]
    simp [hs]
  by_cases cl : 2 ≤ w.length ∧ w.length ≤ 8
  · rw [if_pos (by omega), if_pos (e6.mpr cl)]
    show Except.ok _ = Except.ok _
    unfold toTok kindOfPart tokBytes
    rw [if_neg (show ¬ signs "CODE" = signs "NAME" by decide), if_pos rfl, if_neg (show ¬ signs "CODE" = signs "TEXT" by decide), e2]
  · rw [if_neg (by omega), if_neg fun h => cl (e6.mp h)]
    rfl
end La
set_option maxHeartbeats 200000
/-! Texts, numbers, signs against the specification's tokens; no library. -/
namespace La
open EwTree
theorem drop_at {bs : Bytes} {i : Nat} {c : UInt8} (h : bs[i]? = some c) : bs.drop i = c :: bs.drop (i + 1) := by
  obtain ⟨hi, hc⟩ := List.getElem?_eq_some_iff.mp h
  rw [List.drop_eq_getElem_cons hi, hc]
theorem byteAt_some {bs : Bytes} {i : Nat} {c : UInt8} (h : bs[i]? = some c) : byteAt bs i = (c.toNat : Int) := by
  unfold byteAt
  rw [h]
theorem byteAt_none {bs : Bytes} {i : Nat} (h : bs[i]? = none) : byteAt bs i = -1 := by
  unfold byteAt
  rw [h]
/-- texts -/
theorem items_34 {k p : Nat} {s : Bytes} (h1 : ¬ ITEMS ≤ k) : itemsIn k p (92 :: 34 :: s) = (itemsIn (k + 1) (p + 2) s).map fun (x : Bytes × Nat × Bytes) => (34 :: x.1, x.2) := by
  conv => lhs; unfold itemsIn
  rw [if_neg (by decide), if_neg h1, if_neg (by simp), if_pos rfl]
  rfl
theorem items_92 {k p : Nat} {s : Bytes} (h1 : ¬ ITEMS ≤ k) : itemsIn k p (92 :: 92 :: s) = (itemsIn (k + 1) (p + 2) s).map fun (x : Bytes × Nat × Bytes) => (92 :: x.1, x.2) := by
  conv => lhs; unfold itemsIn
  rw [if_neg (by decide), if_neg h1, if_neg (by simp), if_pos rfl]
  rfl
theorem items_110 {k p : Nat} {s : Bytes} (h1 : ¬ ITEMS ≤ k) : itemsIn k p (92 :: 110 :: s) = (itemsIn (k + 1) (p + 2) s).map fun (x : Bytes × Nat × Bytes) => (10 :: x.1, x.2) := by
  conv => lhs; unfold itemsIn
  rw [if_neg (by decide), if_neg h1, if_neg (by simp), if_pos rfl]
  rfl
theorem items_no {k p : Nat} {d : UInt8} {s : Bytes} (h1 : ¬ ITEMS ≤ k) (a1 : d ≠ 34) (a2 : d ≠ 92) (a3 : d ≠ 110) : itemsIn k p (92 :: d :: s) = .error (1, p) := by
  conv => lhs; unfold itemsIn
  rw [if_neg (by decide), if_neg h1, if_neg (by simp), if_pos rfl]
  split
  · rename_i h; cases h; exact absurd rfl a1
  · rename_i h; cases h; exact absurd rfl a2
  · rename_i h; cases h; exact absurd rfl a3
  · rfl
theorem items_byte {k p : Nat} {c : UInt8} {s : Bytes} (h1 : ¬ ITEMS ≤ k) (a1 : c ≠ 34) (a2 : c ≠ 92) : itemsIn k p (c :: s) = if isSeen c = true then (itemsIn (k + 1) (p + 1) s).map fun (x : Bytes × Nat × Bytes) => (c :: x.1, x.2) else .error (1, p) := by
  conv => lhs; unfold itemsIn
  rw [if_neg a1, if_neg h1, if_neg (fun h => a2 h.1), if_neg a2]
theorem item_step {bs : Bytes} {p c : Nat} {b : UInt8} (hb : bs[p]? = some b) (c1 : b ≠ 34) (hk : ¬ ITEMS ≤ c) (c3 : ¬ (b = 92 ∧ p + 1 = bs.length)) :
    (itemEnd bs p = p ∧ itemsIn c p (bs.drop p) = .error (1, p)) ∨ (itemEnd bs p ≠ p ∧ itemEnd bs p ≤ bs.length ∧ ∃ x : UInt8, itemsIn c p (bs.drop p) = (itemsIn (c + 1) (itemEnd bs p) (bs.drop (itemEnd bs p))).map fun (y : Bytes × Nat × Bytes) => (x :: y.1, y.2)) := by
  obtain ⟨hi, hbb⟩ := List.getElem?_eq_some_iff.mp hb
  have hd := drop_at hb
  have he : itemEnd bs p = if b = 92 then (if byteAt bs (p + 1) = 34 ∨ byteAt bs (p + 1) = 92 ∨ byteAt bs (p + 1) = 110 then p + 2 else p) else if isSeen b = true then p + 1 else p := by
    unfold itemEnd
    rw [hb]
  by_cases c2 : b = 92
  · rw [if_pos c2] at he
    have hlt : p + 1 < bs.length := by
      rcases Nat.lt_or_ge (p + 1) bs.length with h | h
      · exact h
      · exact absurd ⟨c2, by omega⟩ c3
    have hb2 : bs[p + 1]? = some bs[p + 1] := List.getElem?_eq_getElem hlt
    have hd2 := drop_at hb2
    rw [byteAt_some hb2] at he
    rw [hd, hd2, c2]
    generalize bs[p + 1] = d at *
    by_cases d1 : d = 34
    · subst d1
      rw [if_pos (.inl rfl)] at he
      rw [he]
      exact .inr ⟨by omega, hlt, 34, items_34 hk⟩
    · by_cases d2 : d = 92
      · subst d2
        rw [if_pos (.inr (.inl rfl))] at he
        rw [he]
        exact .inr ⟨by omega, hlt, 92, items_92 hk⟩
      · by_cases d3 : d = 110
        · subst d3
          rw [if_pos (.inr (.inr rfl))] at he
          rw [he]
          exact .inr ⟨by omega, hlt, 10, items_110 hk⟩
        · have no : ∀ n : UInt8, d ≠ n → ¬ (d.toNat : Int) = (n.toNat : Int) := fun n h e => h (UInt8.toNat_inj.mp (by omega))
          rw [if_neg (by
            rintro (h | h | h)
            · exact no 34 d1 h
            · exact no 92 d2 h
            · exact no 110 d3 h)] at he
          exact .inl ⟨he, items_no hk d1 d2 d3⟩
  · rw [if_neg c2] at he
    rw [hd, items_byte hk c1 c2]
    by_cases cs : isSeen b = true
    · rw [if_pos cs] at he
      rw [if_pos cs, he]
      exact .inr ⟨by omega, hi, b, rfl⟩
    · rw [if_neg cs] at he
      rw [if_neg cs]
      exact .inl ⟨he, rfl⟩
theorem items_same {bs : Bytes} : ∀ (f p c : Nat), p ≤ bs.length → bs.length < p + f → c ≤ 1024 → (match textAt bs f p c with
    | .bad a b => itemsIn c p (bs.drop p) = .error (a, b)
    | .ok k e => k = signs "TEXT" ∧ ∃ y, itemsIn c p (bs.drop p) = .ok (y, e, bs.drop e))
  | 0, p, c, hp, hf, hc => by omega
  | f + 1, p, c, hp, hf, hc => by
    unfold textAt
    cases hb : bs[p]? with
    | none =>
      have h1 : bs.length ≤ p := List.getElem?_eq_none_iff.mp hb
      have h2 : p = bs.length := by omega
      rw [List.drop_eq_nil_of_le h1, h2]
      show itemsIn c bs.length [] = _
      unfold itemsIn
      rfl
    | some b =>
      have hd := drop_at hb
      obtain ⟨hi, hbb⟩ := List.getElem?_eq_some_iff.mp hb
      simp only
      by_cases c1 : b = 34
      · rw [if_pos c1, hd]
        refine ⟨rfl, [], ?_⟩
        unfold itemsIn
        rw [if_pos c1]
      · rw [if_neg c1]
        by_cases c2 : c = 1024
        · rw [if_pos c2, hd]
          show itemsIn c p (b :: bs.drop (p + 1)) = _
          unfold itemsIn
          rw [if_neg c1, if_pos (show ITEMS ≤ c by rw [c2]; decide)]
        · rw [if_neg c2]
          have hk : ¬ ITEMS ≤ c := by
            show ¬ 1024 ≤ c
            omega
          by_cases c3 : b = 92 ∧ p + 1 = bs.length
          · rw [if_pos c3, hd]
            show itemsIn c p (b :: bs.drop (p + 1)) = _
            unfold itemsIn
            rw [if_neg c1, if_neg hk, if_pos ⟨c3.1, List.drop_eq_nil_of_le (by omega)⟩, c3.2]
          · rw [if_neg c3]
            rcases item_step hb c1 hk c3 with ⟨e1, e2⟩ | ⟨e1, e2, x, e3⟩
            · rw [if_pos e1]
              exact e2
            · rw [if_neg e1]
              have hge := @itemEnd_le bs p
              have ih := items_same (bs := bs) f (itemEnd bs p) (c + 1) e2 (by omega) (by omega)
              generalize textAt bs f (itemEnd bs p) (c + 1) = r at *
              cases r with
              | bad a b2 =>
                show itemsIn c p (bs.drop p) = _
                rw [e3, show itemsIn (c + 1) (itemEnd bs p) (bs.drop (itemEnd bs p)) = .error (a, b2) from ih]
                rfl
              | ok k e =>
                obtain ⟨i1, y, i2⟩ := ih
                refine ⟨i1, x :: y, ?_⟩
                rw [e3, i2]
                rfl
theorem text_same {bs : Bytes} {i : Nat} (h : bs[i]? = some 34) : SameTok bs i (readText bs i) (tokenIn i (bs.drop i)) := by
  obtain ⟨hi, hc⟩ := List.getElem?_eq_some_iff.mp h
  have hd := drop_at h
  have ht : tokenIn i (bs.drop i) = (match itemsIn 0 (i + 1) (bs.drop (i + 1)) with
      | .error e => .error e
      | .ok x => .ok (⟨4, i, x.2.1, x.1⟩, x.2.2)) := by
    rw [hd]
    rfl
  rw [ht]
  have q := items_same (bs := bs) (bs.length + 1) (i + 1) 0 hi (by omega) (by omega)
  unfold readText
  generalize textAt bs (bs.length + 1) (i + 1) 0 = r at *
  cases r with
  | bad a b =>
    have q' : itemsIn 0 (i + 1) (bs.drop (i + 1)) = .error (a, b) := q
    rw [q']
    rfl
  | ok k e =>
    obtain ⟨rfl, y, q2⟩ := q
    rw [q2]
    show Except.ok _ = Except.ok _
    unfold toTok kindOfPart tokBytes
    rw [if_neg (show ¬ signs "TEXT" = signs "NAME" by decide), if_neg (show ¬ signs "TEXT" = signs "CODE" by decide), if_neg (show ¬ signs "TEXT" = signs "NUMBER" by decide), if_pos rfl, if_pos rfl]
    simp only [q2]
end La
set_option maxHeartbeats 200000
/-! Numbers against the specification's; no library. -/
namespace La
open EwTree
theorem drop_run {bs : Bytes} {p : UInt8 → Bool} {i : Nat} : bs.drop (runTo p bs i) = (bs.drop i).dropWhile p := by
  unfold runTo
  rw [← List.drop_drop]
  generalize bs.drop i = l
  have h : l.takeWhile p ++ l.dropWhile p = l := List.takeWhile_append_dropWhile
  exact (congrArg (List.drop (l.takeWhile p).length) h.symm).trans List.drop_left
theorem run_fix {bs : Bytes} {p : UInt8 → Bool} {i : Nat} (h : i ≤ bs.length) : runTo p bs (runTo p bs i) = runTo p bs i := by
  have e : ((bs.drop i).dropWhile p).takeWhile p = [] := by
    generalize bs.drop i = l
    induction l with
    | nil => rfl
    | cons x r ih =>
      rw [List.dropWhile_cons]
      split
      · exact ih
      · rename_i c
        rw [List.takeWhile_cons, if_neg c]
  show runTo p bs i + ((bs.drop (runTo p bs i)).takeWhile p).length = _
  rw [drop_run, e]
  rfl
theorem takeWhile_take {p : UInt8 → Bool} : ∀ (l : Bytes) (m : Nat), (l.takeWhile p).length ≤ m → (l.take m).takeWhile p = l.takeWhile p
  | [], m, h => by simp
  | x :: r, 0, h => by
    rw [List.takeWhile_cons] at h ⊢
    split
    · rename_i c
      rw [if_pos c] at h
      simp at h
    · rfl
  | x :: r, m + 1, h => by
    rw [List.take_succ_cons, List.takeWhile_cons, List.takeWhile_cons]
    rw [List.takeWhile_cons] at h
    split
    · rename_i c
      rw [if_pos c, List.length_cons] at h
      rw [takeWhile_take r m (by omega)]
    · rfl
theorem run_take {bs : Bytes} {p : UInt8 → Bool} {i n : Nat} (h : runTo p bs i ≤ n) : runTo p (bs.take n) i = runTo p bs i := by
  unfold runTo at h ⊢
  rw [List.drop_take, takeWhile_take _ _ (by omega)]
theorem get_take {bs : Bytes} {n j : Nat} (h : j < n) : (bs.take n)[j]? = bs[j]? := by
  rw [List.getElem?_take, if_pos h]
theorem byteAt_take {bs : Bytes} {n j : Nat} (h : j < n) : byteAt (bs.take n) j = byteAt bs j := by
  unfold byteAt
  rw [get_take h]
theorem digitAt_take {bs : Bytes} {n j : Nat} (h : j < n) : digitAt (bs.take n) j = digitAt bs j := by
  unfold digitAt
  rw [get_take h]
theorem byteAt_out {bs : Bytes} {n j : Nat} (h : n ≤ j) : byteAt (bs.take n) j = -1 := byteAt_none (List.getElem?_eq_none (by rw [List.length_take]; omega))
theorem digitAt_out {bs : Bytes} {n j : Nat} (h : n ≤ j) : digitAt (bs.take n) j = false := by
  unfold digitAt
  rw [List.getElem?_eq_none (by rw [List.length_take]; omega)]
theorem run_digit {bs : Bytes} {j : Nat} (h : digitAt bs j = true) : j < runTo isDigit bs j ∧ runTo isDigit bs j ≤ bs.length := by
  have hj := digitAt_lt h
  have hg : bs[j]? = some bs[j] := List.getElem?_eq_getElem hj
  unfold digitAt at h
  rw [hg] at h
  exact run_gt hg ((sg_digit _).mp (of_decide_eq_true h))
def nW (bs : Bytes) (i : Nat) : Nat := runTo isDigit bs i
def nB (bs : Bytes) (i : Nat) : Nat := if byteAt bs (nW bs i) = 46 ∧ digitAt bs (nW bs i + 1) = true then runTo isDigit bs (nW bs i + 1) else nW bs i
def nD (bs : Bytes) (i : Nat) : Nat := expAt bs (nB bs i)
def nR (bs : Bytes) (i : Nat) : Nat := runTo isDigit bs (nD bs i)
def nF (bs : Bytes) (i : Nat) : Nat := runTo isMarkByte bs (nR bs i)
theorem n_order {bs : Bytes} {i : Nat} (h : i ≤ bs.length) : i ≤ nW bs i ∧ nW bs i ≤ nB bs i ∧ nB bs i ≤ nD bs i ∧ nD bs i ≤ nR bs i ∧ nR bs i ≤ nF bs i ∧ nF bs i ≤ bs.length := by
  have h1 : i ≤ nW bs i ∧ nW bs i ≤ bs.length := run_le h
  have h2 : nW bs i ≤ nB bs i ∧ nB bs i ≤ bs.length := by
    unfold nB
    split
    · rename_i c
      have := run_digit c.2
      omega
    · omega
  have h3 : nB bs i ≤ nD bs i ∧ nD bs i ≤ bs.length := expAt_ge h2.2
  have h4 : nD bs i ≤ nR bs i ∧ nR bs i ≤ bs.length := run_le h3.2
  have h5 : nR bs i ≤ nF bs i ∧ nF bs i ≤ bs.length := run_le h4.2
  omega
theorem expAt_cases (bs : Bytes) (i : Nat) : (expAt bs i = i ∧ ¬ (byteAt bs i = 101 ∧ (digitAt bs (i + 1) = true ∨ (byteAt bs (i + 1) = 45 ∧ digitAt bs (i + 2) = true)))) ∨
    (expAt bs i = i + 1 ∧ byteAt bs i = 101 ∧ digitAt bs (i + 1) = true) ∨ (expAt bs i = i + 2 ∧ byteAt bs i = 101 ∧ ¬ digitAt bs (i + 1) = true ∧ byteAt bs (i + 1) = 45 ∧ digitAt bs (i + 2) = true) := by
  unfold expAt
  by_cases c1 : byteAt bs i = 101
  · rw [if_neg (by simpa using c1)]
    by_cases c2 : digitAt bs (i + 1) = true
    · rw [if_pos c2]
      exact .inr (.inl ⟨rfl, c1, c2⟩)
    · rw [if_neg c2]
      by_cases c3 : byteAt bs (i + 1) = 45 ∧ digitAt bs (i + 2) = true
      · rw [if_pos c3]
        exact .inr (.inr ⟨rfl, c1, c2, c3⟩)
      · rw [if_neg c3]
        refine .inl ⟨rfl, ?_⟩
        rintro ⟨_, h | h⟩
        · exact c2 h
        · exact c3 h
  · rw [if_pos c1]
    exact .inl ⟨rfl, fun h => c1 h.1⟩
/-- the same places in the text cut behind the number -/
theorem n_take {bs : Bytes} {i n : Nat} (h : i ≤ bs.length) (hn : nF bs i ≤ n) : nW (bs.take n) i = nW bs i ∧ nB (bs.take n) i = nB bs i ∧ nD (bs.take n) i = nD bs i ∧ nR (bs.take n) i = nR bs i ∧ nF (bs.take n) i = nF bs i := by
  have ho := n_order h
  have eW : nW (bs.take n) i = nW bs i := run_take (by show nW bs i ≤ n; omega)
  have eB : nB (bs.take n) i = nB bs i := by
    unfold nB
    rw [eW]
    by_cases c : byteAt bs (nW bs i) = 46 ∧ digitAt bs (nW bs i + 1) = true
    · have hb : nB bs i = runTo isDigit bs (nW bs i + 1) := if_pos c
      have := run_digit c.2
      rw [if_pos c, if_pos (by rw [byteAt_take (by omega), digitAt_take (by omega)]; exact c)]
      exact run_take (by omega)
    · rw [if_neg c, if_neg]
      rintro ⟨h1, h2⟩
      rcases Nat.lt_or_ge (nW bs i + 1) n with hl | hl
      · rw [byteAt_take (by omega)] at h1
        rw [digitAt_take hl] at h2
        exact c ⟨h1, h2⟩
      · rw [digitAt_out hl] at h2
        cases h2
  have eD : nD (bs.take n) i = nD bs i := by
    have hD : nD bs i = expAt bs (nB bs i) := rfl
    show expAt (bs.take n) (nB (bs.take n) i) = expAt bs (nB bs i)
    rw [eB]
    rcases expAt_cases bs (nB bs i) with ⟨e, c⟩ | ⟨e, c1, c2⟩ | ⟨e, c1, c2, c3, c4⟩
    · rcases expAt_cases (bs.take n) (nB bs i) with ⟨e', _⟩ | ⟨e', d1, d2⟩ | ⟨e', d1, d2, d3, d4⟩
      · rw [e, e']
      · have hl : nB bs i + 1 < n := by
          rcases Nat.lt_or_ge (nB bs i + 1) n with hl | hl
          · exact hl
          · rw [digitAt_out hl] at d2
            cases d2
        rw [byteAt_take (by omega)] at d1
        rw [digitAt_take hl] at d2
        exact absurd ⟨d1, .inl d2⟩ c
      · have hl : nB bs i + 2 < n := by
          rcases Nat.lt_or_ge (nB bs i + 2) n with hl | hl
          · exact hl
          · rw [digitAt_out hl] at d4
            cases d4
        rw [byteAt_take (by omega)] at d1 d3
        rw [digitAt_take hl] at d4
        exact absurd ⟨d1, .inr ⟨d3, d4⟩⟩ c
    · have hR := (run_digit c2).1
      have hR' : nR bs i = runTo isDigit bs (nB bs i + 1) := by unfold nR nD; rw [e]
      rcases expAt_cases (bs.take n) (nB bs i) with ⟨e', c'⟩ | ⟨e', d1, d2⟩ | ⟨e', d1, d2, d3, d4⟩
      · exact absurd ⟨by rw [byteAt_take (by omega)]; exact c1, .inl (by rw [digitAt_take (by omega)]; exact c2)⟩ c'
      · rw [e, e']
      · rw [digitAt_take (by omega)] at d2
        exact absurd c2 d2
    · have hR := (run_digit c4).1
      have hR' : nR bs i = runTo isDigit bs (nB bs i + 2) := by unfold nR nD; rw [e]
      rcases expAt_cases (bs.take n) (nB bs i) with ⟨e', c'⟩ | ⟨e', d1, d2⟩ | ⟨e', d1, d2, d3, d4⟩
      · exact absurd ⟨by rw [byteAt_take (by omega)]; exact c1, .inr ⟨by rw [byteAt_take (by omega)]; exact c3, by rw [digitAt_take (by omega)]; exact c4⟩⟩ c'
      · rw [digitAt_take (by omega)] at d2
        exact absurd d2 c2
      · rw [e, e']
  have eR : nR (bs.take n) i = nR bs i := by
    show runTo isDigit (bs.take n) (nD (bs.take n) i) = runTo isDigit bs (nD bs i)
    rw [eD]
    exact run_take (by show nR bs i ≤ n; omega)
  have eF : nF (bs.take n) i = nF bs i := by
    show runTo isMarkByte (bs.take n) (nR (bs.take n) i) = runTo isMarkByte bs (nR bs i)
    rw [eR]
    exact run_take (by show nF bs i ≤ n; omega)
  exact ⟨eW, eB, eD, eR, eF⟩
def cut (bs : Bytes) (a b : Nat) : Bytes := (bs.take b).drop a
/-- a number's pieces, by places -/
theorem byteAt_is {bs : Bytes} {i : Nat} {c : UInt8} : byteAt bs i = (c.toNat : Int) ↔ bs[i]? = some c := by
  unfold byteAt
  cases h : bs[i]? with
  | none => simp
  | some b =>
    simp only [Option.some.injEq]
    rw [← UInt8.toNat_inj]
    omega
theorem point_idx {bs : Bytes} {W : Nat} (h : W ≤ bs.length) : pointIn (bs.drop W) = if byteAt bs W = 46 ∧ digitAt bs (W + 1) = true then (some (cut bs (W + 1) (runTo isDigit bs (W + 1))), bs.drop (runTo isDigit bs (W + 1))) else (none, bs.drop W) := by
  by_cases c : byteAt bs W = 46
  · have hb : bs[W]? = some 46 := byteAt_is.mp c
    rw [drop_at hb]
    cases hb2 : bs[W + 1]? with
    | none =>
      have hl : bs.length ≤ W + 1 := List.getElem?_eq_none_iff.mp hb2
      rw [List.drop_eq_nil_of_le hl, if_neg (by
        rintro ⟨_, h2⟩
        have := digitAt_lt h2
        omega)]
      rfl
    | some d =>
      have e1 : digitAt bs (W + 1) = isDigit d := by
        unfold digitAt
        rw [hb2, Bool.eq_iff_iff, decide_eq_true_eq]
        exact sg_digit d
      rw [drop_at hb2]
      show (if isDigit d = true then _ else _) = _
      rw [e1]
      by_cases cd : isDigit d = true
      · rw [if_pos cd, if_pos ⟨c, cd⟩, drop_run, ← drop_at hb2]
        unfold cut
        rw [cut_run]
      · rw [if_neg cd, if_neg fun h => cd h.2]
  · rw [if_neg fun h => c h.1]
    cases hb : bs[W]? with
    | none =>
      rw [List.drop_eq_nil_of_le (List.getElem?_eq_none_iff.mp hb)]
      rfl
    | some b =>
      rw [drop_at hb]
      have hne : b ≠ 46 := fun e => c (byteAt_is.mpr (by rw [hb, e]))
      unfold pointIn
      split
      · rename_i h1
        injection h1 with h2 _
        exact absurd h2 hne
      · rfl
theorem digitAt_is {bs : Bytes} {i : Nat} {d : UInt8} (h : bs[i]? = some d) : digitAt bs i = isDigit d := by
  unfold digitAt
  rw [h, Bool.eq_iff_iff, decide_eq_true_eq]
  exact sg_digit d
theorem digitAt_no {bs : Bytes} {i : Nat} (h : bs[i]? = none) : digitAt bs i = false := by
  unfold digitAt
  rw [h]
theorem drop_none {bs : Bytes} {i : Nat} (h : bs[i]? = none) : bs.drop i = [] := List.drop_eq_nil_of_le (List.getElem?_eq_none_iff.mp h)
theorem expo_idx {bs : Bytes} {W : Nat} : expoIn (bs.drop W) = if expAt bs W = W then (none, bs.drop W) else (some (decide (expAt bs W = W + 2), cut bs (expAt bs W) (runTo isDigit bs (expAt bs W))), bs.drop (runTo isDigit bs (expAt bs W))) := by
  have ev : expAt bs W = if byteAt bs W ≠ 101 then W else if digitAt bs (W + 1) = true then W + 1 else if byteAt bs (W + 1) = 45 ∧ digitAt bs (W + 2) = true then W + 2 else W := rfl
  cases hb : bs[W]? with
  | none =>
    rw [byteAt_none hb, if_pos (by decide)] at ev
    rw [if_pos ev, drop_none hb]
    rfl
  | some b =>
    by_cases c : b = 101
    · subst c
      rw [byteAt_some hb, if_neg (by decide)] at ev
      rw [drop_at hb]
      cases hb2 : bs[W + 1]? with
      | none =>
        rw [digitAt_no hb2, if_neg (by decide), byteAt_none hb2, if_neg (by rintro ⟨h, _⟩; exact absurd h (by decide))] at ev
        rw [if_pos ev, drop_none hb2]
        rfl
      | some d =>
        rw [digitAt_is hb2, byteAt_some hb2] at ev
        rw [drop_at hb2]
        by_cases d1 : d = 45
        · subst d1
          rw [if_neg (by decide)] at ev
          cases hb3 : bs[W + 2]? with
          | none =>
            rw [digitAt_no hb3, if_neg (by rintro ⟨_, h⟩; cases h)] at ev
            rw [if_pos ev, drop_none hb3]
            rfl
          | some x =>
            rw [digitAt_is hb3] at ev
            rw [drop_at hb3]
            show (if isDigit x = true then _ else _) = _
            by_cases cx : isDigit x = true
            · rw [if_pos ⟨by decide, cx⟩] at ev
              rw [if_pos cx, if_neg (by omega), ev, decide_eq_true rfl, drop_run, ← drop_at hb3]
              unfold cut
              rw [cut_run]
            · rw [if_neg fun h => cx h.2] at ev
              rw [if_neg cx, if_pos ev]
        · have e1 : expoIn (101 :: d :: bs.drop (W + 1 + 1)) = if isDigit d = true then (some (false, (d :: bs.drop (W + 1 + 1)).takeWhile isDigit), (d :: bs.drop (W + 1 + 1)).dropWhile isDigit) else (none, 101 :: d :: bs.drop (W + 1 + 1)) := by
            unfold expoIn
            split
            · rename_i h1
              injection h1 with _ h2
              injection h2 with h3 _
              exact absurd h3 d1
            · rename_i h1
              injection h1 with _ h2
              injection h2 with h3 h4
              subst h3 h4
              rfl
            · rename_i h1 h2
              exact absurd rfl (h2 d _)
          rw [e1]
          by_cases cd : isDigit d = true
          · rw [if_pos cd] at ev
            rw [if_pos cd, if_neg (by omega), ev, decide_eq_false (by omega), drop_run, ← drop_at hb2]
            unfold cut
            rw [cut_run]
          · rw [if_neg cd, if_neg (by
              rintro ⟨h, _⟩
              exact d1 (UInt8.toNat_inj.mp (by
                have : ((45 : UInt8).toNat : Int) = 45 := rfl
                omega)))] at ev
            rw [if_neg cd, if_pos ev]
    · have hne : byteAt bs W ≠ 101 := by
        rw [byteAt_some hb]
        intro h
        exact c (UInt8.toNat_inj.mp (by
          have : ((101 : UInt8).toNat : Int) = 101 := rfl
          omega))
      rw [if_pos hne] at ev
      rw [if_pos ev, drop_at hb]
      unfold expoIn
      split
      · rename_i h1
        injection h1 with h2 _
        exact absurd h2 c
      · rename_i h1
        injection h1 with h2 _
        exact absurd h2 c
      · rfl
/-- **a number's pieces, by places** -/
theorem digits_idx {bs : Bytes} {i : Nat} (h : i ≤ bs.length) : digitsIn (bs.drop i) =
    (⟨cut bs i (nW bs i), if nW bs i < nB bs i then some (cut bs (nW bs i + 1) (nB bs i)) else none,
      if nB bs i < nD bs i then some (decide (nD bs i = nB bs i + 2), cut bs (nD bs i) (nR bs i)) else none, cut bs (nR bs i) (nF bs i)⟩, bs.drop (nF bs i)) := by
  have ho := n_order h
  have h1 : (bs.drop i).takeWhile isDigit = cut bs i (nW bs i) := by
    unfold cut nW
    rw [cut_run]
  have h2 : (bs.drop i).dropWhile isDigit = bs.drop (nW bs i) := drop_run.symm
  have h3 : pointIn (bs.drop (nW bs i)) = (if nW bs i < nB bs i then some (cut bs (nW bs i + 1) (nB bs i)) else none, bs.drop (nB bs i)) := by
    rw [point_idx (by omega)]
    by_cases c : byteAt bs (nW bs i) = 46 ∧ digitAt bs (nW bs i + 1) = true
    · have hb : nB bs i = runTo isDigit bs (nW bs i + 1) := if_pos c
      have := (run_digit c.2).1
      rw [if_pos c, if_pos (by omega), hb]
    · have hb : nB bs i = nW bs i := if_neg c
      rw [if_neg c, if_neg (by omega), hb]
  have h4 : expoIn (bs.drop (nB bs i)) = (if nB bs i < nD bs i then some (decide (nD bs i = nB bs i + 2), cut bs (nD bs i) (nR bs i)) else none, bs.drop (nR bs i)) := by
    rw [expo_idx]
    show (if nD bs i = nB bs i then _ else (some (decide (nD bs i = nB bs i + 2), cut bs (nD bs i) (nR bs i)), bs.drop (nR bs i))) = _
    by_cases c : nD bs i = nB bs i
    · rw [if_pos c, if_neg (by omega)]
      have hR : nR bs i = nB bs i := by
        show runTo isDigit bs (nD bs i) = _
        rw [c]
        unfold nB
        split
        · rename_i c2
          exact run_fix (Nat.le_of_lt (digitAt_lt c2.2))
        · exact run_fix h
      rw [hR]
    · rw [if_neg c, if_pos (by omega)]
  unfold digitsIn
  simp only [h1, h2, h3, h4]
  have h5 : (bs.drop (nR bs i)).takeWhile isMarkByte = cut bs (nR bs i) (nF bs i) := by
    unfold cut nF
    rw [cut_run]
  have h6 : (bs.drop (nR bs i)).dropWhile isMarkByte = bs.drop (nF bs i) := drop_run.symm
  rw [h5, h6]
end La
set_option maxHeartbeats 200000
/-! Numbers: the two judgements; no library. -/
namespace La
open EwTree
theorem cut_length {bs : Bytes} {a b : Nat} (h : b ≤ bs.length) : (cut bs a b).length = b - a := by
  unfold cut
  rw [List.length_drop, List.length_take]
  omega
theorem cut_take {bs : Bytes} {a b n : Nat} (h : b ≤ n) : cut (bs.take n) a b = cut bs a b := by
  unfold cut
  rw [List.take_take, Nat.min_eq_left h]
theorem marks_is (m : Bytes) : MARKS.contains m = true ↔ (m = [] ∨ m = [112] ∨ ∃ b, m = [b] ∧ b.toNat ∈ PLAIN) := by
  rw [List.contains_iff_mem]
  have hM : MARKS = [[], [109], [120], [100], [115], [104], [105], [112]] := by decide +kernel
  rw [hM]
  constructor
  · intro h
    simp only [List.mem_cons, List.not_mem_nil, or_false] at h
    rcases h with h | h | h | h | h | h | h | h <;> subst h
    · exact .inl rfl
    all_goals first | exact .inr (.inl rfl) | exact .inr (.inr ⟨_, rfl, by decide⟩)
  · rintro (h | h | ⟨b, h, hb⟩)
    · subst h; simp
    · subst h; simp
    · subst h
      simp only [PLAIN, List.mem_cons, List.not_mem_nil, or_false] at hb
      simp only [List.mem_cons, List.not_mem_nil, or_false, List.cons.injEq, and_true, ← UInt8.toNat_inj]
      have e1 : (109 : UInt8).toNat = 109 := rfl
      have e2 : (120 : UInt8).toNat = 120 := rfl
      have e3 : (100 : UInt8).toNat = 100 := rfl
      have e4 : (115 : UInt8).toNat = 115 := rfl
      have e5 : (104 : UInt8).toNat = 104 := rfl
      have e6 : (105 : UInt8).toNat = 105 := rfl
      rcases hb with h | h | h | h | h | h <;> simp [h]
theorem exp_same (d : Bytes) (neg : Bool) (hd : d ≠ []) : rightExp d neg = (plain d && (decide (d.length ≤ 5) && !(neg && d == [48]))) := by
  obtain ⟨x, r, rfl⟩ : ∃ x r, d = x :: r := by
    cases d with
    | nil => exact absurd rfl hd
    | cons x r => exact ⟨x, r, rfl⟩
  unfold rightExp plain
  by_cases c : x = 48
  · subst c
    cases r with
    | nil => cases neg <;> rfl
    | cons y t =>
      rw [if_neg (by simp)]
      simp
  · rw [if_neg (by simp [c])]
    have e1 : ((x :: r) == [48]) = false := by
      simp only [beq_eq_false_iff_ne]
      intro h
      injection h with h1 _
      exact c h1
    have e2 : (x == (48 : UInt8)) = false := beq_false_of_ne c
    have e3 : (some x != some (48 : UInt8)) = true := by simp [bne, c]
    rw [e1]
    simp only [List.head?_cons, e3, Bool.true_or, Bool.true_and, Bool.and_false, Bool.not_false, Bool.and_true]
    rw [show ((some x == some (48 : UInt8))) = false from by simp [c]]
    simp
theorem right_same (first mark ex x : Bytes) (pt hx neg : Bool) (he : hx = true ↔ ex ≠ []) :
    rightNum first pt ex neg mark = Digits.right ⟨first, if pt = true then some x else none, if hx = true then some (neg, ex) else none, mark⟩ := by
  unfold rightNum Digits.right
  simp only
  have hp : (word "p" : Bytes) = [112] := by decide +kernel
  rw [hp]
  by_cases c : mark = [112]
  · subst c
    rw [if_pos rfl, if_pos rfl, (marks_is [112]).mpr (.inr (.inl rfl))]
    have hxx : ex.isEmpty = !hx := by
      cases hx with
      | false =>
        cases ex with
        | nil => rfl
        | cons a b => exact absurd (he.mpr (by simp)) (by simp)
      | true =>
        cases ex with
        | nil => exact absurd rfl (he.mp rfl)
        | cons a b => rfl
    rw [hxx]
    cases pt <;> cases hx <;> rfl
  · rw [if_neg c, if_neg c]
    by_cases c2 : mark ≠ [] ∧ (1 < mark.length ∨ ∀ b, mark.head? = some b → b.toNat ∉ PLAIN)
    · rw [if_pos c2]
      have hm : ¬ (mark = [] ∨ mark = [112] ∨ ∃ b, mark = [b] ∧ b.toNat ∈ PLAIN) := by
        rintro (h | h | ⟨b, h, hb⟩)
        · exact c2.1 h
        · exact c h
        · rcases c2.2 with h2 | h2
          · rw [h] at h2
            simp at h2
          · exact h2 b (by rw [h]; rfl) hb
      rw [Bool.eq_false_iff.mpr fun h => hm ((marks_is mark).mp h)]
      rfl
    · rw [if_neg c2]
      have hm : mark = [] ∨ mark = [112] ∨ ∃ b, mark = [b] ∧ b.toNat ∈ PLAIN := by
        cases mark with
        | nil => exact .inl rfl
        | cons b r =>
          have h1 : ¬ (1 < (b :: r).length ∨ ∀ z, (b :: r).head? = some z → z.toNat ∉ PLAIN) := fun h => c2 ⟨by simp, h⟩
          have h2 : r = [] := by
            cases r with
            | nil => rfl
            | cons y t => exact absurd (.inl (by simp)) h1
          subst h2
          refine .inr (.inr ⟨b, rfl, ?_⟩)
          by_cases hb : b.toNat ∈ PLAIN
          · exact hb
          · exact absurd (.inr fun z hz => by cases hz; exact hb) h1
      rw [(marks_is mark).mpr hm, Bool.true_and]
      have hpl : plain first = !decide (first.head? = some 48 ∧ 1 < first.length) := by
        unfold plain
        cases first with
        | nil => rfl
        | cons a r =>
          by_cases ha : a = 48
          · subst ha
            cases r with
            | nil => rfl
            | cons y t =>
              rw [decide_eq_true ⟨rfl, by simp⟩]
              simp
          · rw [decide_eq_false (fun h => ha (Option.some.inj h.1))]
            simp [bne, ha]
      rw [hpl]
      by_cases c3 : first.head? = some 48 ∧ 1 < first.length
      · rw [if_pos c3, decide_eq_true c3]
        rfl
      · rw [if_neg c3, decide_eq_false c3]
        cases hx with
        | false =>
          have h0 : ex = [] := by
            cases ex with
            | nil => rfl
            | cons a b => exact absurd (he.mpr (by simp)) (by simp)
          subst h0
          rfl
        | true =>
          have h0 : ex ≠ [] := he.mp rfl
          rw [if_pos h0, exp_same ex neg h0]
          have hl : decide (mark.length = 1) = !mark.isEmpty := by
            rcases hm with h | h | ⟨b, h, _⟩
            · subst h; rfl
            · exact absurd h c
            · subst h; rfl
          show (decide (mark.length = 1) && _) = (plain ex && (decide (ex.length ≤ 5) && (!(neg && ex == [48]) && !mark.isEmpty)))
          rw [hl]
          cases mark.isEmpty <;> cases plain ex <;> cases (decide (ex.length ≤ 5)) <;> cases (!(neg && ex == [48])) <;> rfl
theorem number_same {bs : Bytes} {i : Nat} {c : UInt8} (h : bs[i]? = some c) (hs : isDigit c = true) (hn : isSmall c = false) (hb : isBig c = false) : SameTok bs i (readNumber bs i) (tokenIn i (bs.drop i)) := by
  obtain ⟨hi, hc⟩ := List.getElem?_eq_some_iff.mp h
  have hi' : i ≤ bs.length := Nat.le_of_lt hi
  have hd := drop_at h
  have ho := n_order hi'
  have hz := digits_idx hi'
  have ht : tokenIn i (bs.drop i) = (let z := digitsIn (bs.drop i)
      let w := (bs.drop i).take ((bs.drop i).length - z.2.length)
      if isNumber w = true then .ok (⟨3, i, i + w.length, w⟩, z.2) else .error (1, i)) := by
    conv => lhs; rw [hd]
    unfold tokenIn
    simp only [hs, hn, hb, if_true, Bool.false_eq_true, if_false]
    rw [← hd]
  rw [ht]
  simp only
  rw [hz]
  simp only
  have hw : (bs.drop i).take ((bs.drop i).length - (bs.drop (nF bs i)).length) = cut bs i (nF bs i) := by
    unfold cut
    rw [List.drop_take, List.length_drop, List.length_drop]
    congr 1
    omega
  rw [hw]
  have hlen : (cut bs i (nF bs i)).length = nF bs i - i := cut_length ho.2.2.2.2.2
  have hhead : (cut bs i (nF bs i)).head?.any isDigit = true := by
    have h1 : i < nW bs i := (run_gt h hs).1
    unfold cut
    rw [List.head?_drop, List.getElem?_take, if_pos (by omega), h]
    exact hs
  have hex : (decide (nB bs i < nD bs i) = true) ↔ cut bs (nD bs i) (nR bs i) ≠ [] := by
    have hcl : (cut bs (nD bs i) (nR bs i)).length = nR bs i - nD bs i := cut_length (by omega)
    rw [decide_eq_true_eq]
    constructor
    · intro hlt e0
      have hlen0 := congrArg List.length e0
      rw [hcl, List.length_nil] at hlen0
      have hDe : nD bs i = expAt bs (nB bs i) := rfl
      have hRe : nR bs i = runTo isDigit bs (nD bs i) := rfl
      rcases expAt_cases bs (nB bs i) with ⟨e, _⟩ | ⟨e, _, c2⟩ | ⟨e, _, _, _, c4⟩
      · omega
      · have := (run_digit c2).1
        rw [← e, ← hDe, ← hRe] at this
        omega
      · have := (run_digit c4).1
        rw [← e, ← hDe, ← hRe] at this
        omega
    · intro hne
      rcases Nat.lt_or_ge (nB bs i) (nD bs i) with hlt | hge
      · exact hlt
      · exfalso
        apply hne
        have hDB : nD bs i = nB bs i := by omega
        have hR : nR bs i = nB bs i := by
          show runTo isDigit bs (nD bs i) = _
          rw [hDB]
          unfold nB
          split
          · rename_i c2
            exact run_fix (Nat.le_of_lt (digitAt_lt c2.2))
          · exact run_fix hi'
        exact List.eq_nil_of_length_eq_zero (by rw [hcl]; omega)
  have hright : isNumber (cut bs i (nF bs i)) = (decide (nF bs i - i ≤ 255) && rightNum (cut bs i (nW bs i)) (decide (nW bs i < nB bs i)) (cut bs (nD bs i) (nR bs i)) (decide (nD bs i = nB bs i + 2)) (cut bs (nR bs i) (nF bs i))) := by
    have hq := digits_idx (bs := bs.take (nF bs i)) (i := i) (by rw [List.length_take]; omega)
    obtain ⟨q1, q2, q3, q4, q5⟩ := n_take (bs := bs) (i := i) (n := nF bs i) hi' (Nat.le_refl _)
    rw [q1, q2, q3, q4, q5] at hq
    have hnil : (bs.take (nF bs i)).drop (nF bs i) = [] := List.drop_eq_nil_of_le (by rw [List.length_take]; omega)
    rw [hnil, cut_take (by omega), cut_take (by omega), cut_take (by omega), cut_take (by omega)] at hq
    have hq' : digitsIn (cut bs i (nF bs i)) = _ := hq
    unfold isNumber
    rw [hhead, hlen, hq']
    rw [right_same (cut bs i (nW bs i)) (cut bs (nR bs i) (nF bs i)) (cut bs (nD bs i) (nR bs i)) (cut bs (nW bs i + 1) (nB bs i)) (decide (nW bs i < nB bs i)) (decide (nB bs i < nD bs i)) (decide (nD bs i = nB bs i + 2)) hex]
    simp only [decide_eq_true_eq]
    rfl
  have hrd : readNumber bs i = if rightNum (cut bs i (nW bs i)) (decide (nW bs i < nB bs i)) (cut bs (nD bs i) (nR bs i)) (decide (nD bs i = nB bs i + 2)) (cut bs (nR bs i) (nF bs i)) = true ∧ nF bs i - i ≤ 255 then .ok (signs "NUMBER") (nF bs i) else .bad 1 i := by
    unfold readNumber
    rw [in_digit, in_mark]
    rfl
  rw [hrd, hright, hlen]
  by_cases c1 : rightNum (cut bs i (nW bs i)) (decide (nW bs i < nB bs i)) (cut bs (nD bs i) (nR bs i)) (decide (nD bs i = nB bs i + 2)) (cut bs (nR bs i) (nF bs i)) = true ∧ nF bs i - i ≤ 255
  · rw [if_pos c1, if_pos (by rw [c1.1, decide_eq_true c1.2]; rfl)]
    show Except.ok _ = Except.ok _
    unfold toTok kindOfPart tokBytes
    rw [if_neg (show ¬ signs "NUMBER" = signs "NAME" by decide), if_neg (show ¬ signs "NUMBER" = signs "CODE" by decide), if_pos rfl, if_neg (show ¬ signs "NUMBER" = signs "TEXT" by decide)]
    rw [show i + (nF bs i - i) = nF bs i by omega]
    rfl
  · rw [if_neg c1, if_neg (by
      intro h2
      obtain ⟨h3, h4⟩ := Bool.and_eq_true_iff.mp h2
      exact c1 ⟨h4, of_decide_eq_true h3⟩)]
    rfl
end La
set_option maxHeartbeats 200000
/-! Signs, and all tokens; no library. -/
namespace La
open EwTree
def T2 : List Bytes := ["->", "==", "!=", "<=", ">=", "//", ".."].map word
def T1 : List Bytes := ["(", ")", "[", "]", "{", "}", ",", ":", ".", "=", "<", ">", "+", "-", "*", "/", "%", "^"].map word
theorem signs_split : SIGNS = T2 ++ T1 := by decide +kernel
theorem find_len {n : Nat} {l : Bytes} : ∀ {L : List Bytes}, (∀ s ∈ L, s.length = n) → L.find? (fun s => s.isPrefixOf l) = if n ≤ l.length ∧ l.take n ∈ L then some (l.take n) else none
  | [], _ => by simp
  | s :: r, h => by
    have hs := h s (by simp)
    have ih := find_len (n := n) (l := l) (L := r) fun x hx => h x (by simp [hx])
    rw [List.find?_cons, ih]
    cases c : s.isPrefixOf l with
    | true =>
      have h1 : s <+: l := List.isPrefixOf_iff_prefix.mp c
      have h2 : s = l.take n := by
        rw [← hs]
        exact List.prefix_iff_eq_take.mp h1
      have h3 : n ≤ l.length := by
        rw [← hs]
        exact h1.length_le
      have hm : l.take n ∈ s :: r := by
        rw [← h2]
        exact List.mem_cons_self ..
      exact (congrArg some h2).trans (if_pos ⟨h3, hm⟩).symm
    | false =>
      have hne : ¬ (n ≤ l.length ∧ s = l.take n) := by
        rintro ⟨h3, h2⟩
        have : s <+: l := by
          rw [h2]
          exact List.take_prefix n l
        rw [List.isPrefixOf_iff_prefix.mpr this] at c
        cases c
      by_cases c2 : n ≤ l.length ∧ l.take n ∈ r
      · rw [if_pos c2, if_pos ⟨c2.1, by simp [c2.2]⟩]
      · rw [if_neg c2, if_neg]
        rintro ⟨h3, h4⟩
        rcases List.mem_cons.mp h4 with h5 | h5
        · exact hne ⟨h3, h5.symm⟩
        · exact c2 ⟨h3, h5⟩
theorem lookup_mem {k z : List Nat} : ∀ {l : List (List Nat × List Nat)}, l.lookup k = some z → (k, z) ∈ l
  | [], h => by cases h
  | (a, b) :: r, h => by
    simp only [List.lookup] at h
    split at h
    · rename_i hk
      have e := eq_of_beq hk
      cases h
      rw [e]
      simp
    · exact List.mem_cons_of_mem _ (lookup_mem h)
theorem lookup_some {k : List Nat} : ∀ {l : List (List Nat × List Nat)}, k ∈ l.map (·.1) → ∃ z, l.lookup k = some z
  | [], h => by simp at h
  | (a, b) :: r, h => by
    simp only [List.lookup]
    split
    · exact ⟨b, rfl⟩
    · rename_i hk
      rcases List.mem_cons.mp h with h1 | h1
      · have : k = a := h1
        rw [this, beq_self_eq_true] at hk
        cases hk
      · exact lookup_some h1
theorem codes_len (b : Bytes) : (codes b).length = b.length := List.length_map ..
theorem mem_codes {b : Bytes} {L : List Bytes} : codes b ∈ L.map codes ↔ b ∈ L := by
  rw [List.mem_map]
  constructor
  · rintro ⟨a, ha, e⟩
    rw [← codes_inj e]
    exact ha
  · intro h
    exact ⟨b, h, rfl⟩
theorem keys2 {b : Bytes} (h : b.length = 2) : codes b ∈ sgM.map (·.1) ↔ b ∈ T2 := by
  have a1 : ((sgM.map (·.1)).all fun k => !decide (k.length = 2) || decide (k ∈ T2.map codes)) = true := by decide +kernel
  have a2 : ((T2.map codes).all fun k => decide (k ∈ sgM.map (·.1))) = true := by decide +kernel
  constructor
  · intro hk
    have q := List.all_eq_true.mp a1 _ hk
    rw [codes_len, h] at q
    exact mem_codes.mp (of_decide_eq_true (by simpa using q))
  · intro hb
    exact of_decide_eq_true (List.all_eq_true.mp a2 _ (mem_codes.mpr hb))
theorem keys1 {b : Bytes} (h : b.length = 1) : codes b ∈ sgM.map (·.1) ↔ b ∈ T1 := by
  have a1 : ((sgM.map (·.1)).all fun k => !decide (k.length = 1) || decide (k ∈ T1.map codes)) = true := by decide +kernel
  have a2 : ((T1.map codes).all fun k => decide (k ∈ sgM.map (·.1))) = true := by decide +kernel
  constructor
  · intro hk
    have q := List.all_eq_true.mp a1 _ hk
    rw [codes_len, h] at q
    exact mem_codes.mp (of_decide_eq_true (by simpa using q))
  · intro hb
    exact of_decide_eq_true (List.all_eq_true.mp a2 _ (mem_codes.mpr hb))
theorem sign_kind {k z : List Nat} (h : sgM.lookup k = some z) : kindOfPart z = 5 ∧ z ≠ signs "TEXT" ∧ z ≠ signs "#" := by
  have a : (sgM.all fun x => decide (kindOfPart x.2 = 5 ∧ x.2 ≠ signs "TEXT" ∧ x.2 ≠ signs "#")) = true := by decide +kernel
  exact of_decide_eq_true (List.all_eq_true.mp a _ (lookup_mem h))
theorem sign_same {bs : Bytes} {i : Nat} {c : UInt8} (h : bs[i]? = some c) (h1 : isSmall c = false) (h2 : isBig c = false) (h3 : isDigit c = false) (h4 : c ≠ 34) : SameTok bs i (readSign bs i) (tokenIn i (bs.drop i)) := by
  obtain ⟨hi, hc⟩ := List.getElem?_eq_some_iff.mp h
  have hd := drop_at h
  have ht : tokenIn i (bs.drop i) = (match SIGNS.find? fun (s : Bytes) => s.isPrefixOf (bs.drop i) with
      | some s => .ok (⟨5, i, i + s.length, s⟩, (bs.drop i).drop s.length)
      | none => .error (1, i)) := by
    conv => lhs; rw [hd]
    unfold tokenIn
    simp only [h1, h2, h3, h4, if_true, Bool.false_eq_true, if_false]
    rw [← hd]
    rfl
  have hlen : (bs.drop i).length = bs.length - i := List.length_drop ..
  have ecut : ∀ n, (bs.take (i + n)).drop i = (bs.drop i).take n := fun n => by
    rw [List.drop_take, Nat.add_sub_cancel_left]
  have l2 : ∀ s ∈ T2, s.length = 2 := fun s hs => by
    have a : (T2.all fun s => decide (s.length = 2)) = true := by decide +kernel
    exact of_decide_eq_true (List.all_eq_true.mp a s hs)
  have l1 : ∀ s ∈ T1, s.length = 1 := fun s hs => by
    have a : (T1.all fun s => decide (s.length = 1)) = true := by decide +kernel
    exact of_decide_eq_true (List.all_eq_true.mp a s hs)
  have hf : SIGNS.find? (fun (s : Bytes) => s.isPrefixOf (bs.drop i)) = if 2 ≤ (bs.drop i).length ∧ (bs.drop i).take 2 ∈ T2 then some ((bs.drop i).take 2) else if (bs.drop i).take 1 ∈ T1 then some ((bs.drop i).take 1) else none := by
    rw [signs_split, List.find?_append, find_len l2, find_len l1]
    by_cases c2 : 2 ≤ (bs.drop i).length ∧ (bs.drop i).take 2 ∈ T2
    · rw [if_pos c2, if_pos c2]
      rfl
    · rw [if_neg c2, if_neg c2]
      have e1 : (1 ≤ (bs.drop i).length ∧ (bs.drop i).take 1 ∈ T1) = ((bs.drop i).take 1 ∈ T1) := by
        apply propext
        constructor
        · exact fun h => h.2
        · exact fun h => ⟨by omega, h⟩
      simp only [e1]
      rfl
  have tk1 : ((bs.drop i).take 1).length = 1 := by
    rw [List.length_take, hlen]
    omega
  have ok_same : ∀ (n : Nat) (z : List Nat), sgM.lookup (codes ((bs.drop i).take n)) = some z → n ≤ (bs.drop i).length → SameTok bs i (.ok z (i + n)) (.ok (⟨5, i, i + ((bs.drop i).take n).length, (bs.drop i).take n⟩, (bs.drop i).drop ((bs.drop i).take n).length)) := by
    intro n z hz hn
    obtain ⟨k1, k2, _⟩ := sign_kind hz
    have hln : ((bs.drop i).take n).length = n := by
      rw [List.length_take]
      omega
    show Except.ok _ = Except.ok _
    unfold toTok tokBytes
    rw [hln]
    simp only [k1, if_neg k2, ecut, List.drop_drop]
  rw [ht, hf]
  unfold readSign
  rw [ecut, ecut]
  by_cases c2 : 2 ≤ (bs.drop i).length ∧ (bs.drop i).take 2 ∈ T2
  · have tk2 : ((bs.drop i).take 2).length = 2 := by
      rw [List.length_take]
      omega
    obtain ⟨z, hz⟩ := lookup_some ((keys2 tk2).mpr c2.2)
    rw [if_pos c2, hz, decide_eq_true (by omega)]
    exact ok_same 2 z hz c2.1
  · rw [if_neg c2]
    have tail : SameTok bs i (match sgM.lookup (codes ((bs.drop i).take 1)), decide (i + 1 ≤ bs.length) with
        | some z, true => RP.ok z (i + 1)
        | _, _ => .bad 1 i) (match (if (bs.drop i).take 1 ∈ T1 then some ((bs.drop i).take 1) else none : Option Bytes) with
      | some s => .ok (⟨5, i, i + s.length, s⟩, (bs.drop i).drop s.length)
      | none => .error (1, i)) := by
      rw [decide_eq_true (show i + 1 ≤ bs.length by omega)]
      by_cases c1 : (bs.drop i).take 1 ∈ T1
      · obtain ⟨z, hz⟩ := lookup_some ((keys1 tk1).mpr c1)
        rw [if_pos c1, hz]
        exact ok_same 1 z hz (by omega)
      · rw [if_neg c1]
        cases hz : sgM.lookup (codes ((bs.drop i).take 1)) with
        | none => rfl
        | some z => exact absurd ((keys1 tk1).mp (List.mem_map.mpr ⟨_, lookup_mem hz, rfl⟩)) c1
    cases hz : sgM.lookup (codes ((bs.drop i).take 2)) with
    | none => exact tail
    | some z =>
      cases hl : decide (i + 2 ≤ bs.length) with
      | false => exact tail
      | true =>
        exfalso
        have hl2 := of_decide_eq_true hl
        have tk2 : ((bs.drop i).take 2).length = 2 := by
          rw [List.length_take]
          omega
        exact c2 ⟨by omega, (keys2 tk2).mp (List.mem_map.mpr ⟨_, lookup_mem hz, rfl⟩)⟩
/-- **a token's reader is the specification's** -/
theorem part_same {bs : Bytes} {i : Nat} {c : UInt8} (h : bs[i]? = some c) (hc : c ≠ 35) : SameTok bs i (readPart bs i) (tokenIn i (bs.drop i)) := by
  have ex := all_bytes (P := fun b => !(isSmall b && isBig b) && (!(isSmall b && isDigit b) && (!(isBig b && isDigit b)))) (by decide +kernel) c
  simp only [Bool.and_eq_true, Bool.not_eq_true', Bool.and_eq_false_iff] at ex
  obtain ⟨x1, x2, x3⟩ := ex
  unfold readPart
  rw [h]
  simp only
  rw [if_neg hc]
  by_cases c1 : isSmall c = true
  · rw [if_pos ((sg_small c).mpr c1)]
    exact word_same h c1
  · have c1' : isSmall c = false := by simpa using c1
    rw [if_neg fun h => c1 ((sg_small c).mp h)]
    by_cases c2 : isBig c = true
    · rw [if_pos ((sg_big c).mpr c2)]
      exact code_same h c2 c1'
    · have c2' : isBig c = false := by simpa using c2
      rw [if_neg fun h => c2 ((sg_big c).mp h)]
      by_cases c3 : isDigit c = true
      · rw [if_pos ((sg_digit c).mpr c3)]
        exact number_same h c3 c1' c2'
      · have c3' : isDigit c = false := by simpa using c3
        rw [if_neg fun h => c3 ((sg_digit c).mp h)]
        by_cases c4 : c = 34
        · rw [if_pos c4]
          subst c4
          exact text_same h
        · rw [if_neg c4]
          exact sign_same h c1' c2' c3' c4
end La
set_option maxHeartbeats 200000
/-! All tokens of a text are the scanner's parts that are no comments; no library. -/
namespace La
open EwTree
theorem scan_fuel {bs : Bytes} : ∀ (m m' i : Nat), bs.length < i + m → bs.length < i + m' → scanAt bs m i = scanAt bs m' i := by
  intro m
  induction m with
  | zero =>
    intro m' i h h'
    have hb : bs[i]? = none := List.getElem?_eq_none (by omega)
    cases m' with
    | zero => rfl
    | succ m' => rw [scan_none hb]; rfl
  | succ m ih =>
    intro m' i h h'
    cases hb : bs[i]? with
    | none =>
      rw [scan_none hb]
      cases m' with
      | zero => rfl
      | succ m' => rw [scan_none hb]
    | some c =>
      have hi := (List.getElem?_eq_some_iff.mp hb).1
      obtain ⟨m', rfl⟩ : ∃ k, m' = k + 1 := ⟨m' - 1, by omega⟩
      by_cases hc : c.toNat ∈ BLANK
      · rw [scan_blank hb hc, scan_blank hb hc]
        exact ih m' (i + 1) (by omega) (by omega)
      · cases hr : readPart bs i with
        | bad r p => rw [scan_bad hb hc hr, scan_bad hb hc hr]
        | ok k e =>
          have hbd := readPart_bd hr
          rw [scan_ok hb hc hr, scan_ok hb hc hr, ih m' e (by omega) (by omega)]
theorem scan_skip {bs : Bytes} {f : Nat} : ∀ (n i : Nat), (∀ t, i ≤ t → t < i + n → bs[t]? = some 32) → bs.length < i + f → scanAt bs f i = scanAt bs f (i + n)
  | 0, i, _, _ => rfl
  | n + 1, i, h, hf => by
    have hb := h i (Nat.le_refl _) (by omega)
    have hi := (List.getElem?_eq_some_iff.mp hb).1
    obtain ⟨f', rfl⟩ : ∃ k, f = k + 1 := ⟨f - 1, by omega⟩
    rw [scan_blank hb (by decide), scan_fuel f' (f' + 1) (i + 1) (by omega) (by omega)]
    have ih := scan_skip (bs := bs) (f := f' + 1) n (i + 1) (fun t h1 h2 => h t (by omega) (by omega)) (by omega)
    rw [ih]
    congr 1
    omega
theorem cEnd_is : ∀ (l : Bytes) (j : Nat), cEnd j l = (match (l.takeWhile fun (x : UInt8) => x != 10).findIdx? (fun (x : UInt8) => !isSeen x) with
    | some k => (false, j + k)
    | none => (true, j + (l.takeWhile fun (x : UInt8) => x != 10).length))
  | [], j => rfl
  | c :: r, j => by
    unfold cEnd
    by_cases h10 : c = 10
    · subst h10
      rw [if_pos rfl, List.takeWhile_cons, if_neg (by decide)]
      rfl
    · have hne : (c != 10) = true := by simp [h10]
      rw [if_neg h10, List.takeWhile_cons, if_pos hne, List.findIdx?_cons]
      by_cases hs : isSeen c = true
      · rw [if_pos hs, hs, cEnd_is r (j + 1)]
        generalize (r.takeWhile fun (x : UInt8) => x != 10) = q
        cases hq : q.findIdx? (fun (x : UInt8) => !isSeen x) with
        | none =>
          show (true, j + 1 + q.length) = (true, j + (q.length + 1))
          rw [show j + 1 + q.length = j + (q.length + 1) by omega]
        | some k =>
          show (false, j + 1 + k) = (false, j + (k + 1))
          rw [show j + 1 + k = j + (k + 1) by omega]
      · have hs' : isSeen c = false := by simpa using hs
        rw [if_neg hs, hs']
        rfl
theorem cBack_blank {bs : Bytes} : ∀ (j t : Nat), cBack bs j ≤ t → t < j → bs[t]? = some 32
  | 0, t, _, h => absurd h (by omega)
  | j + 1, t, h1, h2 => by
    unfold cBack at h1
    split at h1
    · rename_i h32
      rcases Nat.lt_or_ge t j with h | h
      · exact cBack_blank j t h1 h
      · have : t = j := by omega
        rw [this]
        exact h32
    · omega
def isCom (p : Part) : Bool := decide (p.kind = signs "#")
def toks (bs : Bytes) (x : List Part × Option (Nat × Nat)) : List Tok × Option Fault := ((x.1.filter fun p => !isCom p).map (toTok bs), x.2)
theorem not_com {bs : Bytes} {i : Nat} {c : UInt8} {k : List Nat} {e : Nat} (h : bs[i]? = some c) (hc : c ≠ 35) (hr : readPart bs i = .ok k e) : k ≠ signs "#" := by
  have hkey : signs "#" ∉ keyL := by decide +kernel
  unfold readPart at hr
  rw [h] at hr
  simp only at hr
  rw [if_neg hc] at hr
  split at hr
  · unfold readWord at hr
    simp only at hr
    split at hr
    · rename_i h2
      cases hr
      intro e0
      rw [e0] at h2
      exact hkey h2.2
    · split at hr
      · cases hr
        decide
      · cases hr
  · split at hr
    · unfold readCode at hr
      simp only at hr
      split at hr
      · cases hr
        decide
      · cases hr
    · split at hr
      · unfold readNumber at hr
        simp only at hr
        generalize runTo (inL (signs "0")) bs i = wh at hr
        generalize (if byteAt bs wh = 46 ∧ digitAt bs (wh + 1) = true then runTo (inL (signs "0")) bs (wh + 1) else wh) = br at hr
        generalize expAt bs br = dg at hr
        generalize runTo (inL (signs "0")) bs dg = ra at hr
        generalize runTo (inL (signs "aA0_")) bs ra = fi at hr
        split at hr
        · cases hr
          decide
        · cases hr
      · split at hr
        · have gen : ∀ f p c, textAt bs f p c = .ok k e → k = signs "TEXT" := by
            intro f
            induction f with
            | zero => intro p c h; cases h
            | succ f ih =>
              intro p c h
              unfold textAt at h
              split at h
              · cases h
              · split at h
                · cases h
                  rfl
                · split at h
                  · cases h
                  · split at h
                    · cases h
                    · split at h
                      · cases h
                      · exact ih _ _ h
          rw [gen _ _ _ hr]
          decide
        · unfold readSign at hr
          split at hr
          · rename_i z hz _
            cases hr
            exact (sign_kind hz).2.2
          · split at hr
            · rename_i z hz _
              cases hr
              exact (sign_kind hz).2.2
            · cases hr
theorem tokens_scan {bs : Bytes} : ∀ (f i : Nat), i ≤ bs.length → bs.length < i + f → tokensIn f i (bs.drop i) = toks bs (scanAt bs f i)
  | 0, i, h1, h2 => by omega
  | f + 1, i, h1, h2 => by
    cases hb : bs[i]? with
    | none =>
      rw [drop_none hb, scan_none hb]
      rfl
    | some c =>
      have hi := (List.getElem?_eq_some_iff.mp hb).1
      rw [drop_at hb]
      by_cases hc : isBlank c = true
      · have e1 : tokensIn (f + 1) i (c :: bs.drop (i + 1)) = tokensIn f (i + 1) (bs.drop (i + 1)) := by
          conv => lhs; unfold tokensIn
          rw [if_pos hc]
        rw [e1, scan_blank hb ((blank_is c).mpr hc)]
        exact tokens_scan f (i + 1) (by omega) (by omega)
      · have hc' : c.toNat ∉ BLANK := fun h => hc ((blank_is c).mp h)
        by_cases h35 : c = 35
        · subst h35
          have e1 : tokensIn (f + 1) i (35 :: bs.drop (i + 1)) = (match ((bs.drop (i + 1)).takeWhile fun (x : UInt8) => x != 10).findIdx? (fun (x : UInt8) => !isSeen x) with
              | some k => ([], some (1, i + 1 + k))
              | none => tokensIn f (i + 1 + ((bs.drop (i + 1)).takeWhile fun (x : UInt8) => x != 10).length) ((bs.drop (i + 1)).drop ((bs.drop (i + 1)).takeWhile fun (x : UInt8) => x != 10).length)) := by
            conv => lhs; unfold tokensIn
            rw [if_neg hc, if_pos rfl]
            rfl
          have e2 : readPart bs i = readComment bs i := by
            unfold readPart
            rw [hb]
            rfl
          have e3 : cEnd i (bs.drop i) = cEnd (i + 1) (bs.drop (i + 1)) := by
            rw [drop_at hb]
            rfl
          have e4 := cEnd_is (bs.drop (i + 1)) (i + 1)
          rw [e1]
          have hql : i + 1 + ((bs.drop (i + 1)).takeWhile fun (x : UInt8) => x != 10).length ≤ bs.length := by
            have := (List.takeWhile_sublist (fun (x : UInt8) => x != 10) (l := bs.drop (i + 1))).length_le
            rw [List.length_drop] at this
            omega
          generalize ((bs.drop (i + 1)).takeWhile fun (x : UInt8) => x != 10) = q at *
          cases hq : q.findIdx? (fun (x : UInt8) => !isSeen x) with
          | some k =>
            rw [hq] at e4
            have e5 : readPart bs i = .bad 1 (i + 1 + k) := by
              rw [e2]
              unfold readComment
              rw [e3, e4]
              rfl
            rw [scan_bad hb hc' e5]
            rfl
          | none =>
            rw [hq] at e4
            have e5 : readPart bs i = .ok (signs "#") (cBack bs (i + 1 + q.length)) := by
              rw [e2]
              unfold readComment
              rw [e3, e4]
              rfl
            have hbd := readPart_bd e5
            have hbk := cBack_bd hb (i + 1 + q.length) (by omega)
            have ih := tokens_scan (bs := bs) f (i + 1 + q.length) hql (by omega)
            show tokensIn f (i + 1 + q.length) ((bs.drop (i + 1)).drop q.length) = _
            rw [List.drop_drop, ih, scan_ok hb hc' e5]
            have e6 := scan_skip (bs := bs) (f := f) (i + 1 + q.length - cBack bs (i + 1 + q.length)) (cBack bs (i + 1 + q.length)) (fun t h1 h2 => cBack_blank _ t h1 (by omega)) (by omega)
            rw [show cBack bs (i + 1 + q.length) + (i + 1 + q.length - cBack bs (i + 1 + q.length)) = i + 1 + q.length by omega] at e6
            rw [e6]
            rfl
        · have e1 : tokensIn (f + 1) i (c :: bs.drop (i + 1)) = (match tokenIn i (c :: bs.drop (i + 1)) with
              | .error e => ([], some e)
              | .ok (t, s) => (t :: (tokensIn f t.halt_ s).1, (tokensIn f t.halt_ s).2)) := by
            conv => lhs; unfold tokensIn
            rw [if_neg hc, if_neg h35]
            rfl
          rw [e1, ← drop_at hb]
          have ps := part_same hb h35
          cases hr : readPart bs i with
          | bad r p =>
            rw [hr] at ps
            have ps' : tokenIn i (bs.drop i) = .error (r, p) := ps
            rw [ps', scan_bad hb hc' hr]
            rfl
          | ok k e =>
            rw [hr] at ps
            have ps' : tokenIn i (bs.drop i) = .ok (toTok bs ⟨k, i, e⟩, bs.drop e) := ps
            have hbd := readPart_bd hr
            have ih := tokens_scan (bs := bs) f e hbd.2 (by omega)
            rw [ps', scan_ok hb hc' hr]
            show (toTok bs ⟨k, i, e⟩ :: (tokensIn f e (bs.drop e)).1, (tokensIn f e (bs.drop e)).2) = _
            rw [ih]
            unfold toks
            have hk : isCom ⟨k, i, e⟩ = false := decide_eq_false (not_com hb h35 hr)
            simp only [List.filter_cons, hk, Bool.not_false, if_true, List.map_cons]
/-- **the specification's tokens are the scanner's** -/
theorem tokens_is (bs : Bytes) : tokens bs = toks bs (scan bs) := by
  have h := tokens_scan (bs := bs) (bs.length + 1) 0 (Nat.zero_le _) (by omega)
  exact h
end La
set_option maxHeartbeats 200000
/-! All elements of a text without a fault are the scanner's parts; no library. -/
namespace La
open EwTree EwNeat
def elsOf : Nat → List Part → List El
  | _, [] => []
  | k, p :: r => if isCom p = true then ⟨p.lo, p.hi, none⟩ :: elsOf k r else ⟨p.lo, p.hi, some k⟩ :: elsOf (k + 1) r
theorem coms_fuel : ∀ (f f' p : Nat) (l : Bytes), l.length < f → l.length < f' → commentsFrom f p l = commentsFrom f' p l := by
  intro f
  induction f with
  | zero => intro f' p l h; omega
  | succ f ih =>
    intro f' p l h h'
    obtain ⟨f', rfl⟩ : ∃ k, f' = k + 1 := ⟨f' - 1, by omega⟩
    cases l with
    | nil => rfl
    | cons c r =>
      unfold commentsFrom
      rw [List.length_cons] at h h'
      split
      · rename_i hc
        have hlen : ((c :: r).drop ((c :: r).takeWhile fun (x : UInt8) => x != 10).length).length ≤ r.length := by
          rw [List.length_drop, List.takeWhile_cons, if_pos (by rw [hc]; decide), List.length_cons, List.length_cons]
          omega
        simp only
        rw [ih f' _ _ (by omega) (by omega)]
      · exact ih f' _ _ (by omega) (by omega)
theorem btw_nil {bs : Bytes} {a b : Nat} (h : b ≤ a) : between bs a b = [] := by
  unfold between
  rw [show b - a = 0 by omega, List.take_zero]
theorem btw_cons {bs : Bytes} {a b : Nat} {c : UInt8} (h : bs[a]? = some c) (hab : a < b) : between bs a b = c :: between bs (a + 1) b := by
  unfold between
  rw [drop_at h, show b - a = (b - (a + 1)) + 1 by omega, List.take_succ_cons]
theorem btw_len {bs : Bytes} {a b : Nat} : (between bs a b).length ≤ b - a := by
  unfold between
  rw [List.length_take]
  omega
theorem coms_nil {bs : Bytes} {a b : Nat} (h : b ≤ a) : commentsIn bs a b = [] := by
  unfold commentsIn
  rw [btw_nil h]
  rfl
theorem coms_skip {bs : Bytes} {a b : Nat} {c : UInt8} (h : bs[a]? = some c) (hc : c ≠ 35) (hab : a < b) : commentsIn bs a b = commentsIn bs (a + 1) b := by
  unfold commentsIn
  rw [btw_cons h hab, show b - a + 1 = (b - (a + 1) + 1) + 1 by omega]
  conv => lhs; unfold commentsFrom
  rw [if_neg hc]
theorem coms_com {bs : Bytes} {a b : Nat} (h : bs[a]? = some 35) (q : Bytes) (hq : (bs.drop (a + 1)).takeWhile (fun (x : UInt8) => x != 10) = q) (hb : a + 1 + q.length ≤ b) :
    commentsIn bs a b = ⟨a, a + (bare (35 :: q)).length, none⟩ :: commentsIn bs (a + 1 + q.length) b := by
  have hl : (between bs a b).takeWhile (fun (x : UInt8) => x != 10) = 35 :: q := by
    rw [btw_cons h (by omega), List.takeWhile_cons, if_pos (by decide)]
    congr 1
    unfold between
    rw [takeWhile_take _ _ (by rw [hq]; omega), hq]
  have hd : (between bs a b).drop (q.length + 1) = between bs (a + 1 + q.length) b := by
    unfold between
    rw [List.drop_take, List.drop_drop]
    congr 1
    · omega
    · congr 1
      omega
  unfold commentsIn
  have hcons := btw_cons h (show a < b by omega)
  generalize hbt : between bs a b = l at *
  subst hcons
  conv => lhs; unfold commentsFrom
  rw [if_pos rfl]
  simp only
  rw [hl, List.length_cons, hd]
  congr 1
  rw [show a + (q.length + 1) = a + 1 + q.length by omega]
  exact coms_fuel _ _ _ _ (by have := @btw_len bs (a + 1 + q.length) b; omega) (by have := @btw_len bs (a + 1 + q.length) b; omega)
theorem bare_back {bs : Bytes} {a : Nat} (h : bs[a]? = some 35) : ∀ n, a + (n + 1) ≤ bs.length → cBack bs (a + (n + 1)) = a + (bare ((bs.drop a).take (n + 1))).length := by
  intro n
  induction n with
  | zero =>
    intro _
    have e1 : (bs.drop a).take 1 = [35] := by rw [drop_at h]; rfl
    rw [e1]
    show (if bs[a]? = some 32 then _ else a + 1) = _
    rw [h, if_neg (by decide)]
    rfl
  | succ n ih =>
    intro hlen
    have hlt : a + (n + 1) < bs.length := by omega
    have hg : bs[a + (n + 1)]? = some bs[a + (n + 1)] := List.getElem?_eq_getElem hlt
    have e1 : (bs.drop a).take (n + 1 + 1) = (bs.drop a).take (n + 1) ++ [bs[a + (n + 1)]] := by
      rw [List.take_add_one, List.getElem?_drop, hg]
      rfl
    rw [e1]
    show (if bs[a + (n + 1)]? = some 32 then cBack bs (a + (n + 1)) else a + (n + 1) + 1) = _
    rw [hg]
    unfold bare
    rw [List.reverse_append, List.reverse_singleton, List.singleton_append, List.dropWhile_cons]
    by_cases c : bs[a + (n + 1)] = 32
    · rw [if_pos (by rw [c]), if_pos (by rw [c]; rfl)]
      exact ih (by omega)
    · rw [if_neg fun h => c (Option.some.inj h), if_neg (by simpa using c)]
      rw [List.length_reverse, List.length_cons, List.length_reverse, List.length_take, List.length_drop]
      omega
theorem scan_lo {bs : Bytes} : ∀ (f i : Nat), ∀ p ∈ (scanAt bs f i).1, i ≤ p.lo
  | 0, i, p, hp => by simp [scanAt] at hp
  | f + 1, i, p, hp => by
    cases hb : bs[i]? with
    | none =>
      rw [scan_none hb] at hp
      simp at hp
    | some c =>
      by_cases hc : c.toNat ∈ BLANK
      · rw [scan_blank hb hc] at hp
        have := scan_lo f (i + 1) p hp
        omega
      · cases hr : readPart bs i with
        | bad r x =>
          rw [scan_bad hb hc hr] at hp
          simp at hp
        | ok k e =>
          have hbd := readPart_bd hr
          rw [scan_ok hb hc hr] at hp
          rcases List.mem_cons.mp hp with h | h
          · rw [h]
            exact Nat.le_refl _
          · have := scan_lo f e p h
            omega
theorem toks_lo {bs : Bytes} {f i : Nat} : ∀ x ∈ (toks bs (scanAt bs f i)).1, i ≤ x.place := by
  intro x hx
  unfold toks at hx
  obtain ⟨p, hp, rfl⟩ := List.mem_map.mp hx
  exact scan_lo f i p (List.mem_filter.mp hp).1
theorem els_skip {bs : Bytes} {a k : Nat} {c : UInt8} {T : List Tok} (h : bs[a]? = some c) (hc : c ≠ 35) (hT : ∀ x ∈ T, a + 1 ≤ x.place) : elementsFrom bs a k T = elementsFrom bs (a + 1) k T := by
  have hi := (List.getElem?_eq_some_iff.mp h).1
  cases T with
  | nil => exact coms_skip h hc hi
  | cons x r =>
    have := hT x (List.mem_cons_self ..)
    unfold elementsFrom
    rw [coms_skip h hc (by omega)]
theorem els_com {bs : Bytes} {a k : Nat} {T : List Tok} (h : bs[a]? = some 35) (q : Bytes) (hq : (bs.drop (a + 1)).takeWhile (fun (x : UInt8) => x != 10) = q) (hql : a + 1 + q.length ≤ bs.length) (hT : ∀ x ∈ T, a + 1 + q.length ≤ x.place) :
    elementsFrom bs a k T = ⟨a, a + (bare (35 :: q)).length, none⟩ :: elementsFrom bs (a + 1 + q.length) k T := by
  cases T with
  | nil => exact coms_com h q hq hql
  | cons x r =>
    have := hT x (List.mem_cons_self ..)
    unfold elementsFrom
    rw [coms_com h q hq this, List.cons_append]
theorem els_scan {bs : Bytes} : ∀ (f i k : Nat), i ≤ bs.length → bs.length < i + f → (scanAt bs f i).2 = none → elementsFrom bs i k (toks bs (scanAt bs f i)).1 = elsOf k (scanAt bs f i).1
  | 0, i, k, h1, h2, _ => by omega
  | f + 1, i, k, h1, h2, hn => by
    cases hb : bs[i]? with
    | none =>
      rw [scan_none hb]
      exact coms_nil (List.getElem?_eq_none_iff.mp hb)
    | some c =>
      have hi := (List.getElem?_eq_some_iff.mp hb).1
      by_cases hc : c.toNat ∈ BLANK
      · rw [scan_blank hb hc] at hn ⊢
        have hne : c ≠ 35 := by
          intro e
          rw [e] at hc
          exact absurd hc (by decide)
        rw [els_skip hb hne (fun x hx => toks_lo x hx)]
        exact els_scan f (i + 1) k (by omega) (by omega) hn
      · cases hr : readPart bs i with
        | bad r p =>
          rw [scan_bad hb hc hr] at hn
          cases hn
        | ok kd e =>
          have hbd := readPart_bd hr
          rw [scan_ok hb hc hr] at hn ⊢
          by_cases h35 : c = 35
          · subst h35
            -- a comment
            have e2 : readPart bs i = readComment bs i := by
              unfold readPart
              rw [hb]
              rfl
            have e3 : cEnd i (bs.drop i) = cEnd (i + 1) (bs.drop (i + 1)) := by
              rw [drop_at hb]
              rfl
            have e4 := cEnd_is (bs.drop (i + 1)) (i + 1)
            have hql : i + 1 + ((bs.drop (i + 1)).takeWhile fun (x : UInt8) => x != 10).length ≤ bs.length := by
              have := (List.takeWhile_sublist (fun (x : UInt8) => x != 10) (l := bs.drop (i + 1))).length_le
              rw [List.length_drop] at this
              omega
            have htk : (bs.drop i).take (((bs.drop (i + 1)).takeWhile fun (x : UInt8) => x != 10).length + 1) = 35 :: ((bs.drop (i + 1)).takeWhile fun (x : UInt8) => x != 10) := by
              rw [drop_at hb, List.take_succ_cons]
              congr 1
              exact (List.prefix_iff_eq_take.mp (List.takeWhile_prefix _)).symm
            generalize hq : ((bs.drop (i + 1)).takeWhile fun (x : UInt8) => x != 10) = q at *
            cases hf : q.findIdx? (fun (x : UInt8) => !isSeen x) with
            | some n =>
              rw [hf] at e4
              rw [e2] at hr
              unfold readComment at hr
              rw [e3, e4] at hr
              cases hr
            | none =>
              rw [hf] at e4
              have e5 : RP.ok kd e = .ok (signs "#") (cBack bs (i + 1 + q.length)) := by
                rw [← hr, e2]
                unfold readComment
                rw [e3, e4]
                rfl
              obtain ⟨rfl, rfl⟩ : kd = signs "#" ∧ e = cBack bs (i + 1 + q.length) := by
                injection e5 with h1 h2
                exact ⟨h1, h2⟩
              have hbk := cBack_bd hb (i + 1 + q.length) (by omega)
              have e6 := scan_skip (bs := bs) (f := f) (i + 1 + q.length - cBack bs (i + 1 + q.length)) (cBack bs (i + 1 + q.length)) (fun t h1 h2 => cBack_blank _ t h1 (by omega)) (by omega)
              rw [show cBack bs (i + 1 + q.length) + (i + 1 + q.length - cBack bs (i + 1 + q.length)) = i + 1 + q.length by omega] at e6
              rw [e6] at hn ⊢
              have ih := els_scan (bs := bs) f (i + 1 + q.length) k hql (by omega) hn
              have ebb := bare_back hb q.length (by omega)
              rw [htk] at ebb
              have et : (toks bs (⟨signs "#", i, cBack bs (i + 1 + q.length)⟩ :: (scanAt bs f (i + 1 + q.length)).1, (scanAt bs f (i + 1 + q.length)).2)).1 = (toks bs (scanAt bs f (i + 1 + q.length))).1 := rfl
              rw [et, els_com hb q hq hql (fun x hx => toks_lo x hx), ih, ← ebb]
              rw [show i + (q.length + 1) = i + 1 + q.length by omega]
              exact (if_pos (show isCom ⟨signs "#", i, cBack bs (i + 1 + q.length)⟩ = true from rfl)).symm
          · have hk : isCom ⟨kd, i, e⟩ = false := decide_eq_false (not_com hb h35 hr)
            have ih := els_scan (bs := bs) f e (k + 1) hbd.2 (by omega) hn
            have et : (toks bs (⟨kd, i, e⟩ :: (scanAt bs f e).1, (scanAt bs f e).2)).1 = toTok bs ⟨kd, i, e⟩ :: (toks bs (scanAt bs f e)).1 := by
              unfold toks
              simp only [List.filter_cons, hk, Bool.not_false, if_true, List.map_cons]
            rw [et]
            show commentsIn bs i i ++ (⟨i, e, some k⟩ :: elementsFrom bs e (k + 1) (toks bs (scanAt bs f e)).1) = elsOf k (_ :: _)
            rw [coms_nil (Nat.le_refl _), ih]
            conv => rhs; unfold elsOf
            rw [if_neg (by rw [hk]; simp)]
            rfl
/-- **the specification's elements are the scanner's parts** -/
theorem elements_is {bs : Bytes} (h : (scan bs).2 = none) : elements bs = elsOf 0 (scan bs).1 := by
  unfold elements
  rw [tokens_is]
  exact els_scan (bs.length + 1) 0 0 (Nat.zero_le _) (by omega) h
end La
set_option maxHeartbeats 200000
/-! Depths as a total function; no library. -/
namespace La
open EwTree
def BEG : List (List Nat) := ["(", "[", "{"].map signs
def FIN : List (List Nat) := [")", "]", "}"].map signs
def DEEP : List (List Nat) := ["-", "+", "*", "/", "//", "PERCENT", "^", "==", "!=", "<", "<=", ">", ">=", "->", ".",
    "not", "or", "and", "as", "of", "then", "spawn", "resume", "giving", "picture"].map signs
def NEW : List (List Nat) := [",", "=", ":", "let", "fn", "record", "account", "use", "return", "raise", "say", "yield", "post", "from",
    "match", "is", "while", "for", "in", "to", "with", "try", "catch"].map signs
/-- the numbers behind a closing bracket's own was taken away -/
def popped (l : List Nat) : List Nat := match l.drop 1 with
  | [] => [0]
  | r => r
def more (l : List Nat) : List Nat := match l with
  | [] => []
  | n :: r => (n + 1) :: r
def anew (l : List Nat) : List Nat := match l with
  | [] => []
  | _ :: r => 0 :: r
/-- the numbers, the innermost first, behind a token of this kind -/
def countM (l : List Nat) (k : List Nat) : List Nat :=
  if k ∈ BEG then 0 :: l else
    let l1 := if k ∈ FIN then popped l else l
    if k = signs "}" ∨ k ∈ NEW then anew l1 else if k ∈ FIN ∨ k ∈ DEEP then more l1 else l1
theorem popped_ne {l : List Nat} : popped l ≠ [] := by
  unfold popped
  split
  · simp
  · assumption
end La
namespace La
def depthOf (l : List Nat) : Int := (l.sum : Int) + (l.length : Int) - 1
def withinM (lim : Int) : List Nat → List (List Nat) → Bool
  | _, [] => true
  | l, k :: r => if lim < depthOf (countM l k) then false else withinM lim (countM l k) r
theorem more_len {l : List Nat} : (more l).length = l.length := by cases l <;> rfl
theorem anew_len {l : List Nat} : (anew l).length = l.length := by cases l <;> rfl
theorem popped_len {l : List Nat} (h : l ≠ []) : (popped l).length ≤ l.length := by
  cases l with
  | nil => exact absurd rfl h
  | cons n r =>
    unfold popped
    cases r with
    | nil => exact Nat.le_refl _
    | cons m t =>
      show (m :: t).length ≤ _
      simp
theorem count_len {l : List Nat} (h : l ≠ []) (k : List Nat) : (countM l k).length ≤ l.length + 1 := by
  have hp := popped_len h
  unfold countM
  split
  · simp
  · simp only
    repeat' split
    all_goals first | rw [anew_len] | rw [more_len] | skip
    all_goals omega
theorem count_ne {l : List Nat} (h : l ≠ []) (k : List Nat) : countM l k ≠ [] := by
  have h0 : ∀ {m : List Nat}, m ≠ [] → anew m ≠ [] ∧ more m ≠ [] := fun {m} hm => by
    cases m with
    | nil => exact absurd rfl hm
    | cons a b => exact ⟨by simp [anew], by simp [more]⟩
  have hp : popped l ≠ [] := popped_ne
  unfold countM
  split
  · simp
  · simp only
    repeat' split
    all_goals first | exact (h0 hp).1 | exact (h0 h).1 | exact (h0 hp).2 | exact (h0 h).2 | exact hp | exact h
end La
set_option maxHeartbeats 4000000
namespace La
open PySem PySem.Spec PyProof.Rows L2
section
variable {P : Program} {w : World} {K : PySem.W.Frag} {mg : Str → Option Value} {base : Heap} {f : Addr} {fd : FuncData}
/-- xs[i] of a list, read for an operator's store -/
theorem get_list {X : Cx} : PGet X (rIxL X.K) := by
  intro pins s σ H x y v u Q I rx ry h
  obtain ⟨p, xs, i, z, rfl, rfl, hq, he, q⟩ := h
  cases rx
  obtain ⟨t, rfl⟩ := ry
  obtain ⟨its, r, pl, hz⟩ := I.list hq
  obtain ⟨j, h1, h2, h3, h4, h5⟩ := atI_get he
  obtain ⟨w, ew, rw'⟩ := r.get h2
  have hl := r.length
  have hn := line63
  have fin : EP X pins σ Q w s := ⟨z, H, I, rw', q⟩
  by_cases h0 : 0 ≤ i
  · have hj : i.toNat = j := by
      rw [seqIndex_of h0 h5] at h1
      exact Option.some.inj h1
    exact wpAny_getItem_list pl.isList h0 (by omega) (by rw [hj]; simpa using ew) fin
  · have hj : (i + (its.toArray.size : Int)).toNat = j := by
      rw [seqIndex_neg (by omega) h4] at h1
      rw [List.size_toArray, ← hl]
      exact Option.some.inj h1
    exact wpAny_getItem_list_neg pl.isList (by omega) (by rw [List.size_toArray] <;> omega) (by omega) (by rw [hj]; simpa using ew) fin
theorem in_strs (l : List Nat) : ∀ ks : List (List Nat), inV (.str (strL l)) (ks.map fun l => V.str (strL l)) = decide (l ∈ ks)
  | [] => rfl
  | k :: r => by
    have ih := in_strs l r
    have e1 : inV (.str (strL l)) ((k :: r).map fun l => V.str (strL l)) = (eqV (.str (strL k)) (.str (strL l)) || inV (.str (strL l)) (r.map fun l => V.str (strL l))) := rfl
    have e2 : eqV (.str (strL k)) (.str (strL l)) = decide (k = l) := SX.S_beq_eq
    rw [e1, ih, e2, Bool.eq_iff_iff]
    simp only [Bool.or_eq_true, decide_eq_true_eq, List.mem_cons]
    constructor
    · rintro (h | h)
      · exact .inl h.symm
      · exact .inr h
    · rintro (h | h)
      · exact .inl h.symm
      · exact .inr h
theorem flat_strs (ks : List (List Nat)) : (ks.map fun l => V.str (strL l)).all flatV = true := by simp [flatV]
/-- a tuple of texts of the module's top -/
theorem tup_strs (e : Env w K mg) (H : Hp) {x : Str} {l : List He.Dv} {ks : List (List Nat)} (h : (x, l) ∈ tabL) (hl : l.map (He.Dv.v K) = ks.map fun l => V.str (strL l)) : SqT K H (He.ga K x) (ks.map fun l => V.str (strL l)) := by
  rw [← hl]
  exact e.tup H h
/-- numbers as the program keeps them: the innermost last -/
def NL (l : List Nat) : List V := l.reverse.map fun (n : Nat) => V.int (n : Int)
theorem NL_cons (n : Nat) (l : List Nat) : NL (n :: l) = NL l ++ [V.int (n : Int)] := by
  unfold NL
  rw [List.reverse_cons, List.map_append]
  rfl
theorem NL_len (l : List Nat) : (NL l).length = l.length := by
  unfold NL
  rw [List.length_map, List.length_reverse]
theorem last_ix (n : Nat) (l : List Nat) : ixN (NL (n :: l)).length (-1) = some l.length := by
  rw [NL_len]
  unfold ixN
  rw [if_neg (by omega), if_pos (by rw [List.length_cons]; omega)]
  congr 1
  rw [List.length_cons]
  omega
theorem last_at (n : Nat) (l : List Nat) : atI (NL (n :: l)) (-1) = some (V.int (n : Int)) := by
  unfold atI
  rw [last_ix]
  show (NL (n :: l))[l.length]? = _
  rw [NL_cons, ← NL_len l]
  simp
theorem last_set (n m : Nat) (l : List Nat) : (NL (n :: l)).set l.length (V.int (m : Int)) = NL (m :: l) := by
  rw [NL_cons, NL_cons, ← NL_len l]
  simp
/-! count_token -/
def spCount : Sp := fun vs H Q _ => ∃ (a : Addr) (l : List Nat) (k : List Nat), vs = [.ref a, .str (strL k)] ∧ H a = some (.lst (NL l)) ∧ l ≠ [] ∧ l.length ≤ 5000 ∧
  ∀ H', H' a = some (.lst (NL (countM l k))) → (∀ b, b ≠ a → H' b = H b) → Q .non H'
theorem sc_count_token : FnScope ["numbers", "kind"] ["numbers", "kind"] (defScope s_count_token) := ⟨rfl, rfl, rfl, by decide +kernel, rfl, by decide +kernel, by decide +kernel⟩
abbrev F_count_token (K : PySem.W.Frag) (f : Addr) (fd : FuncData) : Prop := FunD K "count_token" "count_token" (defArgs s_count_token) (defBody s_count_token) (defScope s_count_token) [] [] f fd
theorem ok_count_token (e : Env w K mg) (F : F_count_token K f fd) : FnOk P w K mg base CX0 1 f fd ["numbers", "kind"] spCount := by
  have m_OPENING : mg "OPENING" = some (.ref (He.ga K "OPENING")) := e.glo (List.mem_of_getElem? (i := 91) rfl)
  have m_CLOSING : mg "CLOSING" = some (.ref (He.ga K "CLOSING")) := e.glo (List.mem_of_getElem? (i := 92) rfl)
  have m_ANEW : mg "ANEW" = some (.ref (He.ga K "ANEW")) := e.glo (List.mem_of_getElem? (i := 97) rfl)
  have m_DEEPER : mg "DEEPER" = some (.ref (He.ga K "DEEPER")) := e.glo (List.mem_of_getElem? (i := 96) rfl)
  have hB : ∀ H, SqT K H (He.ga K "OPENING") (BEG.map fun l => V.str (strL l)) := fun H => tup_strs e H (List.mem_of_getElem? (i := 2) rfl) (by rfl)
  have hE : ∀ H, SqT K H (He.ga K "CLOSING") (FIN.map fun l => V.str (strL l)) := fun H => tup_strs e H (List.mem_of_getElem? (i := 3) rfl) (by rfl)
  have hD : ∀ H, SqT K H (He.ga K "DEEPER") (DEEP.map fun l => V.str (strL l)) := fun H => tup_strs e H (List.mem_of_getElem? (i := 5) rfl) (by rfl)
  have hA : ∀ H, SqT K H (He.ga K "ANEW") (NEW.map fun l => V.str (strL l)) := fun H => tup_strs e H (List.mem_of_getElem? (i := 6) rfl) (by rfl)
  refine F.ok sc_count_token (fun vs H Q E h => ?_) (fun cdv A outer s H vs Q E hr h => ⟨_, PSs.nox
    (pss_cons (ps_if (pt_cmpR op_in_seq (pv 1) (pe_glob (v := V.ref (He.ga K "OPENING")) rfl m_OPENING rfl) rfl) (pss_cons (ps_expr (pe_bm PySem.F.plainAttrs_list PySem.F.slot_list_append PySem.F.type_list_append mt_append (pv 0) (pa_cons pe_int pa_nil)))
      (pss_one ps_retN)) pss_nil)
      (pss_cons (ps_if (pt_cmpR op_in_seq (pv 1) (pe_glob (v := V.ref (He.ga K "CLOSING")) rfl m_CLOSING rfl) rfl) (pss_cons (ps_expr (pe_bm0 PySem.F.plainAttrs_list PySem.F.slot_list_pop PySem.F.type_list_pop mt_pop (pv 0)))
      (pss_one (ps_if (pt_not (pt_truth (pv 0) (fun _ => rfl))) (pss_one (ps_expr (pe_bm PySem.F.plainAttrs_list PySem.F.slot_list_append PySem.F.type_list_append mt_append (pv 0) (pa_cons pe_int pa_nil)))) pss_nil))) pss_nil)
      (pss_one (ps_if (PW.pt (pw_or (pt_cmpR op_eq (pv 1) pe_str (nomark _)) (pw_or1 (pt_cmpR op_in_seq (pv 1) (pe_glob (v := V.ref (He.ga K "ANEW")) rfl m_ANEW rfl) rfl)))) (pss_one (ps_asg pe_int (pg_sub (pv 0) (pe_un un_neg pe_int) set_list (by intros; rfl)))) (pss_one (ps_if (PW.pt (pw_or (pt_cmpR op_in_seq (pv 1) (pe_glob (v := V.ref (He.ga K "CLOSING")) rfl m_CLOSING rfl) rfl) (pw_or1 (pt_cmpR op_in_seq (pv 1) (pe_glob (v := V.ref (He.ga K "DEEPER")) rfl m_DEEPER rfl) rfl)))) (pss_one (ps_augS (pv 0) (pe_un un_neg pe_int) get_list pe_int ip_add set_list)) pss_nil)))))), ?_⟩)
  · obtain ⟨a, l, k, rfl, _⟩ := h
    rfl
  · obtain ⟨a, l, k, rfl, ha, hne, hlen, hQ⟩ := h
    have hsz : (5000 : Nat) < sizeLine := by rw [sizeLine_eq]; decide
    refine ⟨_, rfl, _, _, rfl, .inr (hB _), rfl, flat_strs _, _, rfl, ?_⟩
    show (if inV (.str (strL k)) (BEG.map fun l => V.str (strL l)) = true then _ else _)
    rw [in_strs]
    by_cases c1 : k ∈ BEG
    · refine ifT (decide_eq_true c1) ⟨_, rfl, .inl ⟨rfl, _, .of ha⟩, a, _, _, rfl, rfl, ha, (by rw [NL_len]; omega), ?_⟩
      refine hQ _ (upd_same.trans ?_) fun b hb => upd_ne hb
      have e1 : countM l k = 0 :: l := if_pos c1
      rw [e1, NL_cons]
      rfl
    · refine ifF (decide_eq_false c1) ?_
      have hc : countM l k = (if k = signs "}" ∨ k ∈ NEW then anew (if k ∈ FIN then popped l else l) else if k ∈ FIN ∨ k ∈ DEEP then more (if k ∈ FIN then popped l else l) else (if k ∈ FIN then popped l else l)) := if_neg c1
      have tail : ∀ (l1 : List Nat) (H1 : Hp), H1 a = some (.lst (NL l1)) → (∀ b, b ≠ a → H1 b = H b) → l1 ≠ [] → countM l k = (if k = signs "}" ∨ k ∈ NEW then anew l1 else if k ∈ FIN ∨ k ∈ DEEP then more l1 else l1) →
          tIfS (tOr (tTest (tOp rEq (tVar 1) (tC (.str (Str.ofString "}"))))) (tTest (tOp (rIn K false) (tVar 1) (tC (.ref (He.ga K "ANEW"))))))
            (tAsg (tC (.int 0)) (gSub (tVar 0) (tUn (rU fun i => .int (-i)) (tC (.int 1))) rSetL))
            (tIfS (tOr (tTest (tOp (rIn K false) (tVar 1) (tC (.ref (He.ga K "CLOSING"))))) (tTest (tOp (rIn K false) (tVar 1) (tC (.ref (He.ga K "DEEPER"))))))
              (tAugS (tVar 0) (tUn (rU fun i => .int (-i)) (tC (.int 1))) (tC (.int 1)) (rIxL K) (ipI fun i j => i + j) rSetL) tNext)
          { nx := fun _ H' => Q .non H', rt := Q } [some (.ref a), some (.str (strL k))] H1 := by
        intro l1 H1 h1 hk h1ne hcm
        obtain ⟨n, r, rfl⟩ : ∃ n r, l1 = n :: r := by
          cases l1 with
          | nil => exact absurd rfl h1ne
          | cons n r => exact ⟨n, r, rfl⟩
        have eb : decide (V.str (strL k) = V.str (Str.ofString "}")) = decide (k = signs "}") := by
          apply decide_eq_decide.mpr
          constructor
          · intro h
            exact SX.S_inj (V.str.inj h)
          · intro h
            rw [h]
            rfl
        have fin : ∀ m : Nat, countM l k = m :: r → Q .non (upd H1 a (.lst (NL (m :: r)))) := fun m hm => by
          refine hQ _ (by rw [hm]; exact upd_same) fun b hb => ?_
          rw [upd_ne hb]
          exact hk b hb
        refine if_by (decide (k = signs "}" ∨ k ∈ NEW)) (fun Q2 q2 => ?_) (fun hb => ?_) (fun hb => ?_)
        · refine ⟨_, rfl, rfl, _, rfl, ?_⟩
          by_cases d1 : k = signs "}"
          · refine ifT (eb.trans (decide_eq_true d1)) ?_
            rw [decide_eq_true (.inl d1)] at q2
            exact q2
          · refine ifF (eb.trans (decide_eq_false d1)) ⟨_, rfl, _, _, rfl, .inr (hA _), rfl, flat_strs _, _, rfl, ?_⟩
            show Q2 (inV (.str (strL k)) (NEW.map fun l => V.str (strL l))) H1
            rw [in_strs]
            have e3 : decide (k = signs "}" ∨ k ∈ NEW) = decide (k ∈ NEW) := decide_eq_decide.mpr ⟨fun h => h.resolve_left d1, .inr⟩
            rw [← e3]
            exact q2
        · rw [if_pos (of_decide_eq_true hb)] at hcm
          refine ⟨_, rfl, _, rfl, a, _, _, _, rfl, rfl, h1, last_ix n r, ?_⟩
          have e5 : (NL (n :: r)).set r.length (V.int 0) = NL (0 :: r) := last_set n 0 r
          have q := fin 0 hcm
          rw [← e5] at q
          exact q
        · rw [if_neg (of_decide_eq_false hb)] at hcm
          refine if_by (decide (k ∈ FIN ∨ k ∈ DEEP)) (fun Q2 q2 => ?_) (fun hb2 => ?_) (fun hb2 => ?_)
          · refine ⟨_, rfl, _, _, rfl, .inr (hE _), rfl, flat_strs _, _, rfl, ?_⟩
            show (if inV (.str (strL k)) (FIN.map fun l => V.str (strL l)) = true then _ else _)
            rw [in_strs]
            by_cases d1 : k ∈ FIN
            · refine ifT (decide_eq_true d1) ?_
              rw [decide_eq_true (.inl d1)] at q2
              exact q2
            · refine ifF (decide_eq_false d1) ⟨_, rfl, _, _, rfl, .inr (hD _), rfl, flat_strs _, _, rfl, ?_⟩
              show Q2 (inV (.str (strL k)) (DEEP.map fun l => V.str (strL l))) H1
              rw [in_strs]
              have e3 : decide (k ∈ FIN ∨ k ∈ DEEP) = decide (k ∈ DEEP) := decide_eq_decide.mpr ⟨fun h => h.resolve_left d1, .inr⟩
              rw [← e3]
              exact q2
          · rw [if_pos (of_decide_eq_true hb2)] at hcm
            refine ⟨_, rfl, _, rfl, a, _, _, _, rfl, rfl, .of h1, last_at n r, _, _, rfl, rfl, a, _, _, _, rfl, rfl, h1, last_ix n r, ?_⟩
            have e5 : (NL (n :: r)).set r.length (V.int ((n : Int) + 1)) = NL ((n + 1) :: r) := last_set n (n + 1) r
            have q := fin (n + 1) hcm
            rw [← e5] at q
            exact q
          · rw [if_neg (of_decide_eq_false hb2)] at hcm
            refine hQ H1 ?_ hk
            rw [hcm]
            exact h1
      refine ⟨_, rfl, _, _, rfl, .inr (hE _), rfl, flat_strs _, _, rfl, ?_⟩
      show (if inV (.str (strL k)) (FIN.map fun l => V.str (strL l)) = true then _ else _)
      rw [in_strs]
      by_cases c2 : k ∈ FIN
      · rw [if_pos c2] at hc
        refine ifT (decide_eq_true c2) ?_
        obtain ⟨n, r, rfl⟩ : ∃ n r, l = n :: r := by
          cases l with
          | nil => exact absurd rfl hne
          | cons n r => exact ⟨n, r, rfl⟩
        have hpop : (NL (n :: r))[(NL (n :: r)).length - 1]? = some (V.int (n : Int)) := by
          rw [NL_cons]
          simp
        refine ⟨_, rfl, .inl ⟨rfl, _, .of ha⟩, a, _, _, rfl, rfl, ha, hpop, ?_⟩
        have hdl : (NL (n :: r)).dropLast = NL r := by
          rw [NL_cons]
          simp
        rw [hdl]
        cases r with
        | nil =>
          refine ⟨_, rfl, _, .inl ⟨_, .of upd_same, rfl⟩, ifT rfl ?_⟩
          refine ⟨_, rfl, .inl ⟨rfl, _, .of upd_same⟩, a, _, _, rfl, rfl, upd_same, (by rw [NL_len]; show 0 < sizeLine; omega), ?_⟩
          exact tail [0] _ upd_same (fun b hb => by rw [upd_ne hb, upd_ne hb]) (by simp) hc
        | cons m t =>
          refine ⟨_, rfl, _, .inl ⟨_, .of upd_same, rfl⟩, ifF (by rw [NL_cons]; simp) ?_⟩
          exact tail (m :: t) _ upd_same (fun b hb => upd_ne hb) (by simp) hc
      · rw [if_neg c2] at hc
        exact ifF (decide_eq_false c2) (tail l H ha (fun _ _ => rfl) hne hc)
theorem c_count_token (e : Env w K mg) : Callee P w K mg base 1 "count_token" ["numbers", "kind"] spCount := by
  obtain ⟨fd, F⟩ := e.d.def_ 19 (d := d_count_token) rfl
  exact ⟨_, fd, ok_count_token e F, e.glo (x := "count_token") (List.mem_of_getElem? (i := 19) rfl), F.kp, F.bindsN fun _ _ _ _ _ _ us hl => match us, hl with | [_, _], _ => rfl⟩
end
end La
set_option maxHeartbeats 4000000
namespace La
open PySem PySem.Spec PyProof.Rows L2
section
variable {P : Program} {w : World} {K : PySem.W.Frag} {mg : Str → Option Value} {base : Heap} {f : Addr} {fd : FuncData}
def KS (ks : List (List Nat)) : List V := ks.map fun k => V.str (strL k)
def spWithin (K : PySem.W.Frag) : Sp := fun vs H Q _ => ∃ (a : Addr) (ks : List (List Nat)) (lim : Int), vs = [.ref a, .int lim] ∧ SqL K H a (KS ks) ∧ ks.length ≤ 4096 ∧ RetV H Q (.bl (withinM lim [0] ks))
theorem sc_depth_within : FnScope ["kinds", "limit", "numbers", "kind"] ["kinds", "limit"] (defScope s_depth_within) := ⟨rfl, rfl, rfl, by decide +kernel, rfl, by decide +kernel, by decide +kernel⟩
abbrev F_depth_within (K : PySem.W.Frag) (f : Addr) (fd : FuncData) : Prop := FunD K "depth_within" "depth_within" (defArgs s_depth_within) (defBody s_depth_within) (defScope s_depth_within) [] [] f fd
theorem NL_sum (l : List Nat) : (l.reverse.map fun (n : Nat) => (n : Int)).sum = (l.sum : Int) := by
  induction l with
  | nil => rfl
  | cons n r ih =>
    rw [List.reverse_cons, List.map_append, List.sum_append, ih, List.sum_cons]
    simp
    omega
theorem ok_depth_within (e : Env w K mg) (F : F_depth_within K f fd) : FnOk P w K mg base CX0 2 f fd ["kinds", "limit"] (spWithin K) := by
  obtain ⟨f_count_token, fd_count_token, G_count_token, m_count_token, k_count_token, b_count_token⟩ := c_count_token (P := P) (w := w) (base := base) e
  have m_sum : mg "sum" = none := e.free (List.mem_of_getElem? (i := 108) rfl)
  have m_len : mg "len" = none := e.free (List.mem_of_getElem? (i := 103) rfl)
  refine F.ok sc_depth_within (fun vs H Q E h => ?_) (fun cdv A outer s H vs Q E hr h => ⟨_, PSs.nox
    (pss_cons (ps_set (i := 2) sc_depth_within.nd rfl (Or.inl rfl) (pe_lst (pa_cons pe_int pa_nil)))
      (pss_cons (ps_for PassesOwn.never rfl (pi_list (pv 0)) (pg_name (i := 3) sc_depth_within.nd rfl (Or.inl rfl))
      (pss_cons (ps_expr (pe_call G_count_token (hr.mono (by decide)) rfl m_count_token k_count_token b_count_token .nil pass0 (pa_cons (pv 2) (pa_cons (pv 3) pa_nil))))
      (pss_one (ps_if (pt_cmpR op_gt (pe_op op_sub (pe_op op_add (pe_callB (cr_sum rfl) (by rfl) m_sum boot_sum (pa_cons (pv 2) pa_nil)) (pe_callB call_len_seq (by rfl) m_len PySem.boot_len (pa_cons (pv 2) pa_nil))) pe_int) (pv 1) (nomark _)) (pss_one (ps_ret pe_bl)) pss_nil))))
      (pss_one (ps_ret pe_bl)))), ?_⟩)
  · obtain ⟨a, ks, lim, rfl, _⟩ := h
    rfl
  · obtain ⟨a, ks, lim, rfl, hS, hlen, hQ⟩ := h
    refine ⟨(by show 1 ≤ sizeLine; decide), fun p hp => ?_⟩
    have s0 := same_upd (o := .lst [.int 0]) hp
    have h0 : (upd H p (.lst [.int 0])) p = some (.lst (NL [0])) := upd_same
    generalize upd H p (.lst [.int 0]) = H0 at *
    refine ⟨_, rfl, a, rfl, ⟨_, s0.seq hS⟩, for_list (K := K) (a := a) (xs := KS ks) (fun i σ H' => ∃ (l : List Nat) (z : Option V), σ = [some (.ref a), some (.int lim), some (.ref p), z] ∧ Same H H' ∧ H' p = some (.lst (NL l)) ∧ l ≠ [] ∧ l.length ≤ i + 1 ∧ i ≤ ks.length ∧ withinM lim [0] ks = withinM lim l (ks.drop i))
      ⟨[0], none, rfl, s0, h0, by simp, by simp, Nat.zero_le _, rfl⟩ ?_ ?_ ?_⟩
    · rintro i σ H' _ ⟨l, z, _, s1, _⟩
      exact s1.seq hS
    · rintro i x σ H' hi ⟨l, z, rfl, s1, hp1, hl1, hl2, hik, eq⟩
      obtain ⟨k, hk, rfl⟩ : ∃ k, ks[i]? = some k ∧ x = V.str (strL k) := by
        unfold KS at hi
        rw [List.getElem?_map] at hi
        cases e0 : ks[i]? with
        | none =>
          rw [e0] at hi
          cases hi
        | some k =>
          rw [e0] at hi
          exact ⟨k, rfl, (Option.some.inj hi).symm⟩
      obtain ⟨hlt, hkk⟩ := List.getElem?_eq_some_iff.mp hk
      have hdrop : ks.drop i = k :: ks.drop (i + 1) := by rw [List.drop_eq_getElem_cons hlt, hkk]
      rw [hdrop] at eq
      have eq2 : withinM lim l (k :: ks.drop (i + 1)) = if lim < depthOf (countM l k) then false else withinM lim (countM l k) (ks.drop (i + 1)) := rfl
      refine ⟨_, rfl, _, rfl, p, l, k, rfl, hp1, hl1, by omega, fun H2 h2 h3 => ?_⟩
      have hpn : H p = none := hp
      have s2 : Same H H2 := fun b o hb => by
        rw [h3 b (by intro e0; rw [e0, hpn] at hb; cases hb)]
        exact s1 b o hb
      have hcl := count_len hl1 k
      have hcn := count_ne hl1 k
      generalize countM l k = l2 at *
      refine ⟨_, rfl, p, (l2.reverse.map fun (n : Nat) => (n : Int)), rfl, .of (by rw [List.map_map]; exact h2), _, rfl, _, _, rfl, .inl (.of h2), _, _, rfl, rfl, _, _, rfl, rfl, _, rfl, _, _, rfl, rfl, _, rfl, ?_⟩
      have ed : (l2.reverse.map fun (n : Nat) => (n : Int)).sum + ((NL l2).length : Int) - 1 = depthOf l2 := by
        rw [NL_sum, NL_len]
        rfl
      by_cases c : lim < depthOf l2
      · rw [if_pos c] at eq2
        refine ifT (decide_eq_true (by rw [ed]; exact c)) ?_
        rw [eq, eq2] at hQ
        exact hQ _ s2
      · rw [if_neg c] at eq2
        refine ifF (decide_eq_false (by rw [ed]; exact c)) ?_
        exact ⟨l2, _, rfl, s2, h2, hcn, by omega, hlt, eq.trans eq2⟩
    · rintro σ H' ⟨l, z, rfl, s1, hp1, hl1, hl2, hik, eq⟩
      have hlen2 : (KS ks).length = ks.length := List.length_map ..
      rw [hlen2, List.drop_length] at eq
      have e1 : withinM lim [0] ks = true := eq
      rw [e1] at hQ
      exact hQ _ s1
theorem c_depth_within (e : Env w K mg) : Callee P w K mg base 2 "depth_within" ["kinds", "limit"] (spWithin K) := by
  obtain ⟨fd, F⟩ := e.d.def_ 20 (d := d_depth_within) rfl
  exact ⟨_, fd, ok_depth_within e F, e.glo (x := "depth_within") (List.mem_of_getElem? (i := 20) rfl), F.kp, F.bindsN fun _ _ _ _ _ _ us hl => match us, hl with | [_, _], _ => rfl⟩
end
end La
set_option maxHeartbeats 200000
/-! The program's depth is the specification's; no library. -/
namespace La
open EwTree
/-- what a token does to the numbers: 0 begins, 1 ends and adds one, 2 ends and puts 0, 3 adds one, 4 puts 0, else nothing -/
def act (n : Nat) (l : List Nat) : List Nat := match n with
  | 0 => 0 :: l
  | 1 => more (popped l)
  | 2 => anew (popped l)
  | 3 => more l
  | 4 => anew l
  | _ => l
def clM (k : List Nat) : Nat := if k ∈ BEG then 0 else if k ∈ FIN then (if k = signs "}" ∨ k ∈ NEW then 2 else 1) else if k = signs "}" ∨ k ∈ NEW then 4 else if k ∈ DEEP then 3 else 5
theorem countM_act (l k : List Nat) : countM l k = act (clM k) l := by
  unfold countM clM
  by_cases h1 : k ∈ BEG
  · rw [if_pos h1, if_pos h1]
    rfl
  · rw [if_neg h1, if_neg h1]
    by_cases h2 : k ∈ FIN
    · simp only [h2, true_or, if_true]
      split <;> rfl
    · simp only [h2, false_or, if_false]
      by_cases h3 : k = signs "}" ∨ k ∈ NEW
      · rw [if_pos h3, if_pos h3]
        rfl
      · rw [if_neg h3, if_neg h3]
        split <;> rfl
def clS (kind : Nat) (b : Bytes) : Nat :=
  if kind = 5 then (if b = word "(" ∨ b = word "[" ∨ b = word "{" then 0 else if b = word ")" ∨ b = word "]" then 1 else if b = word "}" then 2 else if ADDING.contains b = true then 3 else if RESETS.contains b = true then 4 else 5)
  else if kind = 0 then (if ADDWORDS.contains b = true then 3 else if RESETWORDS.contains b = true then 4 else 5) else 5
theorem step_act {l : List Nat} (hl : l ≠ []) (t : Tok) : depthStep l t = act (clS t.kind t.bytes) l := by
  obtain ⟨n, r, rfl⟩ : ∃ n r, l = n :: r := by
    cases l with
    | nil => exact absurd rfl hl
    | cons n r => exact ⟨n, r, rfl⟩
  unfold depthStep clS
  simp only
  by_cases h5 : t.kind = 5
  · rw [if_pos h5, if_pos h5]
    split
    · rfl
    · split
      · show _ = more (popped (n :: r))
        unfold popped
        cases r <;> rfl
      · split
        · show _ = anew (popped (n :: r))
          unfold popped
          cases r <;> rfl
        · split
          · rfl
          · split <;> rfl
  · rw [if_neg h5, if_neg h5]
    by_cases h0 : t.kind = 0
    · rw [if_pos h0, if_pos h0]
      split
      · rfl
      · split <;> rfl
    · rw [if_neg h0, if_neg h0]
      rfl
/-- a token's part as the scanner makes it -/
def Valid (bs : Bytes) (p : Part) : Prop := p.kind ∈ ["NAME", "CODE", "NUMBER", "TEXT"].map signs ∨ (∃ w, isKeyword w = true ∧ p.kind = codes w ∧ (bs.take p.hi).drop p.lo = w) ∨
  (∃ s, sgM.lookup (codes s) = some p.kind ∧ s ∈ SIGNS ∧ (bs.take p.hi).drop p.lo = s)
theorem key_plain {w : Bytes} (h : isKeyword w = true) : codes w ∉ ["NAME", "CODE", "NUMBER", "TEXT"].map signs := by
  have a : (KEYWORDS.all fun w => decide (codes w ∉ ["NAME", "CODE", "NUMBER", "TEXT"].map signs)) = true := by decide +kernel
  exact of_decide_eq_true (List.all_eq_true.mp a w (List.contains_iff_mem.mp h))
theorem kind_key {w : Bytes} (h : isKeyword w = true) : kindOfPart (codes w) = 0 ∧ codes w ≠ signs "TEXT" := by
  have a : (KEYWORDS.all fun w => decide (kindOfPart (codes w) = 0 ∧ codes w ≠ signs "TEXT")) = true := by decide +kernel
  exact of_decide_eq_true (List.all_eq_true.mp a w (List.contains_iff_mem.mp h))
theorem cl_key {w : Bytes} (h : isKeyword w = true) : clM (codes w) = clS 0 w := by
  have a : (KEYWORDS.all fun w => decide (clM (codes w) = clS 0 w)) = true := by decide +kernel
  exact of_decide_eq_true (List.all_eq_true.mp a w (List.contains_iff_mem.mp h))
theorem cl_sign {s : Bytes} {k : List Nat} (h : sgM.lookup (codes s) = some k) (hs : s ∈ SIGNS) : clM k = clS 5 s := by
  have a : (SIGNS.all fun s => match sgM.lookup (codes s) with
    | some k => decide (clM k = clS 5 s)
    | none => true) = true := by decide +kernel
  have q := List.all_eq_true.mp a s hs
  rw [h] at q
  exact of_decide_eq_true q
theorem cl_same {bs : Bytes} {p : Part} (h : Valid bs p) : clM p.kind = clS (toTok bs p).kind (toTok bs p).bytes := by
  rcases h with h | ⟨w, hw, hk, hc⟩ | ⟨s, hs, hS, hc⟩
  · have a : ((["NAME", "CODE", "NUMBER", "TEXT"].map signs).all fun k => decide (clM k = 5 ∧ kindOfPart k ≠ 5 ∧ kindOfPart k ≠ 0)) = true := by decide +kernel
    obtain ⟨a1, a2, a3⟩ := of_decide_eq_true (List.all_eq_true.mp a _ h)
    rw [a1]
    show 5 = clS (kindOfPart p.kind) _
    unfold clS
    rw [if_neg a2, if_neg a3]
  · obtain ⟨k1, k2⟩ := kind_key hw
    show _ = clS (kindOfPart p.kind) (tokBytes bs p)
    unfold tokBytes
    rw [hk, k1, if_neg k2, hc]
    exact cl_key hw
  · obtain ⟨k1, k2, _⟩ := sign_kind hs
    show _ = clS (kindOfPart p.kind) (tokBytes bs p)
    unfold tokBytes
    rw [k1, if_neg k2, hc]
    exact cl_sign hs hS
theorem count_same {bs : Bytes} {p : Part} {l : List Nat} (hl : l ≠ []) (h : Valid bs p) : countM l p.kind = depthStep l (toTok bs p) := by
  rw [countM_act, step_act hl, cl_same h]
theorem now_is {l : List Nat} (hl : l ≠ []) : (depthNow l : Int) = depthOf l := by
  unfold depthNow depthOf
  have e : l.foldr (fun (a b : Nat) => a + b) 0 = l.sum := by
    clear hl
    induction l with
    | nil => rfl
    | cons n r ih => rw [List.foldr_cons, ih, List.sum_cons]
  have : 0 < l.length := List.length_pos_iff.mpr hl
  rw [e]
  omega
theorem from_ge : ∀ (ts : List Tok) (l : List Nat) (m : Nat), m ≤ depthFrom l m ts
  | [], _, _ => Nat.le_refl _
  | t :: r, l, m => by
    show m ≤ depthFrom (depthStep l t) (max m (depthNow (depthStep l t))) r
    have := from_ge r (depthStep l t) (max m (depthNow (depthStep l t)))
    omega
theorem within_is {bs : Bytes} {n : Nat} : ∀ (ps : List Part) (l : List Nat) (m : Nat), l ≠ [] → m ≤ n → (∀ p ∈ ps, Valid bs p) → withinM (n : Int) l (ps.map (·.kind)) = decide (depthFrom l m (ps.map (toTok bs)) ≤ n)
  | [], l, m, hl, hm, _ => by
    show true = decide (m ≤ n)
    rw [decide_eq_true hm]
  | p :: r, l, m, hl, hm, hv => by
    have hp := hv p (by simp)
    have hs := count_same hl hp
    have hne : countM l p.kind ≠ [] := count_ne hl _
    have hnow := now_is hne
    show (if (n : Int) < depthOf (countM l p.kind) then false else withinM n (countM l p.kind) (r.map (·.kind))) = decide (depthFrom (depthStep l (toTok bs p)) (max m (depthNow (depthStep l (toTok bs p)))) (r.map (toTok bs)) ≤ n)
    rw [← hs]
    generalize countM l p.kind = l2 at *
    by_cases c : (n : Int) < depthOf l2
    · rw [if_pos c]
      have := from_ge (r.map (toTok bs)) l2 (max m (depthNow l2))
      rw [decide_eq_false (by omega)]
    · rw [if_neg c]
      exact within_is r l2 _ hne (by omega) fun q hq => hv q (by simp [hq])
/-- every part that is no comment is one of these -/
theorem part_valid {bs : Bytes} {i : Nat} {c : UInt8} {k : List Nat} {e : Nat} (h : bs[i]? = some c) (hc : c ≠ 35) (hr : readPart bs i = .ok k e) : Valid bs ⟨k, i, e⟩ := by
  obtain ⟨hi, _⟩ := List.getElem?_eq_some_iff.mp h
  unfold readPart at hr
  rw [h] at hr
  simp only at hr
  rw [if_neg hc] at hr
  split at hr
  · unfold readWord at hr
    simp only at hr
    split at hr
    · rename_i h2
      cases hr
      exact .inr (.inl ⟨_, mem_keyL.mp h2.2, rfl, rfl⟩)
    · split at hr
      · cases hr
        exact .inl (by simp)
      · cases hr
  · split at hr
    · unfold readCode at hr
      simp only at hr
      split at hr
      · cases hr
        exact .inl (by simp)
      · cases hr
    · split at hr
      · unfold readNumber at hr
        simp only at hr
        generalize runTo (inL (signs "0")) bs i = wh at hr
        generalize (if byteAt bs wh = 46 ∧ digitAt bs (wh + 1) = true then runTo (inL (signs "0")) bs (wh + 1) else wh) = br at hr
        generalize expAt bs br = dg at hr
        generalize runTo (inL (signs "0")) bs dg = ra at hr
        generalize runTo (inL (signs "aA0_")) bs ra = fi at hr
        split at hr
        · cases hr
          exact .inl (by simp)
        · cases hr
      · split at hr
        · have gen : ∀ f p c, textAt bs f p c = .ok k e → k = signs "TEXT" := by
            intro f
            induction f with
            | zero => intro p c h; cases h
            | succ f ih =>
              intro p c h
              unfold textAt at h
              split at h
              · cases h
              · split at h
                · cases h
                  rfl
                · split at h
                  · cases h
                  · split at h
                    · cases h
                    · split at h
                      · cases h
                      · exact ih _ _ h
          rw [gen _ _ _ hr]
          exact .inl (by simp)
        · have mem2 : ∀ n, (n = 2 ∨ n = 1) → i + n ≤ bs.length → ∀ z, sgM.lookup (codes ((bs.take (i + n)).drop i)) = some z → (bs.take (i + n)).drop i ∈ SIGNS := by
            intro n hn hle z hz
            have hl : ((bs.take (i + n)).drop i).length = n := by
              rw [List.length_drop, List.length_take]
              omega
            have hm : codes ((bs.take (i + n)).drop i) ∈ sgM.map (·.1) := List.mem_map.mpr ⟨_, lookup_mem hz, rfl⟩
            rw [signs_split]
            rcases hn with rfl | rfl
            · exact List.mem_append.mpr (.inl ((keys2 hl).mp hm))
            · exact List.mem_append.mpr (.inr ((keys1 hl).mp hm))
          unfold readSign at hr
          split at hr
          · rename_i z hz hd
            cases hr
            exact .inr (.inr ⟨_, hz, mem2 2 (.inl rfl) (of_decide_eq_true hd) _ hz, rfl⟩)
          · split at hr
            · rename_i z hz hd
              cases hr
              exact .inr (.inr ⟨_, hz, mem2 1 (.inr rfl) (of_decide_eq_true hd) _ hz, rfl⟩)
            · cases hr
theorem scan_valid {bs : Bytes} : ∀ (f i : Nat), ∀ p ∈ (scanAt bs f i).1, isCom p = false → Valid bs p
  | 0, i, p, hp, _ => by simp [scanAt] at hp
  | f + 1, i, p, hp, hn => by
    cases hb : bs[i]? with
    | none =>
      rw [scan_none hb] at hp
      simp at hp
    | some c =>
      by_cases hc : c.toNat ∈ BLANK
      · rw [scan_blank hb hc] at hp
        exact scan_valid f (i + 1) p hp hn
      · cases hr : readPart bs i with
        | bad r x =>
          rw [scan_bad hb hc hr] at hp
          simp at hp
        | ok k e =>
          rw [scan_ok hb hc hr] at hp
          rcases List.mem_cons.mp hp with h | h
          · by_cases h35 : c = 35
            · exfalso
              subst h35
              have e2 : readPart bs i = readComment bs i := by
                unfold readPart
                rw [hb]
                rfl
              rw [e2] at hr
              unfold readComment at hr
              simp only at hr
              split at hr
              · cases hr
                rw [h, show isCom ⟨signs "#", i, cBack bs (cEnd i (bs.drop i)).2⟩ = true from decide_eq_true rfl] at hn
                cases hn
              · cases hr
            · rw [h]
              exact part_valid hb h35 hr
          · exact scan_valid f e p h hn
/-- kinds of the tokens, as the program has them -/
def kindsOf (bs : Bytes) : List (List Nat) := ((scan bs).1.filter fun p => !isCom p).map (·.kind)
/-- **too deep for the program is too deep for the specification** -/
theorem depth_is (bs : Bytes) : withinM 100 [0] (kindsOf bs) = decide (depth bs ≤ 100) := by
  unfold depth kindsOf
  rw [tokens_is]
  exact within_is (n := 100) _ [0] 0 (by simp) (by omega) fun p hp => by
    obtain ⟨h1, h2⟩ := List.mem_filter.mp hp
    exact scan_valid _ _ p h1 (by simpa using h2)
end La
set_option maxHeartbeats 200000
/-! The reader's table as data, and the reader as a machine of small steps; no library. -/
namespace La
open EwTree
inductive Item where
  | form (x : String)
  | tok (x : String)
  | any
  | tell (x : String)
  | act (x : String)
  deriving DecidableEq
abbrev Row := List String × List Item
def forms : List (String × List Row) := [
  ("Program", [([], [.tell "|", .tok "module", .tell "_", .tok "NAME", .form "Uses", .form "Decls"])]),
  ("Uses", [(["use"], [.tell "|", .tok "use", .tell "_", .tok "NAME", .form "Uses"]), ([], [])]),
  ("Decls", [(["END"], []), ([], [.act "@decl", .tell "|", .form "Decl", .form "Decls"])]),
  ("Decl", [(["let"], [.form "Let"]), (["record"], [.tok "record", .tell "_", .tok "NAME", .tell "_", .tok "{", .form "Fields", .tok "}"]), (["account"], [.tok "account", .tell "_", .tok "NAME", .tell "_", .tok "CODE"]), (["fn"], [.tok "fn", .tell "_", .tok "NAME", .form "Names", .tok "(", .form "Fields", .tok ")", .form "Result", .tell "_", .form "Block"])]),
  ("Let", [([], [.tok "let", .tell "_", .tok "NAME", .form "Sorted", .tell "_", .tok "=", .tell "_", .form "Expr"])]),
  ("Sorted", [([":"], [.tok ":", .tell "_", .form "Sort"]), ([], [])]),
  ("Names", [(["["], [.tok "[", .tok "NAME", .form "Morenames", .tok "]"]), ([], [])]),
  ("Morenames", [([","], [.tok ",", .tell "_", .tok "NAME", .form "Morenames"]), ([], [])]),
  ("Fields", [([")", "}"], []), ([], [.act "@first", .form "Field", .form "Morefields", .act "@last"])]),
  ("Field", [([], [.tok "NAME", .tok ":", .tell "_", .form "Sort"])]),
  ("Morefields", [([","], [.tok ",", .act "@may", .form "Field", .form "Morefields"]), ([], [])]),
  ("Result", [(["->"], [.tell "_", .tok "->", .tell "_", .form "Sort"]), ([], [])]),
  ("Sort", [(["whole", "fraction", "decimal", "half", "single", "double", "extended", "interval", "truth"], [.any]), (["text", "flags", "error", "account", "value"], [.any]), (["packed"], [.tok "packed", .tell "_", .tok "NUMBER"]), (["list"], [.tok "list", .tell "_", .tok "of", .tell "_", .form "Sort"]), (["fibre"], [.tok "fibre", .form "Fibreof"]), (["fn"], [.tok "fn", .tok "(", .form "Sorts", .tok ")", .form "Result"]), (["NAME"], [.tok "NAME", .form "Pointname"])]),
  ("Fibreof", [(["of"], [.tell "_", .tok "of", .tell "_", .form "Sort"]), ([], [])]),
  ("Sorts", [([")"], []), ([], [.form "Sort", .form "Moresorts"])]),
  ("Moresorts", [([","], [.tok ",", .tell "_", .form "Sort", .form "Moresorts"]), ([], [])]),
  ("Pointname", [(["."], [.tok ".", .tok "NAME"]), ([], [])]),
  ("Block", [([], [.tok "{", .act "@in", .form "Statements", .act "@out", .tok "}"])]),
  ("Statements", [(["}"], []), ([], [.tell "|", .form "Statement", .form "Statements"])]),
  ("Statement", [(["let"], [.form "Let"]), (["NAME"], [.tok "NAME", .form "Chain"]), (["flags"], [.tok "flags", .tell "_", .tok "=", .tell "_", .form "Expr"]), (["if"], [.tok "if", .tell "_", .form "Expr", .tell "_", .form "Block", .form "Else"]), (["while"], [.tok "while", .tell "_", .form "Expr", .tell "_", .form "Block"]), (["for"], [.tok "for", .tell "_", .tok "NAME", .tell "_", .tok "in", .tell "_", .form "Expr", .form "To", .tell "_", .form "Block"]), (["match"], [.tok "match", .tell "_", .form "Expr", .tell "_", .tok "{", .act "@in", .form "Cases", .act "@out", .tok "}"]), (["return"], [.tok "return", .tell "_", .form "Expr"]), (["leave", "break", "next"], [.any]), (["with"], [.tok "with", .tell "_", .form "Mode", .form "Moremodes", .tell "_", .form "Block"]), (["try"], [.tok "try", .tell "_", .form "Block", .form "Handlers"]), (["raise"], [.tok "raise", .tell "_", .form "Expr"]), (["say"], [.tok "say", .tell "_", .act "@start", .form "Expr", .form "Moreexprs", .act "@end"]), (["yield"], [.tok "yield", .tell "_", .form "Expr", .form "Into"]), (["post"], [.tok "post", .tell "_", .form "Expr", .tok ":", .tell "_", .form "Expr", .tell "_", .tok "from", .tell "_", .form "Expr", .form "Posttext"])]),
  ("Chain", [(["("], [.tok "(", .form "Args", .tok ")", .form "Called"]), (["["], [.tok "[", .form "Expr", .tok "]", .form "Chain"]), (["."], [.tok ".", .tok "NAME", .form "Chain"]), (["="], [.tell "_", .tok "=", .tell "_", .form "Expr"])]),
  ("Called", [(["("], [.tok "(", .form "Args", .tok ")", .form "Called"]), (["["], [.tok "[", .form "Expr", .tok "]", .form "Chain"]), (["."], [.tok ".", .tok "NAME", .form "Chain"]), ([], [])]),
  ("Else", [(["else"], [.tell "_", .tok "else", .tell "_", .form "Otherwise"]), ([], [])]),
  ("Otherwise", [(["if"], [.tok "if", .tell "_", .form "Expr", .tell "_", .form "Block", .form "Else"]), ([], [.form "Block"])]),
  ("To", [(["to"], [.tell "_", .tok "to", .tell "_", .form "Expr"]), ([], [])]),
  ("Cases", [(["is"], [.tell "|", .tok "is", .tell "_", .form "Sort", .tell "_", .tok "NAME", .tell "_", .form "Block", .form "Cases"]), (["else"], [.tell "|", .tok "else", .tell "_", .form "Block"]), ([], [])]),
  ("Handlers", [(["catch"], [.tell "_", .tok "catch", .tell "_", .tok "NAME", .tell "_", .form "Block", .form "Finally"]), (["finally"], [.tell "_", .tok "finally", .tell "_", .form "Block"])]),
  ("Finally", [(["finally"], [.tell "_", .tok "finally", .tell "_", .form "Block"]), ([], [])]),
  ("Into", [(["into"], [.tell "_", .tok "into", .tell "_", .tok "NAME"]), ([], [])]),
  ("Posttext", [(["TEXT"], [.tell "_", .tok "TEXT"]), ([], [])]),
  ("Mode", [(["rounding"], [.tok "rounding", .tell "_", .form "Rounding"]), (["precision"], [.tok "precision", .tell "_", .tok "NUMBER"]), (["trap"], [.tok "trap", .tell "_", .form "Oneflag", .form "Traps"]), (["flush"], [.tok "flush", .tell "_", .form "Flush"])]),
  ("Moremodes", [([","], [.tok ",", .tell "_", .form "Mode", .form "Moremodes"]), ([], [])]),
  ("Rounding", [(["near", "down", "up", "cut"], [.any])]),
  ("Flush", [(["in", "out", "both"], [.any])]),
  ("Oneflag", [(["invalid", "small", "zero", "overflow", "underflow", "inexact", "stack"], [.any])]),
  ("Traps", [(["invalid", "small", "zero", "overflow", "underflow", "inexact", "stack"], [.tell "_", .form "Oneflag", .form "Traps"]), ([], [])]),
  ("Someflags", [([")"], []), ([], [.form "Oneflag", .form "Moreflags"])]),
  ("Moreflags", [([","], [.tok ",", .tell "_", .form "Oneflag", .form "Moreflags"]), ([], [])]),
  ("Args", [([")"], []), ([], [.act "@first", .form "Expr", .form "Moreexprs", .act "@last"])]),
  ("Moreexprs", [([","], [.tok ",", .act "@may", .form "Expr", .form "Moreexprs"]), ([], [])]),
  ("Expr", [(["if"], [.act "@start", .tok "if", .tell "_", .form "Expr", .act "@may", .tok "then", .tell "_", .form "Expr", .act "@may", .tok "else", .tell "_", .form "Expr", .act "@end"]), ([], [.form "Either"])]),
  ("Either", [([], [.act "@start", .form "Both", .form "Moreor", .act "@end"])]),
  ("Moreor", [(["or"], [.act "@may", .tok "or", .tell "_", .form "Both", .form "Moreor"]), ([], [])]),
  ("Both", [([], [.act "@start", .form "Negated", .form "Moreand", .act "@end"])]),
  ("Moreand", [(["and"], [.act "@may", .tok "and", .tell "_", .form "Negated", .form "Moreand"]), ([], [])]),
  ("Negated", [(["not"], [.tok "not", .tell "_", .form "Negated"]), ([], [.form "Comparison"])]),
  ("Comparison", [([], [.act "@start", .form "Cast", .form "Compared", .act "@end"])]),
  ("Compared", [(["==", "!=", "<", "<=", ">", ">="], [.act "@may", .any, .tell "_", .form "Cast"]), ([], [])]),
  ("Cast", [([], [.form "Sum", .form "Casts"])]),
  ("Casts", [(["as"], [.tell "_", .tok "as", .tell "_", .form "Sort", .form "Castnumber", .form "Castround", .form "Casts"]), ([], [])]),
  ("Castnumber", [(["NUMBER"], [.tell "_", .tok "NUMBER"]), ([], [])]),
  ("Castround", [(["near", "down", "up", "cut", "nearaway", "nearcut", "away", "five"], [.tell "_", .any]), ([], [])]),
  ("Sum", [([], [.act "@start", .form "Product", .form "Moresum", .act "@end"])]),
  ("Moresum", [(["+", "-"], [.act "@may", .any, .tell "_", .form "Product", .form "Moresum"]), ([], [])]),
  ("Product", [([], [.act "@start", .form "Signed", .form "Moreproduct", .act "@end"])]),
  ("Moreproduct", [(["*", "/", "//", "PERCENT"], [.act "@may", .any, .tell "_", .form "Signed", .form "Moreproduct"]), ([], [])]),
  ("Signed", [(["-"], [.tok "-", .form "Signed"]), (["spawn"], [.tok "spawn", .tell "_", .form "Value"]), (["resume"], [.tok "resume", .tell "_", .form "Value", .form "Giving"]), (["picture"], [.tok "picture", .tell "_", .tok "TEXT", .tell "_", .tok "of", .tell "_", .form "Value"]), ([], [.form "Value", .form "Power"])]),
  ("Giving", [(["giving"], [.tell "_", .tok "giving", .tell "_", .form "Signed"]), ([], [])]),
  ("Power", [(["^"], [.tell "_", .tok "^", .tell "_", .form "Signed"]), ([], [])]),
  ("Value", [([], [.form "First", .form "Suffixes"])]),
  ("Suffixes", [(["("], [.tok "(", .form "Args", .tok ")", .form "Suffixes"]), (["["], [.tok "[", .form "Expr", .tok "]", .form "Suffixes"]), (["."], [.tok ".", .tok "NAME", .form "Suffixes"]), ([], [])]),
  ("First", [(["NUMBER", "TEXT", "true", "false", "flags", "NAME", "CODE"], [.any]), (["only"], [.tok "only", .tok "(", .form "Someflags", .tok ")"]), (["("], [.tok "(", .form "Expr", .tok ")"]), (["["], [.tok "[", .form "Listed", .tok "]"]), (["make"], [.tok "make", .tell "_", .tok "NAME", .form "Pointname", .tok "(", .form "Made", .tok ")"])]),
  ("Listed", [(["]"], []), ([], [.act "@start", .form "Expr", .form "Listrest"])]),
  ("Listrest", [([".."], [.act "@end", .tell "_", .tok "..", .tell "_", .form "Expr"]), ([], [.act "@late", .form "Moreexprs", .act "@last"])]),
  ("Made", [([")"], []), ([], [.act "@first", .form "Named", .form "Morenamed", .act "@last"])]),
  ("Named", [([], [.tok "NAME", .tok ":", .tell "_", .form "Expr"])]),
  ("Morenamed", [([","], [.tok ",", .act "@may", .form "Named", .form "Morenamed"]), ([], [])])]
/-- a token's kind, as the program has it -/
def kindT (t : Tok) : List Nat := match t.kind with
  | 0 => codes t.bytes
  | 1 => signs "NAME"
  | 2 => signs "CODE"
  | 3 => signs "NUMBER"
  | 4 => signs "TEXT"
  | _ => (sgM.lookup (codes t.bytes)).getD []
def nextK (ts : List Tok) : List Nat := match ts with
  | [] => signs "END"
  | t :: _ => kindT t
def rowOf (k : List Nat) : List Row → Option (List Item)
  | [] => none
  | r :: rs => if r.1 = [] ∨ k ∈ r.1.map signs then some r.2 else rowOf k rs
inductive Out where
  | go (st : List Item) (ts : List Tok)
  | fail (ts : List Tok)
  | done (ts : List Tok)
/-- one step -/
def stepM : List Item → List Tok → Out
  | [], ts => .done ts
  | .form x :: st, ts => (match rowOf (nextK ts) ((forms.lookup x).getD []) with
    | some b => .go (b ++ st) ts
    | none => .fail ts)
  | .tell _ :: st, ts => .go st ts
  | .act _ :: st, ts => .go st ts
  | .any :: st, ts => .go st (ts.drop 1)
  | .tok x :: st, ts => if nextK ts = signs x then .go st (ts.drop 1) else .fail ts
/-- from one state to another -/
inductive Reach : List Item → List Tok → List Item → List Tok → Prop
  | refl {a : List Item} {ts : List Tok} : Reach a ts a ts
  | step {a b c : List Item} {ts us vs : List Tok} : stepM a ts = .go b us → Reach b us c vs → Reach a ts c vs
/-- from a state to a fault -/
inductive Fails : List Item → List Tok → List Tok → Prop
  | now {a : List Item} {ts us : List Tok} : stepM a ts = .fail us → Fails a ts us
  | step {a b : List Item} {ts us vs : List Tok} : stepM a ts = .go b us → Fails b us vs → Fails a ts vs
theorem Reach.trans {a b c : List Item} {ts us vs : List Tok} (h : Reach a ts b us) (g : Reach b us c vs) : Reach a ts c vs := by
  induction h with
  | refl => exact g
  | step s _ ih => exact .step s (ih g)
theorem Reach.fails {a b : List Item} {ts us vs : List Tok} (h : Reach a ts b us) (g : Fails b us vs) : Fails a ts vs := by
  induction h with
  | refl => exact g
  | step s _ ih => exact .step s (ih g)
/-- **what the specification reads, the machine reads**: from the items ahead of any others -/
def Sim {α : Type} (fin : Fault) (a : List Item) (s : St) (r : Except Fault α) (out : α → St) : Prop := match r with
  | .ok x => (∀ st, Reach (a ++ st) s.toks st (out x).toks)
  | .error e => ∃ u, (∀ st, Fails (a ++ st) s.toks u.toks) ∧ e = bad fin u
theorem bad_toks {fin : Fault} {s s' : St} (h : s.toks = s'.toks) : bad fin s = bad fin s' := by
  unfold bad
  rw [h]
end La
set_option maxHeartbeats 200000
/-! What the specification asks of the next token is what the machine asks of its kind; no library. -/
namespace La
open EwTree
/-- a token as the scanner makes it -/
def VT (t : Tok) : Prop := (t.kind = 0 ∧ isKeyword t.bytes = true) ∨ t.kind = 1 ∨ t.kind = 2 ∨ t.kind = 3 ∨ t.kind = 4 ∨ (t.kind = 5 ∧ t.bytes ∈ SIGNS)
def VS (ts : List Tok) : Prop := ∀ t ∈ ts, VT t
theorem VS.tail {ts : List Tok} (h : VS ts) : VS (ts.drop 1) := fun t ht => h t (List.mem_of_mem_drop ht)
/-- a keyword's signs are no other kind's -/
theorem kind_kw {t : Tok} (h : VT t) {w : String} (hw : isKeyword (word w) = true) (hs : signs w = codes (word w)) : (t.kind == 0 && t.bytes == word w) = decide (kindT t = signs w) := by
  have hk := kind_key hw
  rw [Bool.eq_iff_iff, Bool.and_eq_true, beq_iff_eq, beq_iff_eq, decide_eq_true_eq, hs]
  unfold kindT
  rcases h with ⟨h0, hb⟩ | h1 | h2 | h3 | h4 | ⟨h5, hb⟩
  · simp only [h0, true_and]
    constructor
    · intro e
      rw [e]
    · exact codes_inj
  · simp only [h1]
    constructor
    · rintro ⟨e, _⟩; cases e
    · intro e
      have := hk.1
      rw [← e] at this
      exact absurd this (by decide)
  · simp only [h2]
    constructor
    · rintro ⟨e, _⟩; cases e
    · intro e
      have := hk.1
      rw [← e] at this
      exact absurd this (by decide)
  · simp only [h3]
    constructor
    · rintro ⟨e, _⟩; cases e
    · intro e
      have := hk.1
      rw [← e] at this
      exact absurd this (by decide)
  · simp only [h4]
    constructor
    · rintro ⟨e, _⟩; cases e
    · intro e
      exact absurd e.symm hk.2
  · simp only [h5]
    constructor
    · rintro ⟨e, _⟩; cases e
    · intro e
      have hm : codes t.bytes ∈ sgM.map (·.1) := by
        have a : (SIGNS.all fun s => decide (codes s ∈ sgM.map (·.1))) = true := by decide +kernel
        exact of_decide_eq_true (List.all_eq_true.mp a _ hb)
      obtain ⟨z, hz⟩ := lookup_some hm
      rw [hz] at e
      have e' : z = codes (word w) := e
      have := (sign_kind hz).1
      rw [e', hk.1] at this
      cases this
theorem sg_inj {s u : Bytes} (hs : s ∈ SIGNS) (hu : u ∈ SIGNS) (h : sgM.lookup (codes s) = sgM.lookup (codes u)) : s = u := by
  have a : (SIGNS.all fun s => SIGNS.all fun u => decide (sgM.lookup (codes s) = sgM.lookup (codes u) → s = u)) = true := by decide +kernel
  exact of_decide_eq_true (List.all_eq_true.mp (List.all_eq_true.mp a s hs) u hu) h
/-- a sign's kind -/
theorem kind_sg {t : Tok} (h : VT t) {w : String} {z : List Nat} (hw : word w ∈ SIGNS) (hz : sgM.lookup (codes (word w)) = some z) : (t.kind == 5 && t.bytes == word w) = decide (kindT t = z) := by
  have hk := sign_kind hz
  rw [Bool.eq_iff_iff, Bool.and_eq_true, beq_iff_eq, beq_iff_eq, decide_eq_true_eq]
  unfold kindT
  rcases h with ⟨h0, hb⟩ | h1 | h2 | h3 | h4 | ⟨h5, hb⟩
  · simp only [h0]
    constructor
    · rintro ⟨e, _⟩; cases e
    · intro e
      have := hk.1
      rw [← e, (kind_key hb).1] at this
      cases this
  · simp only [h1]
    constructor
    · rintro ⟨e, _⟩; cases e
    · intro e
      have := hk.1
      rw [← e] at this
      exact absurd this (by decide)
  · simp only [h2]
    constructor
    · rintro ⟨e, _⟩; cases e
    · intro e
      have := hk.1
      rw [← e] at this
      exact absurd this (by decide)
  · simp only [h3]
    constructor
    · rintro ⟨e, _⟩; cases e
    · intro e
      have := hk.1
      rw [← e] at this
      exact absurd this (by decide)
  · simp only [h4]
    constructor
    · rintro ⟨e, _⟩; cases e
    · intro e
      exact absurd e.symm hk.2.1
  · simp only [h5, true_and]
    constructor
    · intro e
      rw [e, hz]
      rfl
    · intro e
      have hm : codes t.bytes ∈ sgM.map (·.1) := by
        have a : (SIGNS.all fun s => decide (codes s ∈ sgM.map (·.1))) = true := by decide +kernel
        exact of_decide_eq_true (List.all_eq_true.mp a _ hb)
      obtain ⟨y, hy⟩ := lookup_some hm
      rw [hy] at e
      have e' : y = z := e
      exact sg_inj hb hw (by rw [hy, hz, e'])
end La
set_option maxHeartbeats 200000
/-! Sorts: the machine reads what the specification reads; no library. -/
namespace La
open EwTree
theorem key_is {s : St} (hv : VS s.toks) {w : String} (hw : isKeyword (word w) = true) (hs : signs w = codes (word w)) : s.key w = decide (nextK s.toks = signs w) := by
  unfold St.key St.is nextK
  cases h : s.toks with
  | nil =>
    simp only
    rw [eq_comm, decide_eq_false_iff_not, hs]
    intro e
    have hm : codes (word w) ∈ keyL := mem_keyL.mpr hw
    rw [← e] at hm
    exact absurd hm (by decide +kernel)
  | cons t r =>
    simp only
    exact kind_kw (hv t (by rw [h]; simp)) hw hs
theorem sign_is {s : St} (hv : VS s.toks) {w : String} (hw : word w ∈ SIGNS) (hz : sgM.lookup (codes (word w)) = some (signs w)) : s.sign w = decide (nextK s.toks = signs w) := by
  unfold St.sign St.is nextK
  cases h : s.toks with
  | nil =>
    simp only
    rw [eq_comm, decide_eq_false_iff_not]
    intro e
    have hk := (sign_kind hz).1
    have a : ∀ x ∈ sgM, x.2 ≠ signs "END" := by
      have b : (sgM.all fun x => decide (x.2 ≠ signs "END")) = true := by decide +kernel
      exact fun x hx => of_decide_eq_true (List.all_eq_true.mp b x hx)
    exact a _ (lookup_mem hz) e.symm
  | cons t r =>
    simp only
    exact kind_sg (hv t (by rw [h]; simp)) hw hz
theorem skip_toks (s : St) : s.skip.toks = s.toks.drop 1 := by
  unfold St.skip
  cases h : s.toks with
  | nil => simp [h]
  | cons t r => rfl
/-- the machine's end from items: come through, or a fault -/
inductive Runs : List Item → List Tok → Sum (List Tok) (List Tok) → Prop
  | ok {a : List Item} {ts vs : List Tok} : (∀ st, Reach (a ++ st) ts st vs) → Runs a ts (.inl vs)
  | no {a : List Item} {ts us : List Tok} : (∀ st, Fails (a ++ st) ts us) → Runs a ts (.inr us)
theorem Runs.nil {ts : List Tok} : Runs [] ts (.inl ts) := .ok fun _ => .refl
theorem Runs.app {a b : List Item} {ts us : List Tok} {R : Sum (List Tok) (List Tok)} (h : Runs a ts (.inl us)) (g : Runs b us R) : Runs (a ++ b) ts R := by
  cases h with
  | ok h =>
    cases g with
    | ok g =>
      refine .ok fun st => ?_
      rw [List.append_assoc]
      exact (h _).trans (g st)
    | no g =>
      refine .no fun st => ?_
      rw [List.append_assoc]
      exact (h _).fails (g st)
theorem Runs.stop {a : List Item} {ts us : List Tok} (b : List Item) (h : Runs a ts (.inr us)) : Runs (a ++ b) ts (.inr us) := by
  cases h with
  | no h =>
    refine .no fun st => ?_
    rw [List.append_assoc]
    exact h _
theorem Runs.step {i : Item} {a b : List Item} {ts us : List Tok} {R : Sum (List Tok) (List Tok)} (h : ∀ st, stepM (i :: (a ++ st)) ts = .go (b ++ st) us) (g : Runs b us R) : Runs (i :: a) ts R := by
  cases g with
  | ok g => exact .ok fun st => .step (h st) (g st)
  | no g => exact .no fun st => .step (h st) (g st)
theorem Runs.tell {x : String} {a : List Item} {ts : List Tok} {R : Sum (List Tok) (List Tok)} (g : Runs a ts R) : Runs (.tell x :: a) ts R := .step (fun _ => rfl) g
theorem Runs.act {x : String} {a : List Item} {ts : List Tok} {R : Sum (List Tok) (List Tok)} (g : Runs a ts R) : Runs (.act x :: a) ts R := .step (fun _ => rfl) g
theorem Runs.any {a : List Item} {ts : List Tok} {R : Sum (List Tok) (List Tok)} (g : Runs a (ts.drop 1) R) : Runs (.any :: a) ts R := .step (fun _ => rfl) g
theorem Runs.tok {x : String} {a : List Item} {ts : List Tok} {R : Sum (List Tok) (List Tok)} (h : nextK ts = signs x) (g : Runs a (ts.drop 1) R) : Runs (.tok x :: a) ts R := .step (fun _ => if_pos h) g
theorem Runs.bad {x : String} {a : List Item} {ts : List Tok} (h : nextK ts ≠ signs x) : Runs (.tok x :: a) ts (.inr ts) := .no fun _ => .now (if_neg h)
theorem Runs.form {f : String} {a b : List Item} {ts : List Tok} {R : Sum (List Tok) (List Tok)} (h : rowOf (nextK ts) ((forms.lookup f).getD []) = some b) (g : Runs (b ++ a) ts R) : Runs (.form f :: a) ts R :=
  .step (fun st => by
    show (match rowOf (nextK ts) ((forms.lookup f).getD []) with | some b => Out.go (b ++ (a ++ st)) ts | none => .fail ts) = _
    rw [h, List.append_assoc]) g
theorem Runs.noform {f : String} {a : List Item} {ts : List Tok} (h : rowOf (nextK ts) ((forms.lookup f).getD []) = none) : Runs (.form f :: a) ts (.inr ts) := .no fun _ => .now (by
    show (match rowOf (nextK ts) ((forms.lookup f).getD []) with | some b => Out.go _ ts | none => .fail ts) = _
    rw [h])
/-- a form by itself, then others -/
theorem Runs.one {f : String} {a : List Item} {ts us : List Tok} {R : Sum (List Tok) (List Tok)} (h : Runs [.form f] ts (.inl us)) (g : Runs a us R) : Runs (.form f :: a) ts R := h.app g
theorem Runs.oneNo {f : String} {a : List Item} {ts us : List Tok} (h : Runs [.form f] ts (.inr us)) : Runs (.form f :: a) ts (.inr us) := h.stop a
/-- the specification's result as the machine's -/
def Res {α : Type} (fin : Fault) (out : α → St) (r : Except Fault α) : Sum (List Tok) (List Tok) → Prop
  | .inl vs => ∃ x, r = .ok x ∧ (out x).toks = vs
  | .inr us => r = .error (bad fin ⟨0, us⟩)
/-- X reads at s what the items read -/
def SameR {α : Type} (fin : Fault) (a : List Item) (s : St) (out : α → St) (r : Except Fault α) : Prop := ∃ R, Runs a s.toks R ∧ Res fin out r R
end La
set_option maxHeartbeats 200000
/-! Sorts: the machine reads what the specification reads; no library. -/
namespace La
open EwTree
def kwOk (w : String) : Bool := isKeyword (word w) && decide (signs w = codes (word w))
theorem key_of {s : St} (hv : VS s.toks) {w : String} (h : kwOk w = true) : s.key w = decide (nextK s.toks = signs w) := by
  obtain ⟨h1, h2⟩ := Bool.and_eq_true_iff.mp h
  exact key_is hv h1 (of_decide_eq_true h2)
def sgOk (w : String) : Bool := decide (word w ∈ SIGNS ∧ sgM.lookup (codes (word w)) = some (signs w))
theorem sign_of {s : St} (hv : VS s.toks) {w : String} (h : sgOk w = true) : s.sign w = decide (nextK s.toks = signs w) := by
  obtain ⟨h1, h2⟩ := of_decide_eq_true h
  exact sign_is hv h1 h2
theorem oneOf_some {s : St} (hv : VS s.toks) : ∀ {l : List String} {k : Nat}, l.all kwOk = true → oneOf l s = some k → ∃ w ∈ l, nextK s.toks = signs w
  | [], k, _, h => by cases h
  | w :: r, k, ha, h => by
    obtain ⟨h1, h2⟩ := Bool.and_eq_true_iff.mp (show (kwOk w && r.all kwOk) = true from ha)
    unfold oneOf at h
    rw [List.findIdx?_cons] at h
    by_cases c : s.key w = true
    · rw [key_of hv h1] at c
      exact ⟨w, by simp, of_decide_eq_true c⟩
    · rw [if_neg c] at h
      cases e : r.findIdx? (fun w => s.key w) with
      | none =>
        rw [e] at h
        cases h
      | some j =>
        obtain ⟨u, hu, eu⟩ := oneOf_some hv (l := r) (k := j) h2 e
        exact ⟨u, by simp [hu], eu⟩
theorem oneOf_none {s : St} (hv : VS s.toks) {l : List String} (ha : l.all kwOk = true) (h : oneOf l s = none) : ∀ w ∈ l, nextK s.toks ≠ signs w := by
  intro w hw e
  have h1 := List.findIdx?_eq_none_iff.mp h w hw
  rw [key_of hv (List.all_eq_true.mp ha w hw), decide_eq_true e] at h1
  cases h1
theorem rowOf_none {k : List Nat} : ∀ {rows : List Row}, (∀ r ∈ rows, r.1 ≠ [] ∧ k ∉ r.1.map signs) → rowOf k rows = none
  | [], _ => rfl
  | r :: rs, h => by
    obtain ⟨h1, h2⟩ := h r (by simp)
    unfold rowOf
    rw [if_neg (by
      rintro (h | h)
      · exact h1 h
      · exact h2 h)]
    exact rowOf_none fun x hx => h x (by simp [hx])
theorem take_same {fin : Fault} {n : Nat} {x : String} {s : St} (hv : VS s.toks) (hn : ∀ t, VT t → (t.kind = n ↔ kindT t = signs x)) (hx : signs x ≠ signs "END") : SameR fin [.tok x] s (·.2) (take fin n s) := by
  unfold take
  cases h : s.toks with
  | nil =>
    refine ⟨.inr [], ?_, rfl⟩
    rw [h]
    exact .bad fun e => hx e.symm
  | cons t r =>
    have ht := hn t (hv t (by rw [h]; simp))
    simp only
    by_cases c : t.kind = n
    · rw [if_pos c]
      refine ⟨.inl r, ?_, _, rfl, rfl⟩
      rw [h]
      exact .tok (ht.mp c) .nil
    · rw [if_neg c]
      refine ⟨.inr (t :: r), ?_, rfl⟩
      rw [h]
      exact .bad fun e => c (ht.mpr e)
theorem kind_num {n : Nat} {x : String} (h : (n, x) ∈ [(1, "NAME"), (2, "CODE"), (3, "NUMBER"), (4, "TEXT")]) (t : Tok) (hv : VT t) : t.kind = n ↔ kindT t = signs x := by
  have key : ∀ {w : Bytes}, isKeyword w = true → codes w ∉ ["NAME", "CODE", "NUMBER", "TEXT"].map signs := key_plain
  have sg : ∀ {s : Bytes}, s ∈ SIGNS → (sgM.lookup (codes s)).getD [] ∉ ["NAME", "CODE", "NUMBER", "TEXT"].map signs := fun {s} hs => by
    have a : (SIGNS.all fun s => decide ((sgM.lookup (codes s)).getD [] ∉ ["NAME", "CODE", "NUMBER", "TEXT"].map signs)) = true := by decide +kernel
    exact of_decide_eq_true (List.all_eq_true.mp a s hs)
  have hx : signs x ∈ ["NAME", "CODE", "NUMBER", "TEXT"].map signs := by
    simp only [List.mem_cons, Prod.mk.injEq, List.not_mem_nil, or_false] at h
    rcases h with ⟨_, e⟩ | ⟨_, e⟩ | ⟨_, e⟩ | ⟨_, e⟩ <;> subst e <;> decide +kernel
  unfold kindT
  rcases hv with ⟨h0, hb⟩ | h1 | h2 | h3 | h4 | ⟨h5, hb⟩
  · simp only [h0]
    constructor
    · intro e
      simp only [List.mem_cons, Prod.mk.injEq, List.not_mem_nil, or_false] at h
      omega
    · intro e
      exact absurd (e ▸ hx) (key hb)
  · simp only [h1]
    simp only [List.mem_cons, Prod.mk.injEq, List.not_mem_nil, or_false] at h
    rcases h with ⟨e1, e⟩ | ⟨e1, e⟩ | ⟨e1, e⟩ | ⟨e1, e⟩ <;> subst e1 <;> subst e <;> decide +kernel
  · simp only [h2]
    simp only [List.mem_cons, Prod.mk.injEq, List.not_mem_nil, or_false] at h
    rcases h with ⟨e1, e⟩ | ⟨e1, e⟩ | ⟨e1, e⟩ | ⟨e1, e⟩ <;> subst e1 <;> subst e <;> decide +kernel
  · simp only [h3]
    simp only [List.mem_cons, Prod.mk.injEq, List.not_mem_nil, or_false] at h
    rcases h with ⟨e1, e⟩ | ⟨e1, e⟩ | ⟨e1, e⟩ | ⟨e1, e⟩ <;> subst e1 <;> subst e <;> decide +kernel
  · simp only [h4]
    simp only [List.mem_cons, Prod.mk.injEq, List.not_mem_nil, or_false] at h
    rcases h with ⟨e1, e⟩ | ⟨e1, e⟩ | ⟨e1, e⟩ | ⟨e1, e⟩ <;> subst e1 <;> subst e <;> decide +kernel
  · simp only [h5]
    constructor
    · intro e
      simp only [List.mem_cons, Prod.mk.injEq, List.not_mem_nil, or_false] at h
      omega
    · intro e
      exact absurd (e ▸ hx) (sg hb)
/-- eat: the token if it's the one -/
theorem eat_key {fin : Fault} {w : String} {s : St} (hv : VS s.toks) (h : kwOk w = true) : SameR fin [.tok w] s id (eat fin (s.key w) s) := by
  unfold eat
  rw [key_of hv h]
  by_cases c : nextK s.toks = signs w
  · rw [decide_eq_true c, if_pos rfl]
    refine ⟨.inl (s.toks.drop 1), .tok c .nil, _, rfl, skip_toks s⟩
  · rw [decide_eq_false c, if_neg (by simp)]
    exact ⟨.inr s.toks, .bad c, congrArg Except.error (bad_toks (s' := ⟨0, s.toks⟩) rfl)⟩
theorem eat_sign {fin : Fault} {w : String} {s : St} (hv : VS s.toks) (h : sgOk w = true) : SameR fin [.tok w] s id (eat fin (s.sign w) s) := by
  unfold eat
  rw [sign_of hv h]
  by_cases c : nextK s.toks = signs w
  · rw [decide_eq_true c, if_pos rfl]
    refine ⟨.inl (s.toks.drop 1), .tok c .nil, _, rfl, skip_toks s⟩
  · rw [decide_eq_false c, if_neg (by simp)]
    exact ⟨.inr s.toks, .bad c, congrArg Except.error (bad_toks (s' := ⟨0, s.toks⟩) rfl)⟩
end La
set_option maxHeartbeats 200000
/-! Good: the items read what a piece of the specification's reader reads, and at least so many tokens; sorts by it; no library. -/
namespace La
open EwTree
def Good {α : Type} (fin : Fault) (a : List Item) (s : St) (out : α → St) (r : Except Fault α) (d : Nat) : Prop :=
  (∃ x n, r = .ok x ∧ d ≤ n ∧ n ≤ s.toks.length ∧ (out x).toks = s.toks.drop n ∧ Runs a s.toks (.inl (s.toks.drop n))) ∨ (∃ us, r = .error (bad fin ⟨0, us⟩) ∧ Runs a s.toks (.inr us))
theorem VS.drop {ts : List Tok} (h : VS ts) (n : Nat) : VS (ts.drop n) := fun t ht => h t (List.mem_of_mem_drop ht)
theorem Good.weak {α : Type} {fin : Fault} {a : List Item} {s : St} {out : α → St} {r : Except Fault α} {d e : Nat} (h : Good fin a s out r d) (he : e ≤ d) : Good fin a s out r e := by
  rcases h with ⟨x, n, h1, h2, h3⟩ | h
  · exact .inl ⟨x, n, h1, by omega, h3⟩
  · exact .inr h
theorem Good.bind {α β : Type} {fin : Fault} {a b : List Item} {s : St} {out : α → St} {out2 : β → St} {r : Except Fault α} {g : α → Except Fault β} {d d2 : Nat} (hv : VS s.toks) (h : Good fin a s out r d)
    (k : ∀ x, VS (out x).toks → (out x).toks.length + d ≤ s.toks.length → Good fin b (out x) out2 (g x) d2) : Good fin (a ++ b) s out2 (r >>= g) (d + d2) := by
  rcases h with ⟨x, n, rfl, h2, h3, h4, h5⟩ | ⟨us, rfl, h⟩
  · have q := k x (by rw [h4]; exact hv.drop n) (by rw [h4, List.length_drop]; omega)
    rcases q with ⟨y, m, e1, e2, e3, e4, e5⟩ | ⟨us, e1, e2⟩
    · rw [h4, List.length_drop] at e3
      rw [h4, List.drop_drop] at e4 e5
      refine .inl ⟨y, n + m, e1, by omega, by omega, e4, ?_⟩
      exact h5.app e5
    · rw [h4] at e2
      exact .inr ⟨us, e1, h5.app e2⟩
  · exact .inr ⟨us, rfl, h.stop b⟩
theorem Good.pure {α : Type} {fin : Fault} {s : St} {out : α → St} {x : α} (h : (out x).toks = s.toks) : Good fin [] s out (.ok x) 0 :=
  .inl ⟨x, 0, rfl, Nat.le_refl _, Nat.zero_le _, h, .nil⟩
theorem Good.tell {α : Type} {fin : Fault} {w : String} {a : List Item} {s : St} {out : α → St} {r : Except Fault α} {d : Nat} (h : Good fin a s out r d) : Good fin (.tell w :: a) s out r d := by
  rcases h with ⟨x, n, h1, h2, h3, h4, h5⟩ | ⟨us, h1, h2⟩
  · exact .inl ⟨x, n, h1, h2, h3, h4, h5.tell⟩
  · exact .inr ⟨us, h1, h2.tell⟩
theorem Good.act {α : Type} {fin : Fault} {w : String} {a : List Item} {s : St} {out : α → St} {r : Except Fault α} {d : Nat} (h : Good fin a s out r d) : Good fin (.act w :: a) s out r d := by
  rcases h with ⟨x, n, h1, h2, h3, h4, h5⟩ | ⟨us, h1, h2⟩
  · exact .inl ⟨x, n, h1, h2, h3, h4, h5.act⟩
  · exact .inr ⟨us, h1, h2.act⟩
theorem Good.form {α : Type} {fin : Fault} {f : String} {a b : List Item} {s : St} {out : α → St} {r : Except Fault α} {d : Nat} (hf : rowOf (nextK s.toks) ((forms.lookup f).getD []) = some b) (h : Good fin (b ++ a) s out r d) : Good fin (.form f :: a) s out r d := by
  rcases h with ⟨x, n, h1, h2, h3, h4, h5⟩ | ⟨us, h1, h2⟩
  · exact .inl ⟨x, n, h1, h2, h3, h4, .form hf h5⟩
  · exact .inr ⟨us, h1, .form hf h2⟩
theorem Good.noform {α : Type} {fin : Fault} {f : String} {a : List Item} {s : St} {out : α → St} {d : Nat} (hf : rowOf (nextK s.toks) ((forms.lookup f).getD []) = none) : Good fin (.form f :: a) s out (.error (bad fin s) : Except Fault α) d :=
  .inr ⟨s.toks, congrArg Except.error (bad_toks rfl), .noform hf⟩
theorem next_ne {ts : List Tok} {w : String} (h : nextK ts = signs w) (hw : signs w ≠ signs "END") : 1 ≤ ts.length := by
  cases ts with
  | nil => exact absurd h.symm hw
  | cons t r => simp
/-- the token at hand is skipped -/
theorem Good.tok {α : Type} {fin : Fault} {w : String} {a : List Item} {s s' : St} {out : α → St} {r : Except Fault α} {d : Nat} (hn : nextK s.toks = signs w) (hw : signs w ≠ signs "END") (hs : s'.toks = s.toks.drop 1) (h : Good fin a s' out r d) : Good fin (.tok w :: a) s out r (d + 1) := by
  have h1 := next_ne hn hw
  rcases h with ⟨x, n, e1, e2, e3, e4, e5⟩ | ⟨us, e1, e2⟩
  · rw [hs, List.length_drop] at e3
    rw [hs, List.drop_drop] at e4 e5
    rw [show 1 + n = n + 1 by omega] at e4 e5
    exact .inl ⟨x, n + 1, e1, by omega, by omega, e4, .tok hn e5⟩
  · rw [hs] at e2
    exact .inr ⟨us, e1, .tok hn e2⟩
theorem Good.any {α : Type} {fin : Fault} {a : List Item} {s s' : St} {out : α → St} {r : Except Fault α} {d : Nat} (hn : 1 ≤ s.toks.length) (hs : s'.toks = s.toks.drop 1) (h : Good fin a s' out r d) : Good fin (.any :: a) s out r (d + 1) := by
  rcases h with ⟨x, n, e1, e2, e3, e4, e5⟩ | ⟨us, e1, e2⟩
  · rw [hs, List.length_drop] at e3
    rw [hs, List.drop_drop] at e4 e5
    rw [show 1 + n = n + 1 by omega] at e4 e5
    exact .inl ⟨x, n + 1, e1, by omega, by omega, e4, .any e5⟩
  · rw [hs] at e2
    exact .inr ⟨us, e1, .any e2⟩
theorem good_eatK {fin : Fault} {w : String} {s : St} (hv : VS s.toks) (h : kwOk w = true) (hw : signs w ≠ signs "END") : Good fin [.tok w] s id (eat fin (s.key w) s) 1 := by
  unfold eat
  rw [key_of hv h]
  by_cases c : nextK s.toks = signs w
  · rw [decide_eq_true c, if_pos rfl]
    exact .inl ⟨_, 1, rfl, Nat.le_refl _, next_ne c hw, skip_toks s, .tok c .nil⟩
  · rw [decide_eq_false c, if_neg (by simp)]
    exact .inr ⟨s.toks, congrArg Except.error (bad_toks rfl), .bad c⟩
theorem good_eatS {fin : Fault} {w : String} {s : St} (hv : VS s.toks) (h : sgOk w = true) (hw : signs w ≠ signs "END") : Good fin [.tok w] s id (eat fin (s.sign w) s) 1 := by
  unfold eat
  rw [sign_of hv h]
  by_cases c : nextK s.toks = signs w
  · rw [decide_eq_true c, if_pos rfl]
    exact .inl ⟨_, 1, rfl, Nat.le_refl _, next_ne c hw, skip_toks s, .tok c .nil⟩
  · rw [decide_eq_false c, if_neg (by simp)]
    exact .inr ⟨s.toks, congrArg Except.error (bad_toks rfl), .bad c⟩
theorem good_take {fin : Fault} {n : Nat} {x : String} {s : St} (hv : VS s.toks) (hn : ∀ t, VT t → (t.kind = n ↔ kindT t = signs x)) (hx : signs x ≠ signs "END") : Good fin [.tok x] s (·.2) (take fin n s) 1 := by
  unfold take
  cases h : s.toks with
  | nil =>
    refine .inr ⟨[], rfl, ?_⟩
    rw [h]
    exact .bad fun e => hx e.symm
  | cons t r =>
    have ht := hn t (hv t (by rw [h]; simp))
    simp only
    by_cases c : t.kind = n
    · rw [if_pos c]
      refine .inl ⟨_, 1, rfl, Nat.le_refl _, by rw [h]; simp, by rw [h]; rfl, ?_⟩
      rw [h]
      exact .tok (ht.mp c) .nil
    · rw [if_neg c]
      refine .inr ⟨t :: r, rfl, ?_⟩
      rw [h]
      exact .bad fun e => c (ht.mpr e)
end La
set_option maxHeartbeats 200000
/-! Sorts; no library. -/
namespace La
open EwTree
theorem num3 : ∀ t, VT t → (t.kind = 3 ↔ kindT t = signs "NUMBER") := kind_num (by simp)
theorem num1 : ∀ t, VT t → (t.kind = 1 ↔ kindT t = signs "NAME") := kind_num (by simp)
theorem num2 : ∀ t, VT t → (t.kind = 2 ↔ kindT t = signs "CODE") := kind_num (by simp)
theorem num4 : ∀ t, VT t → (t.kind = 4 ↔ kindT t = signs "TEXT") := kind_num (by simp)
theorem sort_basic {w : String} (h : w ∈ BASIC) : rowOf (signs w) ((forms.lookup "Sort").getD []) = some [.any] ∧ signs w ≠ signs "END" := by
  have a : (BASIC.all fun w => decide (rowOf (signs w) ((forms.lookup "Sort").getD []) = some [.any] ∧ signs w ≠ signs "END")) = true := by decide +kernel
  exact of_decide_eq_true (List.all_eq_true.mp a w h)
theorem row2 {k : List Nat} {h : String} {b : List Item} (hk : k ≠ signs h) : rowOf k [([h], b), ([], [])] = some [] := by
  unfold rowOf
  rw [if_neg (by
    rintro (e | e)
    · cases e
    · simp only [List.map_cons, List.map_nil, List.mem_cons, List.not_mem_nil, or_false] at e
      exact hk e)]
  unfold rowOf
  rw [if_pos (.inl rfl)]
theorem row1 {k : List Nat} {h : String} {b c : List Item} (hk : k ≠ signs h) : rowOf k [([h], b), ([], c)] = some c := by
  unfold rowOf
  rw [if_neg (by
    rintro (e | e)
    · cases e
    · simp only [List.map_cons, List.map_nil, List.mem_cons, List.not_mem_nil, or_false] at e
      exact hk e)]
  unfold rowOf
  rw [if_pos (.inl rfl)]
theorem take_no {fin : Fault} {n : Nat} {x : String} {s : St} (hv : VS s.toks) (hn : ∀ t, VT t → (t.kind = n ↔ kindT t = signs x)) (h : nextK s.toks ≠ signs x) : take fin n s = .error (bad fin s) := by
  unfold take bad
  cases e : s.toks with
  | nil => rfl
  | cons t r =>
    rw [e] at h
    simp only
    rw [if_neg fun c => h ((hn t (hv t (by rw [e]; simp))).mp c)]
/-- no row: none of the words that begin one -/
theorem no_row {k : List Nat} {rows : List Row} {heads : List String} (h : (rows.all fun r => decide (r.1 ≠ []) && r.1.all fun w => decide (w ∈ heads)) = true) (hk : ∀ w ∈ heads, k ≠ signs w) : rowOf k rows = none := by
  refine rowOf_none fun r hr => ?_
  obtain ⟨h1, h2⟩ := Bool.and_eq_true_iff.mp (List.all_eq_true.mp h r hr)
  refine ⟨of_decide_eq_true h1, fun hm => ?_⟩
  obtain ⟨w, hw, e⟩ := List.mem_map.mp hm
  exact hk w (of_decide_eq_true (List.all_eq_true.mp h2 w hw)) e.symm
theorem sort_good (fin : Fault) : ∀ f, (∀ s : St, VS s.toks → 24 * s.toks.length + 2 ≤ f → Good fin [.form "Sort"] s (fun x => x.2.2) (sortIn fin f s) 1) ∧
    (∀ s : St, VS s.toks → 24 * s.toks.length + 4 ≤ f → Good fin [.form "Sort", .form "Moresorts", .tok ")"] s (fun x => x.2.2) (sortsIn fin f s) 2) := by
  intro f
  induction f with
  | zero => exact ⟨fun s _ h => by omega, fun s _ h => by omega⟩
  | succ f ih =>
    obtain ⟨ih1, ih2⟩ := ih
    refine ⟨fun s hv hf => ?_, fun s hv hf => ?_⟩
    · have hvk : VS s.skip.toks := by rw [skip_toks]; exact hv.drop 1
      have hlk : s.skip.toks.length = s.toks.length - 1 := by rw [skip_toks, List.length_drop]
      unfold sortIn
      simp only
      cases hb : oneOf BASIC s with
      | some k =>
        obtain ⟨w, hw, e⟩ := oneOf_some hv (by decide +kernel) hb
        obtain ⟨e1, e2⟩ := sort_basic hw
        refine .form (b := [.any]) (by rw [e]; exact e1) ?_
        exact .any (next_ne e e2) (skip_toks s) (.pure rfl)
      | none =>
        simp only
        have hnb := oneOf_none hv (by decide +kernel) hb
        rw [key_of hv (w := "packed") (by decide +kernel)]
        by_cases c1 : nextK s.toks = signs "packed"
        · have hlen := next_ne c1 (by decide)
          rw [decide_eq_true c1, if_pos rfl]
          refine .form (b := [.tok "packed", .tell "_", .tok "NUMBER"]) (by rw [c1]; decide +kernel) ?_
          refine (Good.tok (d := 1) c1 (by decide) (skip_toks s) (.tell ?_)).weak (by omega)
          refine Good.bind (a := [.tok "NUMBER"]) (b := []) (d := 1) (d2 := 0) hvk (good_take hvk num3 (by decide)) ?_
          rintro ⟨n, s'⟩ _ _
          exact .pure rfl
        · rw [decide_eq_false c1, if_neg (by simp), key_of hv (w := "list") (by decide +kernel)]
          by_cases c2 : nextK s.toks = signs "list"
          · have hlen := next_ne c2 (by decide)
            rw [decide_eq_true c2, if_pos rfl]
            refine .form (b := [.tok "list", .tell "_", .tok "of", .tell "_", .form "Sort"]) (by rw [c2]; decide +kernel) ?_
            refine (Good.tok (d := 2) c2 (by decide) (skip_toks s) (.tell ?_)).weak (by omega)
            refine Good.bind (a := [.tok "of"]) (b := [.tell "_", .form "Sort"]) (d := 1) (d2 := 1) hvk (good_eatK hvk (by decide +kernel) (by decide)) ?_
            intro s' hv' hl'
            refine .tell ?_
            refine Good.bind (a := [.form "Sort"]) (b := []) (d := 1) (d2 := 0) hv' (ih1 s' hv' (by have : (id s').toks.length = s'.toks.length := rfl; omega)) ?_
            rintro ⟨x, m, s''⟩ _ _
            exact .pure rfl
          · rw [decide_eq_false c2, if_neg (by simp), key_of hv (w := "fibre") (by decide +kernel)]
            by_cases c3 : nextK s.toks = signs "fibre"
            · have hlen := next_ne c3 (by decide)
              rw [decide_eq_true c3, if_pos rfl]
              refine .form (b := [.tok "fibre", .form "Fibreof"]) (by rw [c3]; decide +kernel) ?_
              refine (Good.tok (d := 0) c3 (by decide) (skip_toks s) ?_).weak (by omega)
              rw [key_of hvk (w := "of") (by decide +kernel)]
              by_cases c4 : nextK s.skip.toks = signs "of"
              · have hlen2 := next_ne c4 (by decide)
                have hvk2 : VS s.skip.skip.toks := by rw [skip_toks]; exact hvk.drop 1
                have hlk2 : s.skip.skip.toks.length = s.skip.toks.length - 1 := by rw [skip_toks, List.length_drop]
                rw [decide_eq_true c4, if_pos rfl]
                refine .form (b := [.tell "_", .tok "of", .tell "_", .form "Sort"]) (by rw [c4]; decide +kernel) (.tell ?_)
                refine (Good.tok (d := 1) c4 (by decide) (skip_toks _) (.tell ?_)).weak (by omega)
                refine Good.bind (a := [.form "Sort"]) (b := []) (d := 1) (d2 := 0) hvk2 (ih1 _ hvk2 (by omega)) ?_
                rintro ⟨x, m, s''⟩ _ _
                exact .pure rfl
              · rw [decide_eq_false c4, if_neg (by simp)]
                exact .form (b := []) (row2 c4) (.pure rfl)
            · rw [decide_eq_false c3, if_neg (by simp), key_of hv (w := "fn") (by decide +kernel)]
              by_cases c5 : nextK s.toks = signs "fn"
              · have hlen := next_ne c5 (by decide)
                rw [decide_eq_true c5, if_pos rfl]
                refine .form (b := [.tok "fn", .tok "(", .form "Sorts", .tok ")", .form "Result"]) (by rw [c5]; decide +kernel) ?_
                refine (Good.tok (d := 2) c5 (by decide) (skip_toks s) ?_).weak (by omega)
                refine Good.bind (a := [.tok "("]) (b := [.form "Sorts", .tok ")", .form "Result"]) (d := 1) (d2 := 1) hvk (good_eatS hvk (by decide +kernel) (by decide)) ?_
                intro s1 hv1 hl1
                show Good fin [.form "Sorts", .tok ")", .form "Result"] s1 _ _ _
                have hl1' : s1.toks.length + 1 ≤ s.skip.toks.length := hl1
                have hv1' : VS s1.toks := hv1
                have hvk1 : VS s1.skip.toks := by rw [skip_toks]; exact hv1'.drop 1
                refine Good.bind (a := [.form "Sorts", .tok ")"]) (b := [.form "Result"]) (d := 1) (d2 := 0) hv1' (out := fun x => x.2.2) ?_ ?_
                · rw [sign_of hv1' (w := ")") (by decide +kernel)]
                  by_cases c6 : nextK s1.toks = signs ")"
                  · rw [decide_eq_true c6, if_pos rfl]
                    refine .form (b := []) (by rw [c6]; decide +kernel) ?_
                    exact .tok c6 (by decide) (skip_toks s1) (.pure rfl)
                  · rw [decide_eq_false c6, if_neg (by simp)]
                    exact .form (row1 c6) ((ih2 s1 hv1' (by omega)).weak (by omega))
                · rintro ⟨l, m, s2⟩ hv2 hl2
                  have hl2' : s2.toks.length + 1 ≤ s1.toks.length := hl2
                  have hv2' : VS s2.toks := hv2
                  have hvk2 : VS s2.skip.toks := by rw [skip_toks]; exact hv2'.drop 1
                  have hlk2 : s2.skip.toks.length = s2.toks.length - 1 := by rw [skip_toks, List.length_drop]
                  show Good fin [.form "Result"] s2 _ _ 0
                  simp only
                  rw [sign_of hv2' (w := "->") (by decide +kernel)]
                  by_cases c7 : nextK s2.toks = signs "->"
                  · have hlen2 := next_ne c7 (by decide)
                    rw [decide_eq_true c7, if_pos rfl]
                    refine .form (b := [.tell "_", .tok "->", .tell "_", .form "Sort"]) (by rw [c7]; decide +kernel) (.tell ?_)
                    refine (Good.tok (d := 1) c7 (by decide) (skip_toks _) (.tell ?_)).weak (by omega)
                    refine Good.bind (a := [.form "Sort"]) (b := []) (d := 1) (d2 := 0) hvk2 (ih1 _ hvk2 (by omega)) ?_
                    rintro ⟨x, k, s''⟩ _ _
                    exact .pure rfl
                  · rw [decide_eq_false c7, if_neg (by simp)]
                    exact .form (b := []) (row2 c7) (.pure rfl)
              · rw [decide_eq_false c5, if_neg (by simp)]
                by_cases c8 : nextK s.toks = signs "NAME"
                · refine .form (b := [.tok "NAME", .form "Pointname"]) (by rw [c8]; decide +kernel) ?_
                  refine Good.bind (a := [.tok "NAME"]) (b := [.form "Pointname"]) (d := 1) (d2 := 0) hv (good_take hv num1 (by decide)) ?_
                  rintro ⟨n, s1⟩ hv1 hl1
                  have hv1' : VS s1.toks := hv1
                  have hvk1 : VS s1.skip.toks := by rw [skip_toks]; exact hv1'.drop 1
                  show Good fin [.form "Pointname"] s1 _ _ 0
                  simp only
                  rw [sign_of hv1' (w := ".") (by decide +kernel)]
                  by_cases c9 : nextK s1.toks = signs "."
                  · rw [decide_eq_true c9, if_pos rfl]
                    refine .form (b := [.tok ".", .tok "NAME"]) (by rw [c9]; decide +kernel) ?_
                    refine (Good.tok (d := 1) c9 (by decide) (skip_toks _) ?_).weak (by omega)
                    refine Good.bind (a := [.tok "NAME"]) (b := []) (d := 1) (d2 := 0) hvk1 (good_take hvk1 num1 (by decide)) ?_
                    rintro ⟨k, s''⟩ _ _
                    exact .pure rfl
                  · rw [decide_eq_false c9, if_neg (by simp)]
                    exact .form (b := []) (row2 c9) (.pure rfl)
                · -- no sort begins so
                  have hr : rowOf (nextK s.toks) ((forms.lookup "Sort").getD []) = none := by
                    refine no_row (heads := BASIC ++ ["packed", "list", "fibre", "fn", "NAME"]) (by decide +kernel) fun w hw => ?_
                    rcases List.mem_append.mp hw with h | h
                    · exact hnb w h
                    · simp only [List.mem_cons, List.not_mem_nil, or_false] at h
                      rcases h with h | h | h | h | h <;> subst h <;> assumption
                  rw [take_no hv num1 c8]
                  exact .noform hr
    · unfold sortsIn
      refine Good.bind (a := [.form "Sort"]) (b := [.form "Moresorts", .tok ")"]) (d := 1) (d2 := 1) hv (ih1 s hv (by omega)) ?_
      rintro ⟨x, m, s1⟩ hv1 hl1
      have hv1' : VS s1.toks := hv1
      have hl1' : s1.toks.length + 1 ≤ s.toks.length := hl1
      have hvk1 : VS s1.skip.toks := by rw [skip_toks]; exact hv1'.drop 1
      have hlk1 : s1.skip.toks.length = s1.toks.length - 1 := by rw [skip_toks, List.length_drop]
      show Good fin [.form "Moresorts", .tok ")"] s1 _ _ 1
      simp only
      rw [sign_of hv1' (w := ",") (by decide +kernel)]
      by_cases c1 : nextK s1.toks = signs ","
      · have hlen := next_ne c1 (by decide)
        rw [decide_eq_true c1, if_pos rfl]
        refine .form (b := [.tok ",", .tell "_", .form "Sort", .form "Moresorts"]) (by rw [c1]; decide +kernel) ?_
        refine (Good.tok (d := 2) c1 (by decide) (skip_toks _) (.tell ?_)).weak (by omega)
        refine Good.bind (a := [.form "Sort", .form "Moresorts", .tok ")"]) (b := []) (d := 2) (d2 := 0) hvk1 (ih2 _ hvk1 (by omega)) ?_
        rintro ⟨l, k, s2⟩ _ _
        exact .pure rfl
      · rw [decide_eq_false c1, if_neg (by simp)]
        refine .form (b := []) (row2 c1) ?_
        refine Good.bind (a := [.tok ")"]) (b := []) (d := 1) (d2 := 0) hv1' (good_eatS hv1' (by decide +kernel) (by decide)) ?_
        intro s2 _ _
        exact .pure rfl
end La
set_option maxHeartbeats 200000
/-! Names, flags; no library. -/
namespace La
open EwTree
theorem skip_vs {s : St} (hv : VS s.toks) : VS s.skip.toks := by rw [skip_toks]; exact hv.drop 1
theorem skip_len (s : St) : s.skip.toks.length = s.toks.length - 1 := by rw [skip_toks, List.length_drop]
theorem names_good (fin : Fault) : ∀ f, ∀ s : St, VS s.toks → 24 * s.toks.length + 1 ≤ f → Good fin [.tok "NAME", .form "Morenames", .tok "]"] s (fun x => x.2) (namesIn fin "]" f s) 2 := by
  intro f
  induction f with
  | zero => intro s _ h; omega
  | succ f ih =>
    intro s hv hf
    unfold namesIn
    refine Good.bind (a := [.tok "NAME"]) (b := [.form "Morenames", .tok "]"]) (d := 1) (d2 := 1) hv (good_take hv num1 (by decide)) ?_
    rintro ⟨n, s1⟩ hv1 hl1
    have hv1' : VS s1.toks := hv1
    have hl1' : s1.toks.length + 1 ≤ s.toks.length := hl1
    have hlk1 := skip_len s1
    show Good fin [.form "Morenames", .tok "]"] s1 _ _ 1
    simp only
    rw [sign_of hv1' (w := ",") (by decide +kernel)]
    by_cases c1 : nextK s1.toks = signs ","
    · rw [decide_eq_true c1, if_pos rfl]
      refine .form (b := [.tok ",", .tell "_", .tok "NAME", .form "Morenames"]) (by rw [c1]; decide +kernel) ?_
      refine (Good.tok (d := 2) c1 (by decide) (skip_toks _) (.tell ?_)).weak (by omega)
      refine Good.bind (a := [.tok "NAME", .form "Morenames", .tok "]"]) (b := []) (d := 2) (d2 := 0) (skip_vs hv1') (ih _ (skip_vs hv1') (by omega)) ?_
      rintro ⟨l, s2⟩ _ _
      exact .pure rfl
    · rw [decide_eq_false c1, if_neg (by simp)]
      refine .form (b := []) (row2 c1) ?_
      refine Good.bind (a := [.tok "]"]) (b := []) (d := 1) (d2 := 0) hv1' (good_eatS hv1' (by decide +kernel) (by decide)) ?_
      intro s2 _ _
      exact .pure rfl
theorem flag_row {w : String} (h : w ∈ FLAGS) : rowOf (signs w) ((forms.lookup "Oneflag").getD []) = some [.any] ∧ signs w ≠ signs "END" := by
  have a : (FLAGS.all fun w => decide (rowOf (signs w) ((forms.lookup "Oneflag").getD []) = some [.any] ∧ signs w ≠ signs "END")) = true := by decide +kernel
  exact of_decide_eq_true (List.all_eq_true.mp a w h)
theorem only_good (fin : Fault) : ∀ f set, ∀ s : St, VS s.toks → 24 * s.toks.length + 1 ≤ f → Good fin [.form "Oneflag", .form "Moreflags", .tok ")"] s (fun x => x.2) (onlyIn fin f set s) 2 := by
  intro f
  induction f with
  | zero => intro set s _ h; omega
  | succ f ih =>
    intro set s hv hf
    have hlk := skip_len s
    unfold onlyIn
    cases hb : oneOf FLAGS s with
    | none =>
      have hn := oneOf_none hv (by decide +kernel) hb
      exact .noform (no_row (heads := FLAGS) (by decide +kernel) hn)
    | some k =>
      obtain ⟨w, hw, e⟩ := oneOf_some hv (by decide +kernel) hb
      obtain ⟨e1, e2⟩ := flag_row hw
      have hlen := next_ne e e2
      simp only
      refine .form (b := [.any]) (by rw [e]; exact e1) ?_
      refine (Good.any (d := 1) hlen (skip_toks s) ?_).weak (by omega)
      have hvk := skip_vs hv
      have hlk2 := skip_len s.skip
      rw [sign_of hvk (w := ",") (by decide +kernel)]
      by_cases c1 : nextK s.skip.toks = signs ","
      · have hlen2 := next_ne c1 (by decide)
        rw [decide_eq_true c1, if_pos rfl]
        refine .form (b := [.tok ",", .tell "_", .form "Oneflag", .form "Moreflags"]) (by rw [c1]; decide +kernel) ?_
        exact (Good.tok (d := 2) c1 (by decide) (skip_toks _) (.tell (ih _ _ (skip_vs hvk) (by omega)))).weak (by omega)
      · rw [decide_eq_false c1, if_neg (by simp)]
        refine .form (b := []) (row2 c1) ?_
        refine Good.bind (a := [.tok ")"]) (b := []) (d := 1) (d2 := 0) hvk (good_eatS hvk (by decide +kernel) (by decide)) ?_
        intro s2 _ _
        exact .pure rfl
end La
set_option maxHeartbeats 200000
/-! Expressions: the machine reads what the specification reads; no library. -/
namespace La
open EwTree
def levelF : Nat → List Item
  | 0 => [.form "Expr"]
  | 1 => [.form "Either"]
  | 2 => [.form "Both"]
  | 3 => [.form "Negated"]
  | 4 => [.form "Comparison"]
  | 5 => [.form "Cast"]
  | 6 => [.form "Sum"]
  | 7 => [.form "Product"]
  | 8 => [.form "Signed"]
  | 9 => [.form "Value", .form "Power"]
  | 10 => [.form "Value"]
  | _ => [.form "First"]
def moreF : Nat → String
  | 1 => "Moreor"
  | 2 => "Moreand"
  | 6 => "Moresum"
  | _ => "Moreproduct"
/-- what each function of the specification's reader reads, by so much fuel -/
structure EG (fin : Fault) (f : Nat) : Prop where
  expr : ∀ L, L ≤ 11 → ∀ s : St, VS s.toks → 24 * s.toks.length + (12 - L) ≤ f → Good fin (levelF L) s (fun x => x.2.2) (exprIn fin f L s) 1
  more : ∀ L, (L = 1 ∨ L = 2 ∨ L = 6 ∨ L = 7) → ∀ a x m (s : St), VS s.toks → 24 * s.toks.length + 1 ≤ f → Good fin [.form (moreF L)] s (fun x => x.2.2) (moreIn fin f L a x m s) 0
  cast : ∀ a x m (s : St), VS s.toks → 24 * s.toks.length + 1 ≤ f → Good fin [.form "Casts"] s (fun x => x.2.2) (castIn fin f a x m s) 0
  post : ∀ a x m (s : St), VS s.toks → 24 * s.toks.length + 1 ≤ f → Good fin [.form "Suffixes"] s (fun x => x.2.2) (postIn fin f a x m s) 0
  exprs : ∀ c, (c = ")" ∨ c = "]") → ∀ s : St, VS s.toks → 24 * s.toks.length + 13 ≤ f → Good fin [.form "Expr", .form "Moreexprs", .act "@last", .tok c] s (fun x => x.2.2) (exprsIn fin c f s) 2
  said : ∀ s : St, VS s.toks → 24 * s.toks.length + 13 ≤ f → Good fin [.form "Expr", .form "Moreexprs"] s (fun x => x.2.2) (exprsIn fin "" f s) 1
  fields : ∀ s : St, VS s.toks → 24 * s.toks.length + 13 ≤ f → Good fin [.form "Named", .form "Morenamed", .act "@last", .tok ")"] s (fun x => x.2.2) (fieldsIn fin f s) 2
theorem EG.zero (fin : Fault) : EG fin 0 where
  expr := fun L hL s _ h => by omega
  more := fun _ _ _ _ _ s _ h => by omega
  cast := fun _ _ _ s _ h => by omega
  post := fun _ _ _ s _ h => by omega
  exprs := fun _ _ s _ h => by omega
  said := fun s _ h => by omega
  fields := fun s _ h => by omega
variable {fin : Fault} {f : Nat}
theorem EG.exprs_step (G : EG fin f) (c : String) (hc : c = ")" ∨ c = "]") (s : St) (hv : VS s.toks) (hf : 24 * s.toks.length + 13 ≤ f + 1) :
    Good fin [.form "Expr", .form "Moreexprs", .act "@last", .tok c] s (fun x => x.2.2) (exprsIn fin c (f + 1) s) 2 := by
  unfold exprsIn
  refine Good.bind (a := [.form "Expr"]) (b := [.form "Moreexprs", .act "@last", .tok c]) (d := 1) (d2 := 1) hv (G.expr 0 (by omega) s hv (by omega)) ?_
  rintro ⟨x, m, s1⟩ hv1 hl1
  have hv1' : VS s1.toks := hv1
  have hl1' : s1.toks.length + 1 ≤ s.toks.length := hl1
  have hlk1 := skip_len s1
  show Good fin [.form "Moreexprs", .act "@last", .tok c] s1 _ _ 1
  simp only
  rw [sign_of hv1' (w := ",") (by decide +kernel)]
  by_cases c1 : nextK s1.toks = signs ","
  · have hlen := next_ne c1 (by decide)
    rw [decide_eq_true c1, if_pos rfl]
    refine .form (b := [.tok ",", .act "@may", .form "Expr", .form "Moreexprs"]) (by rw [c1]; decide +kernel) ?_
    refine (Good.tok (d := 2) c1 (by decide) (skip_toks _) (.act ?_)).weak (by omega)
    refine Good.bind (a := [.form "Expr", .form "Moreexprs", .act "@last", .tok c]) (b := []) (d := 2) (d2 := 0) (skip_vs hv1') (G.exprs c hc _ (skip_vs hv1') (by omega)) ?_
    rintro ⟨l, k, s2⟩ _ _
    exact .pure rfl
  · rw [decide_eq_false c1, if_neg (by simp)]
    refine .form (b := []) (row2 c1) (.act ?_)
    rcases hc with rfl | rfl
    · rw [if_neg (by decide)]
      refine Good.bind (a := [.tok ")"]) (b := []) (d := 1) (d2 := 0) hv1' (good_eatS hv1' (by decide +kernel) (by decide)) ?_
      intro s2 _ _
      exact .pure rfl
    · rw [if_neg (by decide)]
      refine Good.bind (a := [.tok "]"]) (b := []) (d := 1) (d2 := 0) hv1' (good_eatS hv1' (by decide +kernel) (by decide)) ?_
      intro s2 _ _
      exact .pure rfl
theorem EG.said_step (G : EG fin f) (s : St) (hv : VS s.toks) (hf : 24 * s.toks.length + 13 ≤ f + 1) :
    Good fin [.form "Expr", .form "Moreexprs"] s (fun x => x.2.2) (exprsIn fin "" (f + 1) s) 1 := by
  unfold exprsIn
  refine Good.bind (a := [.form "Expr"]) (b := [.form "Moreexprs"]) (d := 1) (d2 := 0) hv (G.expr 0 (by omega) s hv (by omega)) ?_
  rintro ⟨x, m, s1⟩ hv1 hl1
  have hv1' : VS s1.toks := hv1
  have hl1' : s1.toks.length + 1 ≤ s.toks.length := hl1
  have hlk1 := skip_len s1
  show Good fin [.form "Moreexprs"] s1 _ _ 0
  simp only
  rw [sign_of hv1' (w := ",") (by decide +kernel)]
  by_cases c1 : nextK s1.toks = signs ","
  · have hlen := next_ne c1 (by decide)
    rw [decide_eq_true c1, if_pos rfl]
    refine .form (b := [.tok ",", .act "@may", .form "Expr", .form "Moreexprs"]) (by rw [c1]; decide +kernel) ?_
    refine (Good.tok (d := 1) c1 (by decide) (skip_toks _) (.act ?_)).weak (by omega)
    refine Good.bind (a := [.form "Expr", .form "Moreexprs"]) (b := []) (d := 1) (d2 := 0) (skip_vs hv1') (G.said _ (skip_vs hv1') (by omega)) ?_
    rintro ⟨l, k, s2⟩ _ _
    exact .pure rfl
  · rw [decide_eq_false c1, if_neg (by simp), if_pos trivial]
    exact .form (b := []) (row2 c1) (.pure rfl)
theorem EG.fields_step (G : EG fin f) (s : St) (hv : VS s.toks) (hf : 24 * s.toks.length + 13 ≤ f + 1) :
    Good fin [.form "Named", .form "Morenamed", .act "@last", .tok ")"] s (fun x => x.2.2) (fieldsIn fin (f + 1) s) 2 := by
  unfold fieldsIn
  refine .form (b := [.tok "NAME", .tok ":", .tell "_", .form "Expr"]) rfl ?_
  refine (Good.bind (a := [.tok "NAME"]) (b := [.tok ":", .tell "_", .form "Expr", .form "Morenamed", .act "@last", .tok ")"]) (d := 1) (d2 := 2) hv (good_take hv num1 (by decide)) ?_).weak (by omega)
  rintro ⟨n, s0⟩ hv0 hl0
  have hv0' : VS s0.toks := hv0
  have hl0' : s0.toks.length + 1 ≤ s.toks.length := hl0
  show Good fin [.tok ":", .tell "_", .form "Expr", .form "Morenamed", .act "@last", .tok ")"] s0 _ _ 2
  refine (Good.bind (a := [.tok ":"]) (b := [.tell "_", .form "Expr", .form "Morenamed", .act "@last", .tok ")"]) (d := 1) (d2 := 2) hv0' (good_eatS hv0' (by decide +kernel) (by decide)) ?_).weak (by omega)
  intro s3 hv3 hl3
  have hv3' : VS s3.toks := hv3
  have hl3' : s3.toks.length + 1 ≤ s0.toks.length := hl3
  show Good fin [.tell "_", .form "Expr", .form "Morenamed", .act "@last", .tok ")"] s3 _ _ 2
  refine .tell (Good.bind (a := [.form "Expr"]) (b := [.form "Morenamed", .act "@last", .tok ")"]) (d := 1) (d2 := 1) hv3' (G.expr 0 (by omega) s3 hv3' (by omega)) ?_)
  rintro ⟨x, m, s1⟩ hv1 hl1
  have hv1' : VS s1.toks := hv1
  have hl1' : s1.toks.length + 1 ≤ s3.toks.length := hl1
  have hlk1 := skip_len s1
  show Good fin [.form "Morenamed", .act "@last", .tok ")"] s1 _ _ 1
  simp only
  rw [sign_of hv1' (w := ",") (by decide +kernel)]
  by_cases c1 : nextK s1.toks = signs ","
  · have hlen := next_ne c1 (by decide)
    rw [decide_eq_true c1, if_pos rfl]
    refine .form (b := [.tok ",", .act "@may", .form "Named", .form "Morenamed"]) (by rw [c1]; decide +kernel) ?_
    refine (Good.tok (d := 2) c1 (by decide) (skip_toks _) (.act ?_)).weak (by omega)
    refine Good.bind (a := [.form "Named", .form "Morenamed", .act "@last", .tok ")"]) (b := []) (d := 2) (d2 := 0) (skip_vs hv1') (G.fields _ (skip_vs hv1') (by omega)) ?_
    rintro ⟨l, k, s2⟩ _ _
    exact .pure rfl
  · rw [decide_eq_false c1, if_neg (by simp)]
    refine .form (b := []) (row2 c1) (.act ?_)
    refine Good.bind (a := [.tok ")"]) (b := []) (d := 1) (d2 := 0) hv1' (good_eatS hv1' (by decide +kernel) (by decide)) ?_
    intro s2 _ _
    exact .pure rfl
/-! operators -/
/-- an operator's kind: the remainder's sign has a word -/
def kk (x : Nat × Bool × String × Nat) : List Nat := if x.2.2.1 = "%" then signs "PERCENT" else signs x.2.2.1
def opKinds (L : Nat) : List (List Nat) := (OPS.filter fun x => x.1 == L).map kk
theorem pct_of {s : St} (hv : VS s.toks) : s.sign "%" = decide (nextK s.toks = signs "PERCENT") := by
  have hz : sgM.lookup (codes (word "%")) = some (signs "PERCENT") := by decide +kernel
  have hw : word "%" ∈ SIGNS := by decide +kernel
  unfold St.sign St.is nextK
  cases h : s.toks with
  | nil =>
    simp only
    decide +kernel
  | cons t r =>
    simp only
    exact kind_sg (hv t (by rw [h]; simp)) hw hz
theorem op_pred {s : St} (hv : VS s.toks) : ∀ x ∈ OPS, (if x.2.1 = true then s.key x.2.2.1 else s.sign x.2.2.1) = decide (nextK s.toks = kk x) := by
  intro x hx
  have a : (OPS.all fun x => if x.2.1 = true then kwOk x.2.2.1 && decide (x.2.2.1 ≠ "%") else (decide (x.2.2.1 = "%") || (sgOk x.2.2.1 && decide (x.2.2.1 ≠ "%")))) = true := by decide +kernel
  have q := List.all_eq_true.mp a x hx
  unfold kk
  by_cases c : x.2.1 = true
  · rw [if_pos c] at q ⊢
    obtain ⟨q1, q2⟩ := Bool.and_eq_true_iff.mp q
    rw [if_neg (of_decide_eq_true q2)]
    exact key_of hv q1
  · rw [if_neg c] at q ⊢
    rcases Bool.or_eq_true_iff.mp q with q1 | q1
    · have e := of_decide_eq_true q1
      rw [if_pos e, e]
      exact pct_of hv
    · obtain ⟨q2, q3⟩ := Bool.and_eq_true_iff.mp q1
      rw [if_neg (of_decide_eq_true q3)]
      exact sign_of hv q2
theorem op_of {s : St} (hv : VS s.toks) (L : Nat) : (opIn L s = none ∧ nextK s.toks ∉ opKinds L) ∨ (∃ op, opIn L s = some op) ∧ nextK s.toks ∈ opKinds L := by
  unfold opIn
  cases h : OPS.find? fun (x : Nat × Bool × String × Nat) => x.1 == L && (if x.2.1 = true then s.key x.2.2.1 else s.sign x.2.2.1) with
  | none =>
    refine .inl ⟨rfl, fun hm => ?_⟩
    obtain ⟨x, hx, e⟩ := List.mem_map.mp hm
    obtain ⟨hx1, hx2⟩ := List.mem_filter.mp hx
    have q := List.find?_eq_none.mp h x hx1
    rw [op_pred hv x hx1, e] at q
    simp [hx2] at q
  | some x =>
    have h1 := List.mem_of_find?_eq_some h
    have h2 := List.find?_some h
    obtain ⟨q1, q2⟩ := Bool.and_eq_true_iff.mp h2
    rw [op_pred hv x h1] at q2
    exact .inr ⟨⟨_, rfl⟩, List.mem_map.mpr ⟨x, List.mem_filter.mpr ⟨h1, q1⟩, (of_decide_eq_true q2).symm⟩⟩
theorem rowE {k : List Nat} {hs : List String} {b c : List Item} (h0 : hs ≠ []) (hk : ∀ w ∈ hs, k ≠ signs w) : rowOf k [(hs, b), ([], c)] = some c := by
  unfold rowOf
  rw [if_neg (by
    rintro (e | e)
    · exact h0 e
    · obtain ⟨w, hw, e2⟩ := List.mem_map.mp e
      exact hk w hw e2.symm)]
  unfold rowOf
  rw [if_pos (.inl rfl)]
def opHeads (L : Nat) : List String := match L with
  | 1 => ["or"]
  | 2 => ["and"]
  | 4 => ["==", "!=", "<", "<=", ">", ">="]
  | 6 => ["+", "-"]
  | _ => ["*", "/", "//", "PERCENT"]
theorem kinds_heads {L : Nat} (hL : L = 1 ∨ L = 2 ∨ L = 4 ∨ L = 6 ∨ L = 7) : opKinds L = (opHeads L).map signs := by
  rcases hL with rfl | rfl | rfl | rfl | rfl <;> decide +kernel
theorem heads_ne {L : Nat} {w : String} (hL : L = 1 ∨ L = 2 ∨ L = 4 ∨ L = 6 ∨ L = 7) (h : w ∈ opHeads L) : signs w ≠ signs "END" := by
  have a : ([1, 2, 4, 6, 7].all fun L => (opHeads L).all fun w => decide (signs w ≠ signs "END")) = true := by decide +kernel
  exact of_decide_eq_true (List.all_eq_true.mp (List.all_eq_true.mp a L (by rcases hL with h | h | h | h | h <;> simp [h])) w h)
theorem EG.more_step (G : EG fin f) (L : Nat) (hL : L = 1 ∨ L = 2 ∨ L = 6 ∨ L = 7) (a : Nat) (x : Expr) (m : List Mark) (s : St) (hv : VS s.toks) (hf : 24 * s.toks.length + 1 ≤ f + 1) :
    Good fin [.form (moreF L)] s (fun x => x.2.2) (moreIn fin (f + 1) L a x m s) 0 := by
  unfold moreIn
  have hlk := skip_len s
  have hL5 : L = 1 ∨ L = 2 ∨ L = 4 ∨ L = 6 ∨ L = 7 := by omega
  rcases op_of hv L with ⟨ho, hk⟩ | ⟨⟨op, ho⟩, hk⟩
  · rw [ho]
    rw [kinds_heads hL5] at hk
    have hk' : ∀ w ∈ opHeads L, nextK s.toks ≠ signs w := fun w hw e => hk (List.mem_map.mpr ⟨w, hw, e.symm⟩)
    refine .form (b := []) ?_ (.pure rfl)
    rcases hL with rfl | rfl | rfl | rfl <;> exact rowE (by simp) hk'
  · rw [ho]
    rw [kinds_heads hL5] at hk
    obtain ⟨w, hw, e⟩ := List.mem_map.mp hk
    have hne := heads_ne hL5 hw
    have hlen := next_ne e.symm hne
    have rest : Good fin (levelF (L + 1) ++ [.form (moreF L)]) s.skip (fun x => x.2.2) (exprIn fin f (L + 1) s.skip >>= fun z => moreIn fin f L a (.bin op x z.1) (marked op a z.2.2 (m ++ z.2.1)) z.2.2) 1 := by
      refine Good.bind (d := 1) (d2 := 0) (skip_vs hv) (G.expr (L + 1) (by omega) _ (skip_vs hv) (by omega)) ?_
      rintro ⟨y, k, s1⟩ hv1 hl1
      have hl1' : s1.toks.length + 1 ≤ s.skip.toks.length := hl1
      exact G.more L hL _ _ _ s1 hv1 (by omega)
    rcases hL with rfl | rfl | rfl | rfl
    · have c1 : nextK s.toks = signs "or" := by rw [← e]; simp [opHeads] at hw; rw [hw]
      refine .form (b := [.act "@may", .tok "or", .tell "_", .form "Both", .form "Moreor"]) (by rw [c1]; decide +kernel) (.act ?_)
      exact (Good.tok c1 (by decide) (skip_toks s) (.tell rest)).weak (by omega)
    · have c1 : nextK s.toks = signs "and" := by rw [← e]; simp [opHeads] at hw; rw [hw]
      refine .form (b := [.act "@may", .tok "and", .tell "_", .form "Negated", .form "Moreand"]) (by rw [c1]; decide +kernel) (.act ?_)
      exact (Good.tok c1 (by decide) (skip_toks s) (.tell rest)).weak (by omega)
    · refine .form (b := [.act "@may", .any, .tell "_", .form "Product", .form "Moresum"]) ?_ (.act ?_)
      · rw [← e]
        have q : ((opHeads 6).all fun w => decide (rowOf (signs w) ((forms.lookup (moreF 6)).getD []) = some [.act "@may", .any, .tell "_", .form "Product", .form "Moresum"])) = true := by decide +kernel
        exact of_decide_eq_true (List.all_eq_true.mp q w hw)
      · exact (Good.any hlen (skip_toks s) (.tell rest)).weak (by omega)
    · refine .form (b := [.act "@may", .any, .tell "_", .form "Signed", .form "Moreproduct"]) ?_ (.act ?_)
      · rw [← e]
        have q : ((opHeads 7).all fun w => decide (rowOf (signs w) ((forms.lookup (moreF 7)).getD []) = some [.act "@may", .any, .tell "_", .form "Signed", .form "Moreproduct"])) = true := by decide +kernel
        exact of_decide_eq_true (List.all_eq_true.mp q w hw)
      · exact (Good.any hlen (skip_toks s) (.tell rest)).weak (by omega)
end La
set_option maxHeartbeats 200000
/-! Expressions, further; no library. -/
namespace La
open EwTree
variable {fin : Fault} {f : Nat}
theorem round_row {w : String} (h : w ∈ EwTree.ROUNDS) : rowOf (signs w) ((forms.lookup "Castround").getD []) = some [.tell "_", .any] ∧ signs w ≠ signs "END" := by
  have a : (EwTree.ROUNDS.all fun w => decide (rowOf (signs w) ((forms.lookup "Castround").getD []) = some [.tell "_", .any] ∧ signs w ≠ signs "END")) = true := by decide +kernel
  exact of_decide_eq_true (List.all_eq_true.mp a w h)
/-- a token of a kind, if it's there -/
def optTok (n : Nat) (s : St) : Option Bytes × St := match s.toks with
  | [] => (none, s)
  | t :: r => if t.kind = n then (some t.bytes, (⟨t.halt_, r⟩ : St)) else (none, s)
theorem optTok_good {α : Type} {out : α → St} {n : Nat} {x g : String} {r : Except Fault α} {d : Nat} {a : List Item} {s : St} (hv : VS s.toks) (hn : ∀ t, VT t → (t.kind = n ↔ kindT t = signs x)) (hx : signs x ≠ signs "END")
    (hg : (forms.lookup g).getD [] = [([x], [.tell "_", .tok x]), ([], [])]) (h : Good fin a (optTok n s).2 out r d) : Good fin (.form g :: a) s out r d := by
  unfold optTok at h
  cases e : s.toks with
  | nil =>
    rw [e] at h
    refine .form (b := []) ?_ h
    rw [hg]
    exact row2 (by rw [e]; exact fun q => hx q.symm)
  | cons t q =>
    rw [e] at h
    simp only at h
    have ht := hn t (hv t (by rw [e]; simp))
    have hk : nextK s.toks = kindT t := by rw [e]; rfl
    by_cases c : t.kind = n
    · rw [if_pos c] at h
      refine .form (b := [.tell "_", .tok x]) ?_ (.tell ?_)
      · rw [hg, hk, ht.mp c]
        unfold rowOf
        rw [if_pos (.inr (by simp))]
      · exact (Good.tok (hk.trans (ht.mp c)) hx (by rw [e]; rfl) h).weak (by omega)
    · rw [if_neg c] at h
      refine .form (b := []) ?_ h
      rw [hg]
      exact row2 (by rw [hk]; exact fun q => c (ht.mpr q))
theorem optTok_vs {n : Nat} {s : St} (hv : VS s.toks) : VS (optTok n s).2.toks ∧ (optTok n s).2.toks.length ≤ s.toks.length := by
  unfold optTok
  cases e : s.toks with
  | nil => exact ⟨hv, by simp only; rw [e]; exact Nat.le_refl _⟩
  | cons t q =>
    simp only
    split
    · exact ⟨fun u hu => hv u (by rw [e]; simp [show u ∈ q from hu]), by simp⟩
    · exact ⟨hv, by rw [e]; exact Nat.le_refl _⟩
def optRound (s : St) : Nat × St := match oneOf EwTree.ROUNDS s with
  | some i => (i + 1, s.skip)
  | none => (0, s)
theorem optRound_good {α : Type} {out : α → St} {r : Except Fault α} {d : Nat} {a : List Item} {s : St} (hv : VS s.toks) (h : Good fin a (optRound s).2 out r d) : Good fin (.form "Castround" :: a) s out r d := by
  unfold optRound at h
  cases e : oneOf EwTree.ROUNDS s with
  | none =>
    rw [e] at h
    exact .form (b := []) (rowE (by simp) (oneOf_none hv (by decide +kernel) e)) h
  | some i =>
    rw [e] at h
    obtain ⟨w, hw, e1⟩ := oneOf_some hv (by decide +kernel) e
    obtain ⟨e2, e3⟩ := round_row hw
    refine .form (b := [.tell "_", .any]) (by rw [e1]; exact e2) (.tell ?_)
    exact (Good.any (next_ne e1 e3) (skip_toks s) h).weak (by omega)
theorem optRound_vs {s : St} (hv : VS s.toks) : VS (optRound s).2.toks ∧ (optRound s).2.toks.length ≤ s.toks.length := by
  unfold optRound
  cases e : oneOf EwTree.ROUNDS s with
  | none => exact ⟨hv, Nat.le_refl _⟩
  | some i =>
    have := skip_len s
    exact ⟨skip_vs hv, by simp only; omega⟩
theorem EG.cast_step (G : EG fin f) (a : Nat) (x : Expr) (m : List Mark) (s : St) (hv : VS s.toks) (hf : 24 * s.toks.length + 1 ≤ f + 1) : Good fin [.form "Casts"] s (fun x => x.2.2) (castIn fin (f + 1) a x m s) 0 := by
  have hlk := skip_len s
  have e0 : castIn fin (f + 1) a x m s = (if s.key "as" = true then (sortIn fin f s.skip >>= fun z => castIn fin f a (.as_ x z.1 (optTok 3 z.2.2).1 (optRound (optTok 3 z.2.2).2).1) (marked 52 a (optRound (optTok 3 z.2.2).2).2 (m ++ z.2.1)) (optRound (optTok 3 z.2.2).2).2) else .ok (x, m, s)) := by
    conv => lhs; unfold castIn
    rfl
  rw [e0, key_of hv (w := "as") (by decide +kernel)]
  by_cases c1 : nextK s.toks = signs "as"
  · have hlen := next_ne c1 (by decide)
    rw [decide_eq_true c1, if_pos rfl]
    refine .form (b := [.tell "_", .tok "as", .tell "_", .form "Sort", .form "Castnumber", .form "Castround", .form "Casts"]) (by rw [c1]; decide +kernel) (.tell ?_)
    refine (Good.tok (d := 1) c1 (by decide) (skip_toks s) (.tell ?_)).weak (by omega)
    refine Good.bind (a := [.form "Sort"]) (b := [.form "Castnumber", .form "Castround", .form "Casts"]) (d := 1) (d2 := 0) (skip_vs hv) ((sort_good fin f).1 _ (skip_vs hv) (by omega)) ?_
    rintro ⟨t, k, s1⟩ hv1 hl1
    have hv1' : VS s1.toks := hv1
    have hl1' : s1.toks.length + 1 ≤ s.skip.toks.length := hl1
    obtain ⟨v2, l2⟩ := optTok_vs (n := 3) hv1'
    obtain ⟨v3, l3⟩ := optRound_vs v2
    show Good fin [.form "Castnumber", .form "Castround", .form "Casts"] s1 _ _ 0
    exact optTok_good hv1' num3 (by decide) rfl (optRound_good v2 (G.cast _ _ _ _ v3 (by omega)))
  · rw [decide_eq_false c1, if_neg (by simp)]
    exact .form (b := []) (row2 c1) (.pure rfl)
theorem EG.args (G : EG fin f) (s : St) (hv : VS s.toks) (hf : 24 * s.toks.length + 13 ≤ f) : Good fin [.form "Args", .tok ")"] s (fun x => x.2.2)
    (if s.sign ")" = true then (.ok ([], [], s.skip) : Except Fault ((List Expr) × List Mark × St)) else exprsIn fin ")" f s) 1 := by
  rw [sign_of hv (w := ")") (by decide +kernel)]
  by_cases c6 : nextK s.toks = signs ")"
  · rw [decide_eq_true c6, if_pos rfl]
    refine .form (b := []) (by rw [c6]; decide +kernel) ?_
    exact .tok c6 (by decide) (skip_toks s) (.pure rfl)
  · rw [decide_eq_false c6, if_neg (by simp)]
    refine .form (b := [.act "@first", .form "Expr", .form "Moreexprs", .act "@last"]) (row1 c6) (.act ?_)
    exact (G.exprs ")" (.inl rfl) s hv hf).weak (by omega)
theorem EG.post_step (G : EG fin f) (a : Nat) (x : Expr) (m : List Mark) (s : St) (hv : VS s.toks) (hf : 24 * s.toks.length + 1 ≤ f + 1) : Good fin [.form "Suffixes"] s (fun x => x.2.2) (postIn fin (f + 1) a x m s) 0 := by
  have hlk := skip_len s
  have hvk := skip_vs hv
  unfold postIn
  rw [sign_of hv (w := "(") (by decide +kernel), sign_of hv (w := "[") (by decide +kernel), sign_of hv (w := ".") (by decide +kernel)]
  by_cases c1 : nextK s.toks = signs "("
  · have hlen := next_ne c1 (by decide)
    rw [decide_eq_true c1, if_pos rfl]
    refine .form (b := [.tok "(", .form "Args", .tok ")", .form "Suffixes"]) (by rw [c1]; decide +kernel) ?_
    refine (Good.tok (d := 1) c1 (by decide) (skip_toks s) ?_).weak (by omega)
    refine Good.bind (a := [.form "Args", .tok ")"]) (b := [.form "Suffixes"]) (d := 1) (d2 := 0) hvk (G.args _ hvk (by omega)) ?_
    rintro ⟨l, k, s1⟩ hv1 hl1
    have hl1' : s1.toks.length + 1 ≤ s.skip.toks.length := hl1
    exact G.post _ _ _ s1 hv1 (by omega)
  · rw [decide_eq_false c1, if_neg (by simp)]
    by_cases c2 : nextK s.toks = signs "["
    · have hlen := next_ne c2 (by decide)
      rw [decide_eq_true c2, if_pos rfl]
      refine .form (b := [.tok "[", .form "Expr", .tok "]", .form "Suffixes"]) (by rw [c2]; decide +kernel) ?_
      refine (Good.tok (d := 2) c2 (by decide) (skip_toks s) ?_).weak (by omega)
      refine Good.bind (a := [.form "Expr"]) (b := [.tok "]", .form "Suffixes"]) (d := 1) (d2 := 1) hvk (G.expr 0 (by omega) _ hvk (by omega)) ?_
      rintro ⟨l, k, s1⟩ hv1 hl1
      have hv1' : VS s1.toks := hv1
      have hl1' : s1.toks.length + 1 ≤ s.skip.toks.length := hl1
      show Good fin [.tok "]", .form "Suffixes"] s1 _ _ 1
      refine Good.bind (a := [.tok "]"]) (b := [.form "Suffixes"]) (d := 1) (d2 := 0) hv1' (good_eatS hv1' (by decide +kernel) (by decide)) ?_
      intro s2 hv2 hl2
      have hl2' : s2.toks.length + 1 ≤ s1.toks.length := hl2
      exact G.post _ _ _ s2 hv2 (by omega)
    · rw [decide_eq_false c2, if_neg (by simp)]
      by_cases c3 : nextK s.toks = signs "."
      · have hlen := next_ne c3 (by decide)
        rw [decide_eq_true c3, if_pos rfl]
        refine .form (b := [.tok ".", .tok "NAME", .form "Suffixes"]) (by rw [c3]; decide +kernel) ?_
        refine (Good.tok (d := 1) c3 (by decide) (skip_toks s) ?_).weak (by omega)
        refine Good.bind (a := [.tok "NAME"]) (b := [.form "Suffixes"]) (d := 1) (d2 := 0) hvk (good_take hvk num1 (by decide)) ?_
        rintro ⟨n, s1⟩ hv1 hl1
        have hl1' : s1.toks.length + 1 ≤ s.skip.toks.length := hl1
        exact G.post _ _ _ s1 hv1 (by omega)
      · rw [decide_eq_false c3, if_neg (by simp)]
        refine .form (b := []) ?_ (.pure rfl)
        show rowOf (nextK s.toks) [(["("], _), (["["], _), (["."], _), ([], [])] = _
        unfold rowOf
        rw [if_neg (by
          rintro (e | e)
          · cases e
          · simp only [List.map_cons, List.map_nil, List.mem_cons, List.not_mem_nil, or_false] at e
            exact c1 e)]
        unfold rowOf
        rw [if_neg (by
          rintro (e | e)
          · cases e
          · simp only [List.map_cons, List.map_nil, List.mem_cons, List.not_mem_nil, or_false] at e
            exact c2 e)]
        exact row2 c3
end La
set_option maxHeartbeats 200000
/-! Expressions, level by level; no library. -/
namespace La
open EwTree
variable {fin : Fault} {f : Nat}
theorem Good.endAct {α : Type} {fin : Fault} {w : String} {a : List Item} {s : St} {out : α → St} {r : Except Fault α} {d : Nat} (h : Good fin a s out r d) : Good fin (a ++ [.act w]) s out r d := by
  rcases h with ⟨x, n, h1, h2, h3, h4, h5⟩ | ⟨us, h1, h2⟩
  · exact .inl ⟨x, n, h1, h2, h3, h4, h5.app (.act .nil)⟩
  · exact .inr ⟨us, h1, h2.stop _⟩
theorem EG.lev0 (G : EG fin f) (s : St) (hv : VS s.toks) (hf : 24 * s.toks.length + 12 ≤ f + 1) : Good fin [.form "Expr"] s (fun x => x.2.2) (exprIn fin (f + 1) 0 s) 1 := by
  have hlk := skip_len s
  have hvk := skip_vs hv
  unfold exprIn
  rw [if_pos rfl, key_of hv (w := "if") (by decide +kernel)]
  by_cases c1 : nextK s.toks = signs "if"
  · have hlen := next_ne c1 (by decide)
    rw [decide_eq_true c1, if_pos rfl]
    refine .form (b := [.act "@start", .tok "if", .tell "_", .form "Expr", .act "@may", .tok "then", .tell "_", .form "Expr", .act "@may", .tok "else", .tell "_", .form "Expr", .act "@end"]) (by rw [c1]; decide +kernel) (.act ?_)
    refine (Good.tok (d := 2) c1 (by decide) (skip_toks s) (.tell ?_)).weak (by omega)
    refine Good.bind (a := [.form "Expr"]) (b := [.act "@may", .tok "then", .tell "_", .form "Expr", .act "@may", .tok "else", .tell "_", .form "Expr", .act "@end"]) (d := 1) (d2 := 1) hvk (G.expr 0 (by omega) _ hvk (by omega)) ?_
    rintro ⟨c, mc, s1⟩ hv1 hl1
    have hv1' : VS s1.toks := hv1
    have hl1' : s1.toks.length + 1 ≤ s.skip.toks.length := hl1
    show Good fin [.act "@may", .tok "then", .tell "_", .form "Expr", .act "@may", .tok "else", .tell "_", .form "Expr", .act "@end"] s1 _ _ 1
    refine .act (Good.bind (a := [.tok "then"]) (b := [.tell "_", .form "Expr", .act "@may", .tok "else", .tell "_", .form "Expr", .act "@end"]) (d := 1) (d2 := 0) hv1' (good_eatK hv1' (by decide +kernel) (by decide)) ?_)
    intro s2 hv2 hl2
    have hv2' : VS s2.toks := hv2
    have hl2' : s2.toks.length + 1 ≤ s1.toks.length := hl2
    show Good fin [.tell "_", .form "Expr", .act "@may", .tok "else", .tell "_", .form "Expr", .act "@end"] s2 _ _ 0
    refine .tell ((Good.bind (a := [.form "Expr"]) (b := [.act "@may", .tok "else", .tell "_", .form "Expr", .act "@end"]) (d := 1) (d2 := 0) hv2' (G.expr 0 (by omega) _ hv2' (by omega)) ?_).weak (by omega))
    rintro ⟨x, mx, s3⟩ hv3 hl3
    have hv3' : VS s3.toks := hv3
    have hl3' : s3.toks.length + 1 ≤ s2.toks.length := hl3
    show Good fin [.act "@may", .tok "else", .tell "_", .form "Expr", .act "@end"] s3 _ _ 0
    refine .act ((Good.bind (a := [.tok "else"]) (b := [.tell "_", .form "Expr", .act "@end"]) (d := 1) (d2 := 0) hv3' (good_eatK hv3' (by decide +kernel) (by decide)) ?_).weak (by omega))
    intro s4 hv4 hl4
    have hv4' : VS s4.toks := hv4
    have hl4' : s4.toks.length + 1 ≤ s3.toks.length := hl4
    show Good fin [.tell "_", .form "Expr", .act "@end"] s4 _ _ 0
    refine .tell ((Good.bind (a := [.form "Expr"]) (b := [.act "@end"]) (d := 1) (d2 := 0) hv4' (G.expr 0 (by omega) _ hv4' (by omega)) ?_).weak (by omega))
    rintro ⟨y, my, s5⟩ _ _
    exact .act (.pure rfl)
  · rw [decide_eq_false c1, if_neg (by simp)]
    exact .form (b := [.form "Either"]) (row1 c1) (G.expr 1 (by omega) s hv (by omega))
theorem EG.levM (G : EG fin f) (L : Nat) (hL : L = 1 ∨ L = 2 ∨ L = 6 ∨ L = 7) (s : St) (hv : VS s.toks) (hf : 24 * s.toks.length + (12 - L) ≤ f + 1) : Good fin (levelF L) s (fun x => x.2.2) (exprIn fin (f + 1) L s) 1 := by
  unfold exprIn
  rw [if_neg (by omega), if_pos hL]
  have body : Good fin (levelF (L + 1) ++ [.form (moreF L)]) s (fun x => x.2.2) (exprIn fin f (L + 1) s >>= fun z => moreIn fin f L s.here z.1 z.2.1 z.2.2) 1 := by
    refine Good.bind (d := 1) (d2 := 0) hv (G.expr (L + 1) (by omega) s hv (by omega)) ?_
    rintro ⟨x, m, s1⟩ hv1 hl1
    have hl1' : s1.toks.length + 1 ≤ s.toks.length := hl1
    exact G.more L hL _ _ _ s1 hv1 (by omega)
  rcases hL with rfl | rfl | rfl | rfl
  · exact .form (b := [.act "@start", .form "Both", .form "Moreor", .act "@end"]) rfl (.act body.endAct)
  · exact .form (b := [.act "@start", .form "Negated", .form "Moreand", .act "@end"]) rfl (.act body.endAct)
  · exact .form (b := [.act "@start", .form "Product", .form "Moresum", .act "@end"]) rfl (.act body.endAct)
  · exact .form (b := [.act "@start", .form "Signed", .form "Moreproduct", .act "@end"]) rfl (.act body.endAct)
theorem EG.lev3 (G : EG fin f) (s : St) (hv : VS s.toks) (hf : 24 * s.toks.length + 9 ≤ f + 1) : Good fin [.form "Negated"] s (fun x => x.2.2) (exprIn fin (f + 1) 3 s) 1 := by
  have hlk := skip_len s
  have hvk := skip_vs hv
  unfold exprIn
  rw [if_neg (by omega), if_neg (by omega), if_pos rfl, key_of hv (w := "not") (by decide +kernel)]
  by_cases c1 : nextK s.toks = signs "not"
  · have hlen := next_ne c1 (by decide)
    rw [decide_eq_true c1, if_pos rfl]
    refine .form (b := [.tok "not", .tell "_", .form "Negated"]) (by rw [c1]; decide +kernel) ?_
    refine (Good.tok (d := 1) c1 (by decide) (skip_toks s) (.tell ?_)).weak (by omega)
    refine Good.bind (a := [.form "Negated"]) (b := []) (d := 1) (d2 := 0) hvk (G.expr 3 (by omega) _ hvk (by omega)) ?_
    rintro ⟨x, m, s1⟩ _ _
    exact .pure rfl
  · rw [decide_eq_false c1, if_neg (by simp)]
    exact .form (b := [.form "Comparison"]) (row1 c1) (G.expr 4 (by omega) s hv (by omega))
theorem EG.lev4 (G : EG fin f) (s : St) (hv : VS s.toks) (hf : 24 * s.toks.length + 8 ≤ f + 1) : Good fin [.form "Comparison"] s (fun x => x.2.2) (exprIn fin (f + 1) 4 s) 1 := by
  unfold exprIn
  rw [if_neg (by omega), if_neg (by omega), if_neg (by omega), if_pos rfl]
  refine .form (b := [.act "@start", .form "Cast", .form "Compared", .act "@end"]) rfl (.act ?_)
  refine Good.bind (a := [.form "Cast"]) (b := [.form "Compared", .act "@end"]) (d := 1) (d2 := 0) hv (G.expr 5 (by omega) s hv (by omega)) ?_
  rintro ⟨x, m, s1⟩ hv1 hl1
  have hv1' : VS s1.toks := hv1
  have hl1' : s1.toks.length + 1 ≤ s.toks.length := hl1
  have hlk1 := skip_len s1
  show Good fin [.form "Compared", .act "@end"] s1 _ _ 0
  simp only
  rcases op_of hv1' 4 with ⟨ho, hk⟩ | ⟨⟨op, ho⟩, hk⟩
  · rw [ho]
    rw [kinds_heads (by omega)] at hk
    have hk' : ∀ w ∈ opHeads 4, nextK s1.toks ≠ signs w := fun w hw e => hk (List.mem_map.mpr ⟨w, hw, e.symm⟩)
    exact .form (b := []) (rowE (by simp) hk') (.act (.pure rfl))
  · rw [ho]
    rw [kinds_heads (by omega)] at hk
    obtain ⟨w, hw, e⟩ := List.mem_map.mp hk
    have hne := heads_ne (L := 4) (by omega) hw
    have hlen := next_ne e.symm hne
    refine .form (b := [.act "@may", .any, .tell "_", .form "Cast"]) ?_ (.act ?_)
    · rw [← e]
      have q : ((opHeads 4).all fun w => decide (rowOf (signs w) ((forms.lookup "Compared").getD []) = some [.act "@may", .any, .tell "_", .form "Cast"])) = true := by decide +kernel
      exact of_decide_eq_true (List.all_eq_true.mp q w hw)
    · refine (Good.any (d := 1) hlen (skip_toks s1) (.tell ?_)).weak (by omega)
      refine Good.bind (a := [.form "Cast"]) (b := [.act "@end"]) (d := 1) (d2 := 0) (skip_vs hv1') (G.expr 5 (by omega) _ (skip_vs hv1') (by omega)) ?_
      rintro ⟨y, k, s2⟩ _ _
      exact .act (.pure rfl)
theorem EG.lev5 (G : EG fin f) (s : St) (hv : VS s.toks) (hf : 24 * s.toks.length + 7 ≤ f + 1) : Good fin [.form "Cast"] s (fun x => x.2.2) (exprIn fin (f + 1) 5 s) 1 := by
  unfold exprIn
  rw [if_neg (by omega), if_neg (by omega), if_neg (by omega), if_neg (by omega), if_pos rfl]
  refine .form (b := [.form "Sum", .form "Casts"]) rfl ?_
  refine Good.bind (a := [.form "Sum"]) (b := [.form "Casts"]) (d := 1) (d2 := 0) hv (G.expr 6 (by omega) s hv (by omega)) ?_
  rintro ⟨x, m, s1⟩ hv1 hl1
  have hl1' : s1.toks.length + 1 ≤ s.toks.length := hl1
  exact G.cast _ _ _ s1 hv1 (by omega)
theorem EG.lev9 (G : EG fin f) (s : St) (hv : VS s.toks) (hf : 24 * s.toks.length + 3 ≤ f + 1) : Good fin [.form "Value", .form "Power"] s (fun x => x.2.2) (exprIn fin (f + 1) 9 s) 1 := by
  unfold exprIn
  rw [if_neg (by omega), if_neg (by omega), if_neg (by omega), if_neg (by omega), if_neg (by omega), if_neg (by omega), if_pos rfl]
  refine Good.bind (a := [.form "Value"]) (b := [.form "Power"]) (d := 1) (d2 := 0) hv (G.expr 10 (by omega) s hv (by omega)) ?_
  rintro ⟨x, m, s1⟩ hv1 hl1
  have hv1' : VS s1.toks := hv1
  have hl1' : s1.toks.length + 1 ≤ s.toks.length := hl1
  have hlk1 := skip_len s1
  show Good fin [.form "Power"] s1 _ _ 0
  simp only
  rw [sign_of hv1' (w := "^") (by decide +kernel)]
  by_cases c1 : nextK s1.toks = signs "^"
  · have hlen := next_ne c1 (by decide)
    rw [decide_eq_true c1, if_pos rfl]
    refine .form (b := [.tell "_", .tok "^", .tell "_", .form "Signed"]) (by rw [c1]; decide +kernel) (.tell ?_)
    refine (Good.tok (d := 1) c1 (by decide) (skip_toks s1) (.tell ?_)).weak (by omega)
    refine Good.bind (a := [.form "Signed"]) (b := []) (d := 1) (d2 := 0) (skip_vs hv1') (G.expr 8 (by omega) _ (skip_vs hv1') (by omega)) ?_
    rintro ⟨y, k, s2⟩ _ _
    exact .pure rfl
  · rw [decide_eq_false c1, if_neg (by simp)]
    exact .form (b := []) (row2 c1) (.pure rfl)
theorem EG.lev10 (G : EG fin f) (s : St) (hv : VS s.toks) (hf : 24 * s.toks.length + 2 ≤ f + 1) : Good fin [.form "Value"] s (fun x => x.2.2) (exprIn fin (f + 1) 10 s) 1 := by
  unfold exprIn
  rw [if_neg (by omega), if_neg (by omega), if_neg (by omega), if_neg (by omega), if_neg (by omega), if_neg (by omega), if_neg (by omega), if_pos rfl]
  refine .form (b := [.form "First", .form "Suffixes"]) rfl ?_
  refine Good.bind (a := [.form "First"]) (b := [.form "Suffixes"]) (d := 1) (d2 := 0) hv (G.expr 11 (by omega) s hv (by omega)) ?_
  rintro ⟨x, m, s1⟩ hv1 hl1
  have hl1' : s1.toks.length + 1 ≤ s.toks.length := hl1
  exact G.post _ _ _ s1 hv1 (by omega)
end La
set_option maxHeartbeats 200000
/-! Expressions: signed ones, first ones, all; no library. -/
namespace La
open EwTree
variable {fin : Fault} {f : Nat}
theorem EG.lev8 (G : EG fin f) (s : St) (hv : VS s.toks) (hf : 24 * s.toks.length + 4 ≤ f + 1) : Good fin [.form "Signed"] s (fun x => x.2.2) (exprIn fin (f + 1) 8 s) 1 := by
  have hlk := skip_len s
  have hvk := skip_vs hv
  unfold exprIn
  rw [if_neg (by omega), if_neg (by omega), if_neg (by omega), if_neg (by omega), if_neg (by omega), if_pos rfl]
  rw [sign_of hv (w := "-") (by decide +kernel), key_of hv (w := "spawn") (by decide +kernel), key_of hv (w := "resume") (by decide +kernel), key_of hv (w := "picture") (by decide +kernel)]
  by_cases c1 : nextK s.toks = signs "-"
  · have hlen := next_ne c1 (by decide)
    rw [decide_eq_true c1, if_pos rfl]
    refine .form (b := [.tok "-", .form "Signed"]) (by rw [c1]; decide +kernel) ?_
    refine (Good.tok (d := 1) c1 (by decide) (skip_toks s) ?_).weak (by omega)
    refine Good.bind (a := [.form "Signed"]) (b := []) (d := 1) (d2 := 0) hvk (G.expr 8 (by omega) _ hvk (by omega)) ?_
    rintro ⟨x, m, s1⟩ _ _
    exact .pure rfl
  · rw [decide_eq_false c1, if_neg (by simp)]
    by_cases c2 : nextK s.toks = signs "spawn"
    · have hlen := next_ne c2 (by decide)
      rw [decide_eq_true c2, if_pos rfl]
      refine .form (b := [.tok "spawn", .tell "_", .form "Value"]) (by rw [c2]; decide +kernel) ?_
      refine (Good.tok (d := 1) c2 (by decide) (skip_toks s) (.tell ?_)).weak (by omega)
      refine Good.bind (a := [.form "Value"]) (b := []) (d := 1) (d2 := 0) hvk (G.expr 10 (by omega) _ hvk (by omega)) ?_
      rintro ⟨x, m, s1⟩ _ _
      exact .pure rfl
    · rw [decide_eq_false c2, if_neg (by simp)]
      by_cases c3 : nextK s.toks = signs "resume"
      · have hlen := next_ne c3 (by decide)
        rw [decide_eq_true c3, if_pos rfl]
        refine .form (b := [.tok "resume", .tell "_", .form "Value", .form "Giving"]) (by rw [c3]; decide +kernel) ?_
        refine (Good.tok (d := 1) c3 (by decide) (skip_toks s) (.tell ?_)).weak (by omega)
        refine Good.bind (a := [.form "Value"]) (b := [.form "Giving"]) (d := 1) (d2 := 0) hvk (G.expr 10 (by omega) _ hvk (by omega)) ?_
        rintro ⟨x, m, s1⟩ hv1 hl1
        have hv1' : VS s1.toks := hv1
        have hl1' : s1.toks.length + 1 ≤ s.skip.toks.length := hl1
        have hlk1 := skip_len s1
        show Good fin [.form "Giving"] s1 _ _ 0
        simp only
        rw [key_of hv1' (w := "giving") (by decide +kernel)]
        by_cases c4 : nextK s1.toks = signs "giving"
        · have hlen1 := next_ne c4 (by decide)
          rw [decide_eq_true c4, if_pos rfl]
          refine .form (b := [.tell "_", .tok "giving", .tell "_", .form "Signed"]) (by rw [c4]; decide +kernel) (.tell ?_)
          refine (Good.tok (d := 1) c4 (by decide) (skip_toks s1) (.tell ?_)).weak (by omega)
          refine Good.bind (a := [.form "Signed"]) (b := []) (d := 1) (d2 := 0) (skip_vs hv1') (G.expr 8 (by omega) _ (skip_vs hv1') (by omega)) ?_
          rintro ⟨y, k, s2⟩ _ _
          exact .pure rfl
        · rw [decide_eq_false c4, if_neg (by simp)]
          exact .form (b := []) (row2 c4) (.pure rfl)
      · rw [decide_eq_false c3, if_neg (by simp)]
        by_cases c5 : nextK s.toks = signs "picture"
        · have hlen := next_ne c5 (by decide)
          rw [decide_eq_true c5, if_pos rfl]
          refine .form (b := [.tok "picture", .tell "_", .tok "TEXT", .tell "_", .tok "of", .tell "_", .form "Value"]) (by rw [c5]; decide +kernel) ?_
          refine (Good.tok (d := 1) c5 (by decide) (skip_toks s) (.tell ?_)).weak (by omega)
          refine (Good.bind (a := [.tok "TEXT"]) (b := [.tell "_", .tok "of", .tell "_", .form "Value"]) (d := 1) (d2 := 0) hvk (good_take hvk num4 (by decide)) ?_).weak (by omega)
          rintro ⟨t, s1⟩ hv1 hl1
          have hv1' : VS s1.toks := hv1
          have hl1' : s1.toks.length + 1 ≤ s.skip.toks.length := hl1
          show Good fin [.tell "_", .tok "of", .tell "_", .form "Value"] s1 _ _ 0
          refine .tell ((Good.bind (a := [.tok "of"]) (b := [.tell "_", .form "Value"]) (d := 1) (d2 := 0) hv1' (good_eatK hv1' (by decide +kernel) (by decide)) ?_).weak (by omega))
          intro s2 hv2 hl2
          have hv2' : VS s2.toks := hv2
          have hl2' : s2.toks.length + 1 ≤ s1.toks.length := hl2
          show Good fin [.tell "_", .form "Value"] s2 _ _ 0
          refine .tell ((Good.bind (a := [.form "Value"]) (b := []) (d := 1) (d2 := 0) hv2' (G.expr 10 (by omega) _ hv2' (by omega)) ?_).weak (by omega))
          rintro ⟨x, m, s3⟩ _ _
          exact .pure rfl
        · rw [decide_eq_false c5, if_neg (by simp)]
          refine .form (b := [.form "Value", .form "Power"]) ?_ (G.expr 9 (by omega) s hv (by omega))
          show rowOf (nextK s.toks) [(["-"], _), (["spawn"], _), (["resume"], _), (["picture"], _), ([], [.form "Value", .form "Power"])] = _
          have no : ∀ {w : String} {b : List Item} {rs : List Row}, nextK s.toks ≠ signs w → rowOf (nextK s.toks) (([w], b) :: rs) = rowOf (nextK s.toks) rs := fun {w b rs} h => by
            conv => lhs; unfold rowOf
            rw [if_neg (by
              rintro (e | e)
              · cases e
              · simp only [List.map_cons, List.map_nil, List.mem_cons, List.not_mem_nil, or_false] at e
                exact h e)]
          rw [no c1, no c2, no c3, no c5]
          unfold rowOf
          rw [if_pos (.inl rfl)]
end La
set_option maxHeartbeats 200000
/-! Expressions: first ones, and all together; no library. -/
namespace La
open EwTree
variable {fin : Fault} {f : Nat}
def anyHeads : List String := ["NUMBER", "TEXT", "true", "false", "flags", "NAME", "CODE"]
theorem any_first {s z : St} {x : Expr × List Mark × St} {w : String} (hw : w ∈ anyHeads) (hk : nextK s.toks = signs w) (hz : x.2.2.toks = s.toks.drop 1) : Good fin [.form "First"] s (fun x => x.2.2) (.ok x : Except Fault (Expr × List Mark × St)) 1 := by
  have a : (anyHeads.all fun w => decide (rowOf (signs w) ((forms.lookup "First").getD []) = some [.any] ∧ signs w ≠ signs "END")) = true := by decide +kernel
  obtain ⟨a1, a2⟩ := of_decide_eq_true (List.all_eq_true.mp a w hw)
  refine .form (b := [.any]) (by rw [hk]; exact a1) ?_
  exact .any (s' := x.2.2) (next_ne hk a2) hz (.pure rfl)
theorem EG.lev11 (G : EG fin f) (s : St) (hv : VS s.toks) (hf : 24 * s.toks.length + 1 ≤ f + 1) : Good fin [.form "First"] s (fun x => x.2.2) (exprIn fin (f + 1) 11 s) 1 := by
  unfold exprIn
  rw [if_neg (by omega), if_neg (by omega), if_neg (by omega), if_neg (by omega), if_neg (by omega), if_neg (by omega), if_neg (by omega), if_neg (by omega)]
  cases e : s.toks with
  | nil =>
    refine .inr ⟨[], rfl, ?_⟩
    rw [e]
    exact .noform (by decide +kernel)
  | cons t r =>
    simp only
    have hk : nextK s.toks = kindT t := by rw [e]; rfl
    have ht : VT t := hv t (by rw [e]; simp)
    have hd : s.toks.drop 1 = r := by rw [e]; rfl
    have hvr : VS r := fun u hu => hv u (by rw [e]; simp [hu])
    have hlr : s.toks.length = r.length + 1 := by rw [e]; rfl
    rw [key_of hv (w := "true") (by decide +kernel), key_of hv (w := "false") (by decide +kernel), key_of hv (w := "flags") (by decide +kernel), key_of hv (w := "only") (by decide +kernel), key_of hv (w := "make") (by decide +kernel), sign_of hv (w := "(") (by decide +kernel), sign_of hv (w := "[") (by decide +kernel)]
    by_cases k3 : t.kind = 3
    · rw [if_pos k3]
      exact any_first (z := s) (w := "NUMBER") (by decide) (hk.trans ((num3 t ht).mp k3)) hd.symm
    rw [if_neg k3]
    by_cases k4 : t.kind = 4
    · rw [if_pos k4]
      exact any_first (z := s) (w := "TEXT") (by decide) (hk.trans ((num4 t ht).mp k4)) hd.symm
    rw [if_neg k4]
    by_cases k1 : t.kind = 1
    · rw [if_pos k1]
      exact any_first (z := s) (w := "NAME") (by decide) (hk.trans ((num1 t ht).mp k1)) hd.symm
    rw [if_neg k1]
    by_cases k2 : t.kind = 2
    · rw [if_pos k2]
      exact any_first (z := s) (w := "CODE") (by decide) (hk.trans ((num2 t ht).mp k2)) hd.symm
    rw [if_neg k2]
    by_cases c1 : nextK s.toks = signs "true"
    · rw [decide_eq_true c1, if_pos rfl]
      exact any_first (z := s) (w := "true") (by decide) c1 hd.symm
    rw [decide_eq_false c1, if_neg (by simp)]
    by_cases c2 : nextK s.toks = signs "false"
    · rw [decide_eq_true c2, if_pos rfl]
      exact any_first (z := s) (w := "false") (by decide) c2 hd.symm
    rw [decide_eq_false c2, if_neg (by simp)]
    by_cases c3 : nextK s.toks = signs "flags"
    · rw [decide_eq_true c3, if_pos rfl]
      exact any_first (z := s) (w := "flags") (by decide) c3 hd.symm
    rw [decide_eq_false c3, if_neg (by simp)]
    by_cases c4 : nextK s.toks = signs "only"
    · rw [decide_eq_true c4, if_pos rfl]
      refine .form (b := [.tok "only", .tok "(", .form "Someflags", .tok ")"]) (by rw [c4]; decide +kernel) ?_
      refine (Good.tok (s' := ⟨t.halt_, r⟩) (d := 1) c4 (by decide) hd.symm ?_).weak (by omega)
      refine (Good.bind (a := [.tok "("]) (b := [.form "Someflags", .tok ")"]) (d := 1) (d2 := 1) hvr (good_eatS (s := ⟨t.halt_, r⟩) hvr (by decide +kernel) (by decide)) ?_).weak (by omega)
      intro s1 hv1 hl1
      have hv1' : VS s1.toks := hv1
      have hl1' : s1.toks.length + 1 ≤ r.length := hl1
      show Good fin [.form "Someflags", .tok ")"] s1 _ _ 1
      refine Good.bind (a := [.form "Someflags", .tok ")"]) (b := []) (d := 1) (d2 := 0) hv1' (out := fun x => x.2) ?_ ?_
      · rw [sign_of hv1' (w := ")") (by decide +kernel)]
        by_cases c6 : nextK s1.toks = signs ")"
        · rw [decide_eq_true c6, if_pos rfl]
          refine .form (b := []) (by rw [c6]; decide +kernel) ?_
          exact .tok c6 (by decide) (skip_toks s1) (.pure rfl)
        · rw [decide_eq_false c6, if_neg (by simp)]
          exact .form (b := [.form "Oneflag", .form "Moreflags"]) (row1 c6) ((only_good fin f 0 s1 hv1' (by omega)).weak (by omega))
      · rintro ⟨k, s2⟩ _ _
        exact .pure rfl
    rw [decide_eq_false c4, if_neg (by simp)]
    by_cases c5 : nextK s.toks = signs "make"
    · rw [decide_eq_true c5, if_pos rfl]
      refine .form (b := [.tok "make", .tell "_", .tok "NAME", .form "Pointname", .tok "(", .form "Made", .tok ")"]) (by rw [c5]; decide +kernel) ?_
      refine (Good.tok (s' := ⟨t.halt_, r⟩) (d := 1) c5 (by decide) hd.symm (.tell ?_)).weak (by omega)
      refine (Good.bind (a := [.tok "NAME"]) (b := [.form "Pointname", .tok "(", .form "Made", .tok ")"]) (d := 1) (d2 := 0) (s := ⟨t.halt_, r⟩) hvr (good_take (s := ⟨t.halt_, r⟩) hvr num1 (by decide)) ?_).weak (by omega)
      rintro ⟨n, s1⟩ hv1 hl1
      have hv1' : VS s1.toks := hv1
      have hl1' : s1.toks.length + 1 ≤ r.length := hl1
      show Good fin [.form "Pointname", .tok "(", .form "Made", .tok ")"] s1 _ _ 0
      refine (Good.bind (a := [.form "Pointname"]) (b := [.tok "(", .form "Made", .tok ")"]) (d := 0) (d2 := 0) hv1' (out := fun x => x.2.2) ?_ ?_).weak (by omega)
      · simp only
        rw [sign_of hv1' (w := ".") (by decide +kernel)]
        by_cases c9 : nextK s1.toks = signs "."
        · rw [decide_eq_true c9, if_pos rfl]
          refine .form (b := [.tok ".", .tok "NAME"]) (by rw [c9]; decide +kernel) ?_
          refine (Good.tok (d := 1) c9 (by decide) (skip_toks _) ?_).weak (by omega)
          refine Good.bind (a := [.tok "NAME"]) (b := []) (d := 1) (d2 := 0) (skip_vs hv1') (good_take (skip_vs hv1') num1 (by decide)) ?_
          rintro ⟨k, s2⟩ _ _
          exact .pure rfl
        · rw [decide_eq_false c9, if_neg (by simp)]
          exact .form (b := []) (row2 c9) (.pure rfl)
      · rintro ⟨m, n2, s2⟩ hv2 hl2
        have hv2' : VS s2.toks := hv2
        have hl2' : s2.toks.length ≤ s1.toks.length := by have : s2.toks.length + 0 ≤ s1.toks.length := hl2; omega
        show Good fin [.tok "(", .form "Made", .tok ")"] s2 _ _ 0
        refine (Good.bind (a := [.tok "("]) (b := [.form "Made", .tok ")"]) (d := 1) (d2 := 0) hv2' (good_eatS hv2' (by decide +kernel) (by decide)) ?_).weak (by omega)
        intro s3 hv3 hl3
        have hv3' : VS s3.toks := hv3
        have hl3' : s3.toks.length + 1 ≤ s2.toks.length := hl3
        show Good fin [.form "Made", .tok ")"] s3 _ _ 0
        refine (Good.bind (a := [.form "Made", .tok ")"]) (b := []) (d := 1) (d2 := 0) hv3' (out := fun x => x.2.2) ?_ ?_).weak (by omega)
        · rw [sign_of hv3' (w := ")") (by decide +kernel)]
          by_cases c6 : nextK s3.toks = signs ")"
          · rw [decide_eq_true c6, if_pos rfl]
            refine .form (b := []) (by rw [c6]; decide +kernel) ?_
            exact .tok c6 (by decide) (skip_toks s3) (.pure rfl)
          · rw [decide_eq_false c6, if_neg (by simp)]
            exact .form (b := [.act "@first", .form "Named", .form "Morenamed", .act "@last"]) (row1 c6) (.act ((G.fields s3 hv3' (by omega)).weak (by omega)))
        · rintro ⟨l, k, s4⟩ _ _
          exact .pure rfl
    rw [decide_eq_false c5, if_neg (by simp)]
    by_cases c6 : nextK s.toks = signs "("
    · rw [decide_eq_true c6, if_pos rfl]
      refine .form (b := [.tok "(", .form "Expr", .tok ")"]) (by rw [c6]; decide +kernel) ?_
      refine (Good.tok (s' := ⟨t.halt_, r⟩) (d := 1) c6 (by decide) hd.symm ?_).weak (by omega)
      refine (Good.bind (a := [.form "Expr"]) (b := [.tok ")"]) (d := 1) (d2 := 0) (s := ⟨t.halt_, r⟩) hvr (G.expr 0 (by omega) ⟨t.halt_, r⟩ hvr (by show 24 * r.length + 12 ≤ f; omega)) ?_).weak (by omega)
      rintro ⟨x, m, s1⟩ hv1 hl1
      have hv1' : VS s1.toks := hv1
      show Good fin [.tok ")"] s1 _ _ 0
      refine (Good.bind (a := [.tok ")"]) (b := []) (d := 1) (d2 := 0) hv1' (good_eatS hv1' (by decide +kernel) (by decide)) ?_).weak (by omega)
      intro s2 _ _
      exact .pure rfl
    rw [decide_eq_false c6, if_neg (by simp)]
    by_cases c7 : nextK s.toks = signs "["
    · rw [decide_eq_true c7, if_pos rfl]
      refine .form (b := [.tok "[", .form "Listed", .tok "]"]) (by rw [c7]; decide +kernel) ?_
      refine (Good.tok (s' := ⟨t.halt_, r⟩) (d := 1) c7 (by decide) hd.symm ?_).weak (by omega)
      have hvz : VS (⟨t.halt_, r⟩ : St).toks := hvr
      rw [sign_of hvz (w := "]") (by decide +kernel)]
      by_cases c8 : nextK (⟨t.halt_, r⟩ : St).toks = signs "]"
      · rw [decide_eq_true c8, if_pos rfl]
        refine .form (b := []) (by rw [c8]; decide +kernel) ?_
        exact .tok c8 (by decide) (skip_toks _) (.pure rfl)
      rw [decide_eq_false c8, if_neg (by simp)]
      refine .form (b := [.act "@start", .form "Expr", .form "Listrest"]) (row1 c8) (.act ?_)
      refine (Good.bind (a := [.form "Expr"]) (b := [.form "Listrest", .tok "]"]) (d := 1) (d2 := 0) (s := ⟨t.halt_, r⟩) hvr (G.expr 0 (by omega) ⟨t.halt_, r⟩ hvr (by show 24 * r.length + 12 ≤ f; omega)) ?_).weak (by omega)
      rintro ⟨x, m, s1⟩ hv1 hl1
      have hv1' : VS s1.toks := hv1
      have hl1' : s1.toks.length + 1 ≤ r.length := hl1
      have hlk1 := skip_len s1
      show Good fin [.form "Listrest", .tok "]"] s1 _ _ 0
      simp only
      rw [sign_of hv1' (w := "..") (by decide +kernel), sign_of hv1' (w := ",") (by decide +kernel)]
      by_cases c9 : nextK s1.toks = signs ".."
      · have hlen := next_ne c9 (by decide)
        rw [decide_eq_true c9, if_pos rfl]
        refine .form (b := [.act "@end", .tell "_", .tok "..", .tell "_", .form "Expr"]) (by rw [c9]; decide +kernel) (.act (.tell ?_))
        refine (Good.tok (d := 1) c9 (by decide) (skip_toks _) (.tell ?_)).weak (by omega)
        refine (Good.bind (a := [.form "Expr"]) (b := [.tok "]"]) (d := 1) (d2 := 0) (skip_vs hv1') (G.expr 0 (by omega) _ (skip_vs hv1') (by omega)) ?_).weak (by omega)
        rintro ⟨y, k, s2⟩ hv2 _
        have hv2' : VS s2.toks := hv2
        show Good fin [.tok "]"] s2 _ _ 0
        refine (Good.bind (a := [.tok "]"]) (b := []) (d := 1) (d2 := 0) hv2' (good_eatS hv2' (by decide +kernel) (by decide)) ?_).weak (by omega)
        intro s3 _ _
        exact .pure rfl
      rw [decide_eq_false c9, if_neg (by simp)]
      refine .form (b := [.act "@late", .form "Moreexprs", .act "@last"]) (row1 c9) (.act ?_)
      by_cases c10 : nextK s1.toks = signs ","
      · have hlen := next_ne c10 (by decide)
        rw [decide_eq_true c10, if_pos rfl]
        refine .form (b := [.tok ",", .act "@may", .form "Expr", .form "Moreexprs"]) (by rw [c10]; decide +kernel) ?_
        refine (Good.tok (d := 2) c10 (by decide) (skip_toks _) (.act ?_)).weak (by omega)
        refine Good.bind (a := [.form "Expr", .form "Moreexprs", .act "@last", .tok "]"]) (b := []) (d := 2) (d2 := 0) (skip_vs hv1') (G.exprs "]" (.inr rfl) _ (skip_vs hv1') (by omega)) ?_
        rintro ⟨l, k, s2⟩ _ _
        exact .pure rfl
      · rw [decide_eq_false c10, if_neg (by simp)]
        refine .form (b := []) (row2 c10) (.act ?_)
        refine (Good.bind (a := [.tok "]"]) (b := []) (d := 1) (d2 := 0) hv1' (good_eatS hv1' (by decide +kernel) (by decide)) ?_).weak (by omega)
        intro s2 _ _
        exact .pure rfl
    rw [decide_eq_false c7, if_neg (by simp)]
    -- none begins so
    have hno : ∀ w ∈ anyHeads ++ ["only", "(", "[", "make"], nextK s.toks ≠ signs w := by
      intro w hw
      simp only [anyHeads, List.cons_append, List.nil_append, List.mem_cons, List.not_mem_nil, or_false] at hw
      rcases hw with h | h | h | h | h | h | h | h | h | h | h <;> subst h
      · exact fun q => k3 ((num3 t ht).mpr (hk.symm.trans q))
      · exact fun q => k4 ((num4 t ht).mpr (hk.symm.trans q))
      · exact c1
      · exact c2
      · exact c3
      · exact fun q => k1 ((num1 t ht).mpr (hk.symm.trans q))
      · exact fun q => k2 ((num2 t ht).mpr (hk.symm.trans q))
      · exact c4
      · exact c6
      · exact c7
      · exact c5
    have hr : rowOf (nextK s.toks) ((forms.lookup "First").getD []) = none := no_row (heads := anyHeads ++ ["only", "(", "[", "make"]) (by decide +kernel) hno
    have hb : bad fin s = (2, t.place) := by unfold bad; rw [e]
    rw [← hb]
    exact .noform hr
/-- **all of the specification's expressions** -/
theorem expr_good (fin : Fault) : ∀ f, EG fin f
  | 0 => EG.zero fin
  | f + 1 => by
    have G := expr_good fin f
    exact {
      expr := fun L hL s hv hf => by
        have : L = 0 ∨ L = 3 ∨ L = 4 ∨ L = 5 ∨ L = 8 ∨ L = 9 ∨ L = 10 ∨ L = 11 ∨ (L = 1 ∨ L = 2 ∨ L = 6 ∨ L = 7) := by omega
        rcases this with rfl | rfl | rfl | rfl | rfl | rfl | rfl | rfl | h
        · exact G.lev0 s hv hf
        · exact G.lev3 s hv hf
        · exact G.lev4 s hv hf
        · exact G.lev5 s hv hf
        · exact G.lev8 s hv hf
        · exact G.lev9 s hv hf
        · exact G.lev10 s hv hf
        · exact G.lev11 s hv hf
        · exact G.levM L h s hv hf
      more := fun L hL a x m s hv hf => G.more_step L hL a x m s hv hf
      cast := fun a x m s hv hf => G.cast_step a x m s hv hf
      post := fun a x m s hv hf => G.post_step a x m s hv hf
      exprs := fun c hc s hv hf => G.exprs_step c hc s hv hf
      said := fun s hv hf => G.said_step s hv hf
      fields := fun s hv hf => G.fields_step s hv hf }
end La
set_option maxHeartbeats 200000
/-! Statements: parts; no library. -/
namespace La
open EwTree
variable {fin : Fault} {f : Nat}
theorem let_good (s : St) (hv : VS s.toks) (hf : 24 * s.toks.length + 12 ≤ f + 24) : Good fin [.tok "NAME", .form "Sorted", .tell "_", .tok "=", .tell "_", .form "Expr"] s (fun x => x.2.2) (letIn fin f s) 2 := by
  unfold letIn
  refine (Good.bind (a := [.tok "NAME"]) (b := [.form "Sorted", .tell "_", .tok "=", .tell "_", .form "Expr"]) (d := 1) (d2 := 1) hv (good_take hv num1 (by decide)) ?_).weak (by omega)
  rintro ⟨n, s1⟩ hv1 hl1
  have hv1' : VS s1.toks := hv1
  have hl1' : s1.toks.length + 1 ≤ s.toks.length := hl1
  have hlk1 := skip_len s1
  show Good fin [.form "Sorted", .tell "_", .tok "=", .tell "_", .form "Expr"] s1 _ _ 1
  refine Good.bind (a := [.form "Sorted"]) (b := [.tell "_", .tok "=", .tell "_", .form "Expr"]) (d := 0) (d2 := 1) hv1' (out := fun x => x.2.2) ?_ ?_
  · unfold maySort
    rw [sign_of hv1' (w := ":") (by decide +kernel)]
    by_cases c : nextK s1.toks = signs ":"
    · have hlen := next_ne c (by decide)
      rw [decide_eq_true c, if_pos rfl]
      refine .form (b := [.tok ":", .tell "_", .form "Sort"]) (by rw [c]; decide +kernel) ?_
      refine (Good.tok (d := 1) c (by decide) (skip_toks s1) (.tell ?_)).weak (by omega)
      have q := (sort_good fin f).1 s1.skip (skip_vs hv1') (by omega)
      rcases q with ⟨x, n2, e, h⟩ | ⟨us, e, h⟩
      · rw [e]
        exact .inl ⟨_, n2, rfl, h⟩
      · rw [e]
        exact .inr ⟨us, rfl, h⟩
    · rw [decide_eq_false c, if_neg (by simp)]
      exact .form (b := []) (row2 c) (.pure rfl)
  · rintro ⟨t, m, s2⟩ hv2 hl2
    have hv2' : VS s2.toks := hv2
    have hl2' : s2.toks.length ≤ s1.toks.length := by have : s2.toks.length + 0 ≤ s1.toks.length := hl2; omega
    show Good fin [.tell "_", .tok "=", .tell "_", .form "Expr"] s2 _ _ 1
    refine .tell ((Good.bind (a := [.tok "="]) (b := [.tell "_", .form "Expr"]) (d := 1) (d2 := 0) hv2' (good_eatS hv2' (by decide +kernel) (by decide)) ?_).weak (by omega))
    intro s3 hv3 hl3
    have hv3' : VS s3.toks := hv3
    have hl3' : s3.toks.length + 1 ≤ s2.toks.length := hl3
    show Good fin [.tell "_", .form "Expr"] s3 _ _ 0
    refine .tell ((Good.bind (a := [.form "Expr"]) (b := []) (d := 1) (d2 := 0) hv3' ((expr_good fin f).expr 0 (by omega) s3 hv3' (by omega)) ?_).weak (by omega))
    rintro ⟨e, k, s4⟩ _ _
    exact .pure rfl
theorem flag_trap {w : String} (h : w ∈ FLAGS) : rowOf (signs w) ((forms.lookup "Traps").getD []) = some [.tell "_", .form "Oneflag", .form "Traps"] := by
  have a : (FLAGS.all fun w => decide (rowOf (signs w) ((forms.lookup "Traps").getD []) = some [.tell "_", .form "Oneflag", .form "Traps"])) = true := by decide +kernel
  exact of_decide_eq_true (List.all_eq_true.mp a w h)
theorem trap_good {α : Type} {out : α → St} {r : Except Fault α} {a : List Item} {d : Nat} : ∀ f set (s : St), VS s.toks → s.toks.length < f → Good fin a (trapIn f set s).2 out r d → Good fin (.form "Traps" :: a) s out r d
  | 0, set, s, _, h, _ => by omega
  | f + 1, set, s, hv, hf, h => by
    unfold trapIn at h
    cases e : oneOf FLAGS s with
    | none =>
      rw [e] at h
      exact .form (b := []) (rowE (by simp) (oneOf_none hv (by decide +kernel) e)) h
    | some k =>
      rw [e] at h
      obtain ⟨w, hw, e1⟩ := oneOf_some hv (by decide +kernel) e
      obtain ⟨e2, e3⟩ := flag_row hw
      have hlen := next_ne e1 e3
      have hlk := skip_len s
      refine .form (b := [.tell "_", .form "Oneflag", .form "Traps"]) (by rw [e1]; exact flag_trap hw) (.tell ?_)
      refine .form (b := [.any]) (by rw [e1]; exact e2) ?_
      exact (Good.any hlen (skip_toks s) (trap_good f _ s.skip (skip_vs hv) (by omega) h)).weak (by omega)
theorem trap_vs : ∀ f set (s : St), VS s.toks → VS (trapIn f set s).2.toks ∧ (trapIn f set s).2.toks.length ≤ s.toks.length
  | 0, set, s, hv => ⟨hv, Nat.le_refl _⟩
  | f + 1, set, s, hv => by
    unfold trapIn
    cases e : oneOf FLAGS s with
    | none => exact ⟨hv, Nat.le_refl _⟩
    | some k =>
      have q := trap_vs f (withFlag set k) s.skip (skip_vs hv)
      have := skip_len s
      exact ⟨q.1, by show (trapIn f (withFlag set k) s.skip).2.toks.length ≤ _; omega⟩
/-- one of some words -/
theorem one_good {α : Type} {out : α → St} {x : α} {g : String} {l : List String} {s : St} {k : Nat} (hv : VS s.toks) (ha : l.all kwOk = true) (hr : (l.all fun w => decide (rowOf (signs w) ((forms.lookup g).getD []) = some [.any] ∧ signs w ≠ signs "END")) = true) (h : oneOf l s = some k) (hx : (out x).toks = s.toks.drop 1) :
    Good fin [.form g] s out (.ok x : Except Fault α) 1 := by
  obtain ⟨w, hw, e1⟩ := oneOf_some hv ha h
  obtain ⟨e2, e3⟩ := of_decide_eq_true (List.all_eq_true.mp hr w hw)
  refine .form (b := [.any]) (by rw [e1]; exact e2) ?_
  exact .any (s' := out x) (next_ne e1 e3) hx (.pure rfl)
theorem mode_good (s : St) (hv : VS s.toks) (hf : s.toks.length ≤ f) : Good fin [.form "Mode"] s (fun x => x.2) (modeIn fin f s) 1 := by
  have hlk := skip_len s
  have hvk := skip_vs hv
  unfold modeIn
  rw [key_of hv (w := "rounding") (by decide +kernel), key_of hv (w := "precision") (by decide +kernel), key_of hv (w := "trap") (by decide +kernel), key_of hv (w := "flush") (by decide +kernel)]
  by_cases c1 : nextK s.toks = signs "rounding"
  · rw [decide_eq_true c1, if_pos rfl]
    refine .form (b := [.tok "rounding", .tell "_", .form "Rounding"]) (by rw [c1]; decide +kernel) ?_
    refine (Good.tok (d := 0) c1 (by decide) (skip_toks s) (.tell ?_)).weak (by omega)
    cases e : oneOf (EwTree.ROUNDS.take 4) s.skip with
    | none => exact .noform (no_row (heads := EwTree.ROUNDS.take 4) (by decide +kernel) (oneOf_none hvk (by decide +kernel) e))
    | some k => exact (one_good (g := "Rounding") (out := fun x => x.2) (x := (Mode.rounding k, s.skip.skip)) hvk (by decide +kernel) (by decide +kernel) e (skip_toks s.skip)).weak (Nat.zero_le _)
  rw [decide_eq_false c1, if_neg (by simp)]
  by_cases c2 : nextK s.toks = signs "precision"
  · rw [decide_eq_true c2, if_pos rfl]
    refine .form (b := [.tok "precision", .tell "_", .tok "NUMBER"]) (by rw [c2]; decide +kernel) ?_
    refine (Good.tok (d := 0) c2 (by decide) (skip_toks s) (.tell ?_)).weak (by omega)
    rcases good_take (fin := fin) hvk num3 (by decide) with ⟨x, n2, e, h1, h2⟩ | ⟨us, e, h⟩
    · rw [e]
      exact .inl ⟨_, n2, rfl, by omega, h2⟩
    · rw [e]
      exact .inr ⟨us, rfl, h⟩
  rw [decide_eq_false c2, if_neg (by simp)]
  by_cases c3 : nextK s.toks = signs "trap"
  · have hlen := next_ne c3 (by decide)
    rw [decide_eq_true c3, if_pos rfl]
    refine .form (b := [.tok "trap", .tell "_", .form "Oneflag", .form "Traps"]) (by rw [c3]; decide +kernel) ?_
    refine (Good.tok (d := 0) c3 (by decide) (skip_toks s) (.tell ?_)).weak (by omega)
    cases e : oneOf FLAGS s.skip with
    | none => exact .noform (no_row (heads := FLAGS) (by decide +kernel) (oneOf_none hvk (by decide +kernel) e))
    | some k =>
      obtain ⟨w, hw, e1⟩ := oneOf_some hvk (by decide +kernel) e
      obtain ⟨e2, e3⟩ := flag_row hw
      have hlen2 := next_ne e1 e3
      have hlk2 := skip_len s.skip
      simp only
      obtain ⟨f', rfl⟩ : ∃ f', f = f' + 1 := ⟨f - 1, by omega⟩
      have et : trapIn (f' + 1) 0 s.skip = trapIn f' (withFlag 0 k) s.skip.skip := by
        conv => lhs; unfold trapIn
        rw [e]
      rw [et]
      refine .form (b := [.any]) (by rw [e1]; exact e2) ?_
      refine (Good.any (d := 0) hlen2 (skip_toks _) ?_).weak (by omega)
      exact trap_good f' _ s.skip.skip (skip_vs hvk) (by omega) (.pure rfl)
  rw [decide_eq_false c3, if_neg (by simp)]
  by_cases c4 : nextK s.toks = signs "flush"
  · rw [decide_eq_true c4, if_pos rfl]
    refine .form (b := [.tok "flush", .tell "_", .form "Flush"]) (by rw [c4]; decide +kernel) ?_
    refine (Good.tok (d := 0) c4 (by decide) (skip_toks s) (.tell ?_)).weak (by omega)
    cases e : oneOf ["in", "out", "both"] s.skip with
    | none => exact .noform (no_row (heads := ["in", "out", "both"]) (by decide +kernel) (oneOf_none hvk (by decide +kernel) e))
    | some k => exact (one_good (g := "Flush") (out := fun x => x.2) (x := (Mode.flush k, s.skip.skip)) hvk (by decide +kernel) (by decide +kernel) e (skip_toks s.skip)).weak (Nat.zero_le _)
  rw [decide_eq_false c4, if_neg (by simp)]
  refine .noform (no_row (heads := ["rounding", "precision", "trap", "flush"]) (by decide +kernel) fun w hw => ?_)
  simp only [List.mem_cons, List.not_mem_nil, or_false] at hw
  rcases hw with h | h | h | h <;> subst h <;> assumption
theorem modes_good : ∀ f, ∀ s : St, VS s.toks → 24 * s.toks.length + 1 ≤ f → Good fin [.form "Mode", .form "Moremodes"] s (fun x => x.2) (modesIn fin f s) 1
  | 0, s, _, h => by omega
  | f + 1, s, hv, hf => by
    unfold modesIn
    refine Good.bind (a := [.form "Mode"]) (b := [.form "Moremodes"]) (d := 1) (d2 := 0) hv (mode_good s hv (by omega)) ?_
    rintro ⟨m, s1⟩ hv1 hl1
    have hv1' : VS s1.toks := hv1
    have hl1' : s1.toks.length + 1 ≤ s.toks.length := hl1
    have hlk1 := skip_len s1
    show Good fin [.form "Moremodes"] s1 _ _ 0
    simp only
    rw [sign_of hv1' (w := ",") (by decide +kernel)]
    by_cases c1 : nextK s1.toks = signs ","
    · have hlen := next_ne c1 (by decide)
      rw [decide_eq_true c1, if_pos rfl]
      refine .form (b := [.tok ",", .tell "_", .form "Mode", .form "Moremodes"]) (by rw [c1]; decide +kernel) ?_
      refine (Good.tok (d := 1) c1 (by decide) (skip_toks _) (.tell ?_)).weak (by omega)
      refine Good.bind (a := [.form "Mode", .form "Moremodes"]) (b := []) (d := 1) (d2 := 0) (skip_vs hv1') (modes_good f _ (skip_vs hv1') (by omega)) ?_
      rintro ⟨l, s2⟩ _ _
      exact .pure rfl
    · rw [decide_eq_false c1, if_neg (by simp)]
      exact .form (b := []) (row2 c1) (.pure rfl)
end La
set_option maxHeartbeats 200000
/-! A statement that begins with a name; no library. -/
namespace La
open EwTree
variable {fin : Fault}
def chainF (x : Expr) : String := if endsCall x = true then "Called" else "Chain"
/-- what comes behind a chain -/
def chainK (fin : Fault) (g a : Nat) (z : Expr × List Mark × St) : Except Fault (Stmt × List Mark × St) :=
  if endsCall z.1 = true then .ok (.call z.1, marked 98 a z.2.2 z.2.1, z.2.2)
  else eat fin (z.2.2.sign "=") z.2.2 >>= fun s => exprIn fin g 0 s >>= fun y => .ok (.assign z.1 y.1, marked 97 a y.2.2 (z.2.1 ++ y.2.1), y.2.2)
theorem no_head {k : List Nat} {w : String} {b : List Item} {rs : List Row} (h : k ≠ signs w) : rowOf k (([w], b) :: rs) = rowOf k rs := by
  conv => lhs; unfold rowOf
  rw [if_neg (by
    rintro (e | e)
    · cases e
    · simp only [List.map_cons, List.map_nil, List.mem_cons, List.not_mem_nil, or_false] at e
      exact h e)]
theorem chain_good (g : Nat) : ∀ f a b x m (s : St), f ≤ g → VS s.toks → 24 * s.toks.length + 1 ≤ f → Good fin [.form (chainF x)] s (fun x => x.2.2) (postIn fin f b x m s >>= chainK fin g a) 0
  | 0, _, _, _, _, s, _, _, h => by omega
  | f + 1, a, b, x, m, s, hfg, hv, hf => by
    have G := expr_good fin f
    have hlk := skip_len s
    have hvk := skip_vs hv
    unfold postIn
    rw [sign_of hv (w := "(") (by decide +kernel), sign_of hv (w := "[") (by decide +kernel), sign_of hv (w := ".") (by decide +kernel)]
    by_cases c1 : nextK s.toks = signs "("
    · have hlen := next_ne c1 (by decide)
      rw [decide_eq_true c1, if_pos rfl]
      have body : Good fin [.tok "(", .form "Args", .tok ")", .form "Called"] s (fun x => x.2.2) ((do
          let (l, k, s) ← (if s.skip.sign ")" = true then (.ok ([], [], s.skip.skip) : Except Fault ((List Expr) × List Mark × St)) else exprsIn fin ")" f s.skip)
          postIn fin f b (.call x l) (marked 43 b s (m ++ k)) s) >>= chainK fin g a) 0 := by
        rw [bind_assoc]
        refine (Good.tok (d := 1) c1 (by decide) (skip_toks s) ?_).weak (by omega)
        refine Good.bind (a := [.form "Args", .tok ")"]) (b := [.form "Called"]) (d := 1) (d2 := 0) hvk (G.args _ hvk (by omega)) ?_
        rintro ⟨l, k, s1⟩ hv1 hl1
        have hl1' : s1.toks.length + 1 ≤ s.skip.toks.length := hl1
        exact chain_good g f a b (.call x l) _ s1 (by omega) hv1 (by omega)
      unfold chainF
      split
      · exact .form (b := [.tok "(", .form "Args", .tok ")", .form "Called"]) (by rw [c1]; decide +kernel) body
      · exact .form (b := [.tok "(", .form "Args", .tok ")", .form "Called"]) (by rw [c1]; decide +kernel) body
    rw [decide_eq_false c1, if_neg (by simp)]
    by_cases c2 : nextK s.toks = signs "["
    · have hlen := next_ne c2 (by decide)
      rw [decide_eq_true c2, if_pos rfl]
      have body : Good fin [.tok "[", .form "Expr", .tok "]", .form "Chain"] s (fun x => x.2.2) ((do
          let (i, k, s) ← exprIn fin f 0 s.skip
          let s ← eat fin (s.sign "]") s
          postIn fin f b (.index x i) (marked 44 b s (m ++ k)) s) >>= chainK fin g a) 0 := by
        rw [bind_assoc]
        refine (Good.tok (d := 1) c2 (by decide) (skip_toks s) ?_).weak (by omega)
        refine Good.bind (a := [.form "Expr"]) (b := [.tok "]", .form "Chain"]) (d := 1) (d2 := 0) hvk (G.expr 0 (by omega) _ hvk (by omega)) ?_
        rintro ⟨i, k, s1⟩ hv1 hl1
        have hv1' : VS s1.toks := hv1
        have hl1' : s1.toks.length + 1 ≤ s.skip.toks.length := hl1
        show Good fin [.tok "]", .form "Chain"] s1 _ ((eat fin (s1.sign "]") s1 >>= fun s => postIn fin f b (.index x i) (marked 44 b s (m ++ k)) s) >>= chainK fin g a) 0
        rw [bind_assoc]
        refine (Good.bind (a := [.tok "]"]) (b := [.form "Chain"]) (d := 1) (d2 := 0) hv1' (good_eatS hv1' (by decide +kernel) (by decide)) ?_).weak (by omega)
        intro s2 hv2 hl2
        have hl2' : s2.toks.length + 1 ≤ s1.toks.length := hl2
        exact chain_good g f a b (.index x i) _ s2 (by omega) hv2 (by omega)
      unfold chainF
      split
      · exact .form (b := [.tok "[", .form "Expr", .tok "]", .form "Chain"]) (by rw [c2]; decide +kernel) body
      · exact .form (b := [.tok "[", .form "Expr", .tok "]", .form "Chain"]) (by rw [c2]; decide +kernel) body
    rw [decide_eq_false c2, if_neg (by simp)]
    by_cases c3 : nextK s.toks = signs "."
    · have hlen := next_ne c3 (by decide)
      rw [decide_eq_true c3, if_pos rfl]
      have body : Good fin [.tok ".", .tok "NAME", .form "Chain"] s (fun x => x.2.2) ((do
          let (n, s) ← take fin 1 s.skip
          postIn fin f b (.field x n) (marked 45 b s m) s) >>= chainK fin g a) 0 := by
        rw [bind_assoc]
        refine (Good.tok (d := 1) c3 (by decide) (skip_toks s) ?_).weak (by omega)
        refine Good.bind (a := [.tok "NAME"]) (b := [.form "Chain"]) (d := 1) (d2 := 0) hvk (good_take hvk num1 (by decide)) ?_
        rintro ⟨n, s1⟩ hv1 hl1
        have hl1' : s1.toks.length + 1 ≤ s.skip.toks.length := hl1
        exact chain_good g f a b (.field x n) _ s1 (by omega) hv1 (by omega)
      unfold chainF
      split
      · exact .form (b := [.tok ".", .tok "NAME", .form "Chain"]) (by rw [c3]; decide +kernel) body
      · exact .form (b := [.tok ".", .tok "NAME", .form "Chain"]) (by rw [c3]; decide +kernel) body
    rw [decide_eq_false c3, if_neg (by simp)]
    show Good fin [.form (chainF x)] s _ (chainK fin g a (x, m, s)) 0
    unfold chainF chainK
    simp only
    by_cases ce : endsCall x = true
    · rw [if_pos ce, if_pos ce]
      refine .form (b := []) ?_ (.pure rfl)
      show rowOf (nextK s.toks) [(["("], _), (["["], _), (["."], _), ([], [])] = _
      rw [no_head c1, no_head c2]
      exact row2 c3
    · rw [if_neg ce, if_neg ce]
      by_cases c4 : nextK s.toks = signs "="
      · refine .form (b := [.tell "_", .tok "=", .tell "_", .form "Expr"]) (by rw [c4]; decide +kernel) (.tell ?_)
        refine (Good.bind (a := [.tok "="]) (b := [.tell "_", .form "Expr"]) (d := 1) (d2 := 0) hv (good_eatS hv (by decide +kernel) (by decide)) ?_).weak (by omega)
        intro s1 hv1 hl1
        have hv1' : VS s1.toks := hv1
        have hl1' : s1.toks.length + 1 ≤ s.toks.length := hl1
        show Good fin [.tell "_", .form "Expr"] s1 _ _ 0
        refine .tell ((Good.bind (a := [.form "Expr"]) (b := []) (d := 1) (d2 := 0) hv1' ((expr_good fin g).expr 0 (by omega) s1 hv1' (by omega)) ?_).weak (by omega))
        rintro ⟨y, k, s2⟩ _ _
        exact .pure rfl
      · have he : eat fin (s.sign "=") s = .error (bad fin s) := by
          unfold eat
          rw [sign_of hv (w := "=") (by decide +kernel), decide_eq_false c4, if_neg (by simp)]
        rw [he]
        refine .noform ?_
        show rowOf (nextK s.toks) [(["("], _), (["["], _), (["."], _), (["="], _)] = _
        rw [no_head c1, no_head c2, no_head c3, no_head c4]
        rfl
end La
set_option maxHeartbeats 200000
/-! Statements, blocks, cases; no library. -/
namespace La
open EwTree
variable {fin : Fault} {f : Nat}
structure SG (fin : Fault) (f : Nat) : Prop where
  stmt : ∀ s : St, VS s.toks → 24 * s.toks.length + 1 ≤ f → Good fin [.form "Statement"] s (fun x => x.2.2) (stmtIn fin f s) 1
  block : ∀ s : St, VS s.toks → 24 * s.toks.length + 1 ≤ f → Good fin [.form "Block"] s (fun x => x.2.2) (blockIn fin f s) 1
  stmts : ∀ s : St, VS s.toks → 24 * s.toks.length + 2 ≤ f → Good fin [.form "Statements", .act "@out", .tok "}"] s (fun x => x.2.2) (stmtsIn fin f s) 1
  branches : ∀ s : St, VS s.toks → 24 * s.toks.length + 13 ≤ f → Good fin [.form "Expr", .tell "_", .form "Block", .form "Else"] s (fun x => x.2.2) (branchesIn fin f s) 1
  cases : ∀ s : St, VS s.toks → 24 * s.toks.length + 1 ≤ f → Good fin [.form "Cases", .act "@out", .tok "}"] s (fun x => x.2.2) (casesIn fin f s) 1
theorem SG.zero (fin : Fault) : SG fin 0 where
  stmt := fun s _ h => by omega
  block := fun s _ h => by omega
  stmts := fun s _ h => by omega
  branches := fun s _ h => by omega
  cases := fun s _ h => by omega
theorem SG.block_step (G : SG fin f) (s : St) (hv : VS s.toks) (hf : 24 * s.toks.length + 1 ≤ f + 1) : Good fin [.form "Block"] s (fun x => x.2.2) (blockIn fin (f + 1) s) 1 := by
  unfold blockIn
  refine .form (b := [.tok "{", .act "@in", .form "Statements", .act "@out", .tok "}"]) rfl ?_
  refine (Good.bind (a := [.tok "{"]) (b := [.act "@in", .form "Statements", .act "@out", .tok "}"]) (d := 1) (d2 := 0) hv (good_eatS hv (by decide +kernel) (by decide)) ?_).weak (by omega)
  intro s1 hv1 hl1
  have hl1' : s1.toks.length + 1 ≤ s.toks.length := hl1
  exact .act ((G.stmts s1 hv1 (by omega)).weak (by omega))
theorem SG.stmts_step (G : SG fin f) (s : St) (hv : VS s.toks) (hf : 24 * s.toks.length + 2 ≤ f + 1) : Good fin [.form "Statements", .act "@out", .tok "}"] s (fun x => x.2.2) (stmtsIn fin (f + 1) s) 1 := by
  unfold stmtsIn
  rw [sign_of hv (w := "}") (by decide +kernel)]
  by_cases c : nextK s.toks = signs "}"
  · rw [decide_eq_true c, if_pos rfl]
    refine .form (b := []) (by rw [c]; decide +kernel) (.act ?_)
    exact .tok c (by decide) (skip_toks s) (.pure rfl)
  · rw [decide_eq_false c, if_neg (by simp)]
    refine .form (b := [.tell "|", .form "Statement", .form "Statements"]) (row1 c) (.tell ?_)
    refine (Good.bind (a := [.form "Statement"]) (b := [.form "Statements", .act "@out", .tok "}"]) (d := 1) (d2 := 1) hv (G.stmt s hv (by omega)) ?_).weak (by omega)
    rintro ⟨x, m, s1⟩ hv1 hl1
    have hv1' : VS s1.toks := hv1
    have hl1' : s1.toks.length + 1 ≤ s.toks.length := hl1
    refine Good.bind (a := [.form "Statements", .act "@out", .tok "}"]) (b := []) (d := 1) (d2 := 0) hv1' (G.stmts s1 hv1' (by omega)) ?_
    rintro ⟨r, k, s2⟩ _ _
    exact .pure rfl
theorem SG.branches_step (G : SG fin f) (s : St) (hv : VS s.toks) (hf : 24 * s.toks.length + 13 ≤ f + 1) : Good fin [.form "Expr", .tell "_", .form "Block", .form "Else"] s (fun x => x.2.2) (branchesIn fin (f + 1) s) 1 := by
  unfold branchesIn
  refine (Good.bind (a := [.form "Expr"]) (b := [.tell "_", .form "Block", .form "Else"]) (d := 1) (d2 := 0) hv ((expr_good fin f).expr 0 (by omega) s hv (by omega)) ?_).weak (by omega)
  rintro ⟨c, m, s1⟩ hv1 hl1
  have hv1' : VS s1.toks := hv1
  have hl1' : s1.toks.length + 1 ≤ s.toks.length := hl1
  show Good fin [.tell "_", .form "Block", .form "Else"] s1 _ _ 0
  refine .tell ((Good.bind (a := [.form "Block"]) (b := [.form "Else"]) (d := 1) (d2 := 0) hv1' (G.block s1 hv1' (by omega)) ?_).weak (by omega))
  rintro ⟨b, k, s2⟩ hv2 hl2
  have hv2' : VS s2.toks := hv2
  have hl2' : s2.toks.length + 1 ≤ s1.toks.length := hl2
  have hlk2 := skip_len s2
  have hvk2 := skip_vs hv2'
  show Good fin [.form "Else"] s2 _ _ 0
  simp only
  rw [key_of hv2' (w := "else") (by decide +kernel), key_of hvk2 (w := "if") (by decide +kernel)]
  by_cases c1 : nextK s2.toks = signs "else"
  · have hlen := next_ne c1 (by decide)
    rw [decide_eq_true c1, if_pos rfl]
    refine .form (b := [.tell "_", .tok "else", .tell "_", .form "Otherwise"]) (by rw [c1]; decide +kernel) (.tell ?_)
    refine (Good.tok (d := 0) c1 (by decide) (skip_toks s2) (.tell ?_)).weak (by omega)
    by_cases c2 : nextK s2.skip.toks = signs "if"
    · have hlen2 := next_ne c2 (by decide)
      have hlk3 := skip_len s2.skip
      rw [decide_eq_true c2, if_pos rfl]
      refine .form (b := [.tok "if", .tell "_", .form "Expr", .tell "_", .form "Block", .form "Else"]) (by rw [c2]; decide +kernel) ?_
      refine (Good.tok (d := 1) c2 (by decide) (skip_toks _) (.tell ?_)).weak (by omega)
      refine Good.bind (a := [.form "Expr", .tell "_", .form "Block", .form "Else"]) (b := []) (d := 1) (d2 := 0) (skip_vs hvk2) (G.branches _ (skip_vs hvk2) (by omega)) ?_
      rintro ⟨r, j, s3⟩ _ _
      exact .pure rfl
    · rw [decide_eq_false c2, if_neg (by simp)]
      refine .form (b := [.form "Block"]) (row1 c2) ?_
      refine (Good.bind (a := [.form "Block"]) (b := []) (d := 1) (d2 := 0) hvk2 (G.block _ hvk2 (by omega)) ?_).weak (by omega)
      rintro ⟨e, j, s3⟩ _ _
      exact .pure rfl
  · rw [decide_eq_false c1, if_neg (by simp)]
    exact .form (b := []) (row2 c1) (.pure rfl)
theorem SG.cases_step (G : SG fin f) (s : St) (hv : VS s.toks) (hf : 24 * s.toks.length + 1 ≤ f + 1) : Good fin [.form "Cases", .act "@out", .tok "}"] s (fun x => x.2.2) (casesIn fin (f + 1) s) 1 := by
  have hlk := skip_len s
  have hvk := skip_vs hv
  unfold casesIn
  rw [key_of hv (w := "is") (by decide +kernel), key_of hv (w := "else") (by decide +kernel)]
  by_cases c1 : nextK s.toks = signs "is"
  · have hlen := next_ne c1 (by decide)
    rw [decide_eq_true c1, if_pos rfl]
    refine .form (b := [.tell "|", .tok "is", .tell "_", .form "Sort", .tell "_", .tok "NAME", .tell "_", .form "Block", .form "Cases"]) (by rw [c1]; decide +kernel) (.tell ?_)
    refine (Good.tok (d := 0) c1 (by decide) (skip_toks s) (.tell ?_)).weak (by omega)
    refine (Good.bind (a := [.form "Sort"]) (b := [.tell "_", .tok "NAME", .tell "_", .form "Block", .form "Cases", .act "@out", .tok "}"]) (d := 1) (d2 := 0) hvk ((sort_good fin f).1 _ hvk (by omega)) ?_).weak (by omega)
    rintro ⟨t, m, s1⟩ hv1 hl1
    have hv1' : VS s1.toks := hv1
    have hl1' : s1.toks.length + 1 ≤ s.skip.toks.length := hl1
    show Good fin [.tell "_", .tok "NAME", .tell "_", .form "Block", .form "Cases", .act "@out", .tok "}"] s1 _ _ 0
    refine .tell ((Good.bind (a := [.tok "NAME"]) (b := [.tell "_", .form "Block", .form "Cases", .act "@out", .tok "}"]) (d := 1) (d2 := 0) hv1' (good_take hv1' num1 (by decide)) ?_).weak (by omega))
    rintro ⟨n, s2⟩ hv2 hl2
    have hv2' : VS s2.toks := hv2
    have hl2' : s2.toks.length + 1 ≤ s1.toks.length := hl2
    show Good fin [.tell "_", .form "Block", .form "Cases", .act "@out", .tok "}"] s2 _ _ 0
    refine .tell ((Good.bind (a := [.form "Block"]) (b := [.form "Cases", .act "@out", .tok "}"]) (d := 1) (d2 := 0) hv2' (G.block s2 hv2' (by omega)) ?_).weak (by omega))
    rintro ⟨b, k, s3⟩ hv3 hl3
    have hv3' : VS s3.toks := hv3
    have hl3' : s3.toks.length + 1 ≤ s2.toks.length := hl3
    show Good fin [.form "Cases", .act "@out", .tok "}"] s3 _ _ 0
    refine (Good.bind (a := [.form "Cases", .act "@out", .tok "}"]) (b := []) (d := 1) (d2 := 0) hv3' (G.cases s3 hv3' (by omega)) ?_).weak (by omega)
    rintro ⟨r, j, s4⟩ _ _
    exact .pure rfl
  rw [decide_eq_false c1, if_neg (by simp)]
  by_cases c2 : nextK s.toks = signs "else"
  · have hlen := next_ne c2 (by decide)
    rw [decide_eq_true c2, if_pos rfl]
    refine .form (b := [.tell "|", .tok "else", .tell "_", .form "Block"]) (by rw [c2]; decide +kernel) (.tell ?_)
    refine (Good.tok (d := 0) c2 (by decide) (skip_toks s) (.tell ?_)).weak (by omega)
    refine (Good.bind (a := [.form "Block"]) (b := [.act "@out", .tok "}"]) (d := 1) (d2 := 0) hvk (G.block _ hvk (by omega)) ?_).weak (by omega)
    rintro ⟨b, m, s1⟩ hv1 hl1
    have hv1' : VS s1.toks := hv1
    show Good fin [.act "@out", .tok "}"] s1 _ _ 0
    refine .act ((Good.bind (a := [.tok "}"]) (b := []) (d := 1) (d2 := 0) hv1' (good_eatS hv1' (by decide +kernel) (by decide)) ?_).weak (by omega))
    intro s2 _ _
    exact .pure rfl
  rw [decide_eq_false c2, if_neg (by simp)]
  refine .form (b := []) ?_ (.act ?_)
  · show rowOf (nextK s.toks) [(["is"], _), (["else"], _), ([], [])] = _
    rw [no_head c1]
    exact row2 c2
  · refine Good.bind (a := [.tok "}"]) (b := []) (d := 1) (d2 := 0) hv (good_eatS hv (by decide +kernel) (by decide)) ?_
    intro s2 _ _
    exact .pure rfl
end La
set_option maxHeartbeats 4000000
/-! One statement, and all; no library. -/
namespace La
open EwTree
variable {fin : Fault} {f : Nat}
/-- a form, then what's left is handed on -/
theorem Good.last {α β : Type} {fin : Fault} {a : List Item} {s : St} {out : α → St} {out2 : β → St} {r : Except Fault α} {g : α → Except Fault β} {d : Nat} (hv : VS s.toks) (h : Good fin a s out r d) (k : ∀ x, ∃ y, g x = .ok y ∧ (out2 y).toks = (out x).toks) : Good fin a s out2 (r >>= g) d := by
  have q := Good.bind (b := []) (d2 := 0) (g := g) (out2 := out2) hv h fun x _ _ => by
    obtain ⟨y, e, h⟩ := k x
    rw [e]
    exact .pure h
  rwa [List.append_nil] at q
theorem SG.stmt_step (G : SG fin f) (s : St) (hv : VS s.toks) (hf : 24 * s.toks.length + 1 ≤ f + 1) : Good fin [.form "Statement"] s (fun x => x.2.2) (stmtIn fin (f + 1) s) 1 := by
  have E := expr_good fin f
  have hlk := skip_len s
  have hvk := skip_vs hv
  unfold stmtIn
  rw [key_of hv (w := "let") (by decide +kernel), key_of hv (w := "flags") (by decide +kernel), key_of hv (w := "if") (by decide +kernel), key_of hv (w := "while") (by decide +kernel), key_of hv (w := "for") (by decide +kernel), key_of hv (w := "match") (by decide +kernel), key_of hv (w := "return") (by decide +kernel), key_of hv (w := "leave") (by decide +kernel), key_of hv (w := "break") (by decide +kernel), key_of hv (w := "next") (by decide +kernel), key_of hv (w := "with") (by decide +kernel), key_of hv (w := "try") (by decide +kernel), key_of hv (w := "raise") (by decide +kernel), key_of hv (w := "say") (by decide +kernel), key_of hv (w := "yield") (by decide +kernel), key_of hv (w := "post") (by decide +kernel)]
  by_cases c1 : nextK s.toks = signs "let"
  · have hlen := next_ne c1 (by decide)
    rw [decide_eq_true c1, if_pos rfl]
    refine .form (b := [.form "Let"]) (by rw [c1]; decide +kernel) (.form (b := [.tok "let", .tell "_", .tok "NAME", .form "Sorted", .tell "_", .tok "=", .tell "_", .form "Expr"]) rfl ?_)
    refine (Good.tok (d := 2) c1 (by decide) (skip_toks s) (.tell ?_)).weak (by omega)
    exact Good.last hvk (let_good s.skip hvk (by omega)) fun x => ⟨_, rfl, rfl⟩
  rw [decide_eq_false c1, if_neg (by simp)]
  by_cases c2 : nextK s.toks = signs "flags"
  · have hlen := next_ne c2 (by decide)
    rw [decide_eq_true c2, if_pos rfl]
    refine .form (b := [.tok "flags", .tell "_", .tok "=", .tell "_", .form "Expr"]) (by rw [c2]; decide +kernel) ?_
    refine (Good.tok (d := 0) c2 (by decide) (skip_toks s) (.tell ?_)).weak (by omega)
    refine (Good.bind (a := [.tok "="]) (b := [.tell "_", .form "Expr"]) (d := 1) (d2 := 0) hvk (good_eatS hvk (by decide +kernel) (by decide)) ?_).weak (by omega)
    intro s1 hv1 hl1
    have hl1' : s1.toks.length + 1 ≤ s.skip.toks.length := hl1
    refine .tell (Good.weak (d := 1) ?_ (by omega))
    exact Good.last hv1 (E.expr 0 (by omega) s1 hv1 (by omega)) fun x => ⟨_, rfl, rfl⟩
  rw [decide_eq_false c2, if_neg (by simp)]
  by_cases c3 : nextK s.toks = signs "if"
  · have hlen := next_ne c3 (by decide)
    rw [decide_eq_true c3, if_pos rfl]
    refine .form (b := [.tok "if", .tell "_", .form "Expr", .tell "_", .form "Block", .form "Else"]) (by rw [c3]; decide +kernel) ?_
    refine (Good.tok (d := 1) c3 (by decide) (skip_toks s) (.tell ?_)).weak (by omega)
    exact Good.last hvk (G.branches s.skip hvk (by omega)) fun x => ⟨_, rfl, rfl⟩
  rw [decide_eq_false c3, if_neg (by simp)]
  by_cases c4 : nextK s.toks = signs "while"
  · have hlen := next_ne c4 (by decide)
    rw [decide_eq_true c4, if_pos rfl]
    refine .form (b := [.tok "while", .tell "_", .form "Expr", .tell "_", .form "Block"]) (by rw [c4]; decide +kernel) ?_
    refine (Good.tok (d := 0) c4 (by decide) (skip_toks s) (.tell ?_)).weak (by omega)
    refine (Good.bind (a := [.form "Expr"]) (b := [.tell "_", .form "Block"]) (d := 1) (d2 := 0) hvk (E.expr 0 (by omega) _ hvk (by omega)) ?_).weak (by omega)
    rintro ⟨c, m, s1⟩ hv1 hl1
    have hl1' : s1.toks.length + 1 ≤ s.skip.toks.length := hl1
    refine .tell (Good.weak (d := 1) ?_ (by omega))
    exact Good.last hv1 (G.block s1 hv1 (by omega)) fun x => ⟨_, rfl, rfl⟩
  rw [decide_eq_false c4, if_neg (by simp)]
  by_cases c5 : nextK s.toks = signs "for"
  · have hlen := next_ne c5 (by decide)
    rw [decide_eq_true c5, if_pos rfl]
    refine .form (b := [.tok "for", .tell "_", .tok "NAME", .tell "_", .tok "in", .tell "_", .form "Expr", .form "To", .tell "_", .form "Block"]) (by rw [c5]; decide +kernel) ?_
    refine (Good.tok (d := 0) c5 (by decide) (skip_toks s) (.tell ?_)).weak (by omega)
    refine (Good.bind (a := [.tok "NAME"]) (b := [.tell "_", .tok "in", .tell "_", .form "Expr", .form "To", .tell "_", .form "Block"]) (d := 1) (d2 := 0) hvk (good_take hvk num1 (by decide)) ?_).weak (by omega)
    rintro ⟨n, s1⟩ hv1 hl1
    have hv1' : VS s1.toks := hv1
    have hl1' : s1.toks.length + 1 ≤ s.skip.toks.length := hl1
    show Good fin [.tell "_", .tok "in", .tell "_", .form "Expr", .form "To", .tell "_", .form "Block"] s1 _ _ 0
    refine .tell ((Good.bind (a := [.tok "in"]) (b := [.tell "_", .form "Expr", .form "To", .tell "_", .form "Block"]) (d := 1) (d2 := 0) hv1' (good_eatK hv1' (by decide +kernel) (by decide)) ?_).weak (by omega))
    intro s2 hv2 hl2
    have hv2' : VS s2.toks := hv2
    have hl2' : s2.toks.length + 1 ≤ s1.toks.length := hl2
    show Good fin [.tell "_", .form "Expr", .form "To", .tell "_", .form "Block"] s2 _ _ 0
    refine .tell ((Good.bind (a := [.form "Expr"]) (b := [.form "To", .tell "_", .form "Block"]) (d := 1) (d2 := 0) hv2' (E.expr 0 (by omega) s2 hv2' (by omega)) ?_).weak (by omega))
    rintro ⟨x, m, s3⟩ hv3 hl3
    have hv3' : VS s3.toks := hv3
    have hl3' : s3.toks.length + 1 ≤ s2.toks.length := hl3
    have hlk3 := skip_len s3
    show Good fin [.form "To", .tell "_", .form "Block"] s3 _ _ 0
    refine (Good.bind (a := [.form "To"]) (b := [.tell "_", .form "Block"]) (d := 0) (d2 := 0) hv3' (out := fun x => x.2.2) ?_ ?_).weak (by omega)
    · rw [key_of hv3' (w := "to") (by decide +kernel)]
      by_cases d1 : nextK s3.toks = signs "to"
      · have hlen3 := next_ne d1 (by decide)
        rw [decide_eq_true d1, if_pos rfl]
        refine .form (b := [.tell "_", .tok "to", .tell "_", .form "Expr"]) (by rw [d1]; decide +kernel) (.tell ?_)
        refine (Good.tok (d := 1) d1 (by decide) (skip_toks s3) (.tell ?_)).weak (by omega)
        rcases E.expr 0 (by omega) s3.skip (skip_vs hv3') (by omega) with ⟨y, n2, e, h⟩ | ⟨us, e, h⟩
        · rw [e]
          exact .inl ⟨_, n2, rfl, h⟩
        · rw [e]
          exact .inr ⟨us, rfl, h⟩
      · rw [decide_eq_false d1, if_neg (by simp)]
        exact .form (b := []) (row2 d1) (.pure rfl)
    · rintro ⟨y, k, s4⟩ hv4 hl4
      have hl4' : s4.toks.length + 0 ≤ s3.toks.length := hl4
      refine .tell (Good.weak (d := 1) ?_ (by omega))
      exact Good.last hv4 (G.block s4 hv4 (by omega)) fun x => ⟨_, rfl, rfl⟩
  rw [decide_eq_false c5, if_neg (by simp)]
  by_cases c6 : nextK s.toks = signs "match"
  · have hlen := next_ne c6 (by decide)
    rw [decide_eq_true c6, if_pos rfl]
    refine .form (b := [.tok "match", .tell "_", .form "Expr", .tell "_", .tok "{", .act "@in", .form "Cases", .act "@out", .tok "}"]) (by rw [c6]; decide +kernel) ?_
    refine (Good.tok (d := 0) c6 (by decide) (skip_toks s) (.tell ?_)).weak (by omega)
    refine (Good.bind (a := [.form "Expr"]) (b := [.tell "_", .tok "{", .act "@in", .form "Cases", .act "@out", .tok "}"]) (d := 1) (d2 := 0) hvk (E.expr 0 (by omega) _ hvk (by omega)) ?_).weak (by omega)
    rintro ⟨x, m, s1⟩ hv1 hl1
    have hv1' : VS s1.toks := hv1
    have hl1' : s1.toks.length + 1 ≤ s.skip.toks.length := hl1
    show Good fin [.tell "_", .tok "{", .act "@in", .form "Cases", .act "@out", .tok "}"] s1 _ _ 0
    refine .tell ((Good.bind (a := [.tok "{"]) (b := [.act "@in", .form "Cases", .act "@out", .tok "}"]) (d := 1) (d2 := 0) hv1' (good_eatS hv1' (by decide +kernel) (by decide)) ?_).weak (by omega))
    intro s2 hv2 hl2
    have hl2' : s2.toks.length + 1 ≤ s1.toks.length := hl2
    refine .act (Good.weak (d := 1) ?_ (by omega))
    exact Good.last hv2 (G.cases s2 hv2 (by omega)) fun x => ⟨_, rfl, rfl⟩
  rw [decide_eq_false c6, if_neg (by simp)]
  by_cases c7 : nextK s.toks = signs "return"
  · have hlen := next_ne c7 (by decide)
    rw [decide_eq_true c7, if_pos rfl]
    refine .form (b := [.tok "return", .tell "_", .form "Expr"]) (by rw [c7]; decide +kernel) ?_
    refine (Good.tok (d := 1) c7 (by decide) (skip_toks s) (.tell ?_)).weak (by omega)
    exact Good.last hvk (E.expr 0 (by omega) _ hvk (by omega)) fun x => ⟨_, rfl, rfl⟩
  rw [decide_eq_false c7, if_neg (by simp)]
  by_cases c8 : nextK s.toks = signs "leave"
  · rw [decide_eq_true c8, if_pos rfl]
    refine .form (b := [.any]) (by rw [c8]; decide +kernel) ?_
    exact .any (s' := s.skip) (next_ne c8 (by decide)) (skip_toks s) (.pure rfl)
  rw [decide_eq_false c8, if_neg (by simp)]
  by_cases c9 : nextK s.toks = signs "break"
  · rw [decide_eq_true c9, if_pos rfl]
    refine .form (b := [.any]) (by rw [c9]; decide +kernel) ?_
    exact .any (s' := s.skip) (next_ne c9 (by decide)) (skip_toks s) (.pure rfl)
  rw [decide_eq_false c9, if_neg (by simp)]
  by_cases c10 : nextK s.toks = signs "next"
  · rw [decide_eq_true c10, if_pos rfl]
    refine .form (b := [.any]) (by rw [c10]; decide +kernel) ?_
    exact .any (s' := s.skip) (next_ne c10 (by decide)) (skip_toks s) (.pure rfl)
  rw [decide_eq_false c10, if_neg (by simp)]
  by_cases c11 : nextK s.toks = signs "with"
  · have hlen := next_ne c11 (by decide)
    rw [decide_eq_true c11, if_pos rfl]
    refine .form (b := [.tok "with", .tell "_", .form "Mode", .form "Moremodes", .tell "_", .form "Block"]) (by rw [c11]; decide +kernel) ?_
    refine (Good.tok (d := 0) c11 (by decide) (skip_toks s) (.tell ?_)).weak (by omega)
    refine (Good.bind (a := [.form "Mode", .form "Moremodes"]) (b := [.tell "_", .form "Block"]) (d := 1) (d2 := 0) hvk (modes_good f _ hvk (by omega)) ?_).weak (by omega)
    rintro ⟨l, s1⟩ hv1 hl1
    have hl1' : s1.toks.length + 1 ≤ s.skip.toks.length := hl1
    refine .tell (Good.weak (d := 1) ?_ (by omega))
    exact Good.last hv1 (G.block s1 hv1 (by omega)) fun x => ⟨_, rfl, rfl⟩
  rw [decide_eq_false c11, if_neg (by simp)]
  by_cases c12 : nextK s.toks = signs "try"
  · have hlen := next_ne c12 (by decide)
    rw [decide_eq_true c12, if_pos rfl]
    refine .form (b := [.tok "try", .tell "_", .form "Block", .form "Handlers"]) (by rw [c12]; decide +kernel) ?_
    refine (Good.tok (d := 0) c12 (by decide) (skip_toks s) (.tell ?_)).weak (by omega)
    refine (Good.bind (a := [.form "Block"]) (b := [.form "Handlers"]) (d := 1) (d2 := 0) hvk (G.block _ hvk (by omega)) ?_).weak (by omega)
    rintro ⟨b, m, s1⟩ hv1 hl1
    have hv1' : VS s1.toks := hv1
    have hl1' : s1.toks.length + 1 ≤ s.skip.toks.length := hl1
    have hlk1 := skip_len s1
    have hvk1 := skip_vs hv1'
    show Good fin [.form "Handlers"] s1 _ _ 0
    simp only
    rw [key_of hv1' (w := "catch") (by decide +kernel)]
    by_cases d1 : nextK s1.toks = signs "catch"
    · have hlen1 := next_ne d1 (by decide)
      rw [decide_eq_true d1, if_pos rfl]
      refine .form (b := [.tell "_", .tok "catch", .tell "_", .tok "NAME", .tell "_", .form "Block", .form "Finally"]) (by rw [d1]; decide +kernel) (.tell ?_)
      refine (Good.tok (d := 0) d1 (by decide) (skip_toks s1) (.tell ?_)).weak (by omega)
      refine (Good.bind (a := [.tok "NAME"]) (b := [.tell "_", .form "Block", .form "Finally"]) (d := 1) (d2 := 0) hvk1 (good_take hvk1 num1 (by decide)) ?_).weak (by omega)
      rintro ⟨n, s2⟩ hv2 hl2
      have hv2' : VS s2.toks := hv2
      have hl2' : s2.toks.length + 1 ≤ s1.skip.toks.length := hl2
      show Good fin [.tell "_", .form "Block", .form "Finally"] s2 _ _ 0
      refine .tell ((Good.bind (a := [.form "Block"]) (b := [.form "Finally"]) (d := 1) (d2 := 0) hv2' (G.block s2 hv2' (by omega)) ?_).weak (by omega))
      rintro ⟨c, k, s3⟩ hv3 hl3
      have hv3' : VS s3.toks := hv3
      have hl3' : s3.toks.length + 1 ≤ s2.toks.length := hl3
      have hlk3 := skip_len s3
      show Good fin [.form "Finally"] s3 _ _ 0
      simp only
      rw [key_of hv3' (w := "finally") (by decide +kernel)]
      by_cases d2 : nextK s3.toks = signs "finally"
      · have hlen3 := next_ne d2 (by decide)
        rw [decide_eq_true d2, if_pos rfl]
        refine .form (b := [.tell "_", .tok "finally", .tell "_", .form "Block"]) (by rw [d2]; decide +kernel) (.tell ?_)
        refine (Good.tok (d := 1) d2 (by decide) (skip_toks s3) (.tell ?_)).weak (by omega)
        exact Good.last (skip_vs hv3') (G.block _ (skip_vs hv3') (by omega)) fun x => ⟨_, rfl, rfl⟩
      · rw [decide_eq_false d2, if_neg (by simp)]
        exact .form (b := []) (row2 d2) (.pure rfl)
    · rw [decide_eq_false d1, if_neg (by simp)]
      by_cases d2 : nextK s1.toks = signs "finally"
      · refine .form (b := [.tell "_", .tok "finally", .tell "_", .form "Block"]) (by rw [d2]; decide +kernel) (.tell ?_)
        refine (Good.bind (a := [.tok "finally"]) (b := [.tell "_", .form "Block"]) (d := 1) (d2 := 0) hv1' (good_eatK hv1' (by decide +kernel) (by decide)) ?_).weak (by omega)
        intro s2 hv2 hl2
        have hl2' : s2.toks.length + 1 ≤ s1.toks.length := hl2
        refine .tell (Good.weak (d := 1) ?_ (by omega))
        exact Good.last hv2 (G.block s2 hv2 (by omega)) fun x => ⟨_, rfl, rfl⟩
      · have he : eat fin (s1.key "finally") s1 = .error (bad fin s1) := by
          unfold eat
          rw [key_of hv1' (w := "finally") (by decide +kernel), decide_eq_false d2, if_neg (by simp)]
        rw [he]
        refine .noform ?_
        show rowOf (nextK s1.toks) [(["catch"], _), (["finally"], _)] = _
        rw [no_head d1, no_head d2]
        rfl
  rw [decide_eq_false c12, if_neg (by simp)]
  by_cases c13 : nextK s.toks = signs "raise"
  · have hlen := next_ne c13 (by decide)
    rw [decide_eq_true c13, if_pos rfl]
    refine .form (b := [.tok "raise", .tell "_", .form "Expr"]) (by rw [c13]; decide +kernel) ?_
    refine (Good.tok (d := 1) c13 (by decide) (skip_toks s) (.tell ?_)).weak (by omega)
    exact Good.last hvk (E.expr 0 (by omega) _ hvk (by omega)) fun x => ⟨_, rfl, rfl⟩
  rw [decide_eq_false c13, if_neg (by simp)]
  by_cases c14 : nextK s.toks = signs "say"
  · have hlen := next_ne c14 (by decide)
    rw [decide_eq_true c14, if_pos rfl]
    refine .form (b := [.tok "say", .tell "_", .act "@start", .form "Expr", .form "Moreexprs", .act "@end"]) (by rw [c14]; decide +kernel) ?_
    refine (Good.tok (d := 1) c14 (by decide) (skip_toks s) (.tell (.act ?_))).weak (by omega)
    refine Good.bind (a := [.form "Expr", .form "Moreexprs"]) (b := [.act "@end"]) (d := 1) (d2 := 0) hvk (E.said _ hvk (by omega)) ?_
    rintro ⟨l, m, s1⟩ _ _
    exact .act (.pure rfl)
  rw [decide_eq_false c14, if_neg (by simp)]
  by_cases c15 : nextK s.toks = signs "yield"
  · have hlen := next_ne c15 (by decide)
    rw [decide_eq_true c15, if_pos rfl]
    refine .form (b := [.tok "yield", .tell "_", .form "Expr", .form "Into"]) (by rw [c15]; decide +kernel) ?_
    refine (Good.tok (d := 0) c15 (by decide) (skip_toks s) (.tell ?_)).weak (by omega)
    refine (Good.bind (a := [.form "Expr"]) (b := [.form "Into"]) (d := 1) (d2 := 0) hvk (E.expr 0 (by omega) _ hvk (by omega)) ?_).weak (by omega)
    rintro ⟨x, m, s1⟩ hv1 hl1
    have hv1' : VS s1.toks := hv1
    have hl1' : s1.toks.length + 1 ≤ s.skip.toks.length := hl1
    show Good fin [.form "Into"] s1 _ _ 0
    refine Good.last (out := fun x => x.2) hv1' ?_ fun x => ⟨_, rfl, rfl⟩
    rw [key_of hv1' (w := "into") (by decide +kernel)]
    by_cases d1 : nextK s1.toks = signs "into"
    · rw [decide_eq_true d1, if_pos rfl]
      refine .form (b := [.tell "_", .tok "into", .tell "_", .tok "NAME"]) (by rw [d1]; decide +kernel) (.tell ?_)
      refine (Good.tok (d := 1) d1 (by decide) (skip_toks s1) (.tell ?_)).weak (by omega)
      rcases good_take (fin := fin) (skip_vs hv1') num1 (by decide) with ⟨y, n2, e, h⟩ | ⟨us, e, h⟩
      · rw [e]
        exact .inl ⟨_, n2, rfl, h⟩
      · rw [e]
        exact .inr ⟨us, rfl, h⟩
    · rw [decide_eq_false d1, if_neg (by simp)]
      exact .form (b := []) (row2 d1) (.pure rfl)
  rw [decide_eq_false c15, if_neg (by simp)]
  by_cases c16 : nextK s.toks = signs "post"
  · have hlen := next_ne c16 (by decide)
    rw [decide_eq_true c16, if_pos rfl]
    refine .form (b := [.tok "post", .tell "_", .form "Expr", .tok ":", .tell "_", .form "Expr", .tell "_", .tok "from", .tell "_", .form "Expr", .form "Posttext"]) (by rw [c16]; decide +kernel) ?_
    refine (Good.tok (d := 0) c16 (by decide) (skip_toks s) (.tell ?_)).weak (by omega)
    refine (Good.bind (a := [.form "Expr"]) (b := [.tok ":", .tell "_", .form "Expr", .tell "_", .tok "from", .tell "_", .form "Expr", .form "Posttext"]) (d := 1) (d2 := 0) hvk (E.expr 0 (by omega) _ hvk (by omega)) ?_).weak (by omega)
    rintro ⟨x, m, s1⟩ hv1 hl1
    have hv1' : VS s1.toks := hv1
    have hl1' : s1.toks.length + 1 ≤ s.skip.toks.length := hl1
    show Good fin [.tok ":", .tell "_", .form "Expr", .tell "_", .tok "from", .tell "_", .form "Expr", .form "Posttext"] s1 _ _ 0
    refine (Good.bind (a := [.tok ":"]) (b := [.tell "_", .form "Expr", .tell "_", .tok "from", .tell "_", .form "Expr", .form "Posttext"]) (d := 1) (d2 := 0) hv1' (good_eatS hv1' (by decide +kernel) (by decide)) ?_).weak (by omega)
    intro s2 hv2 hl2
    have hv2' : VS s2.toks := hv2
    have hl2' : s2.toks.length + 1 ≤ s1.toks.length := hl2
    show Good fin [.tell "_", .form "Expr", .tell "_", .tok "from", .tell "_", .form "Expr", .form "Posttext"] s2 _ _ 0
    refine .tell ((Good.bind (a := [.form "Expr"]) (b := [.tell "_", .tok "from", .tell "_", .form "Expr", .form "Posttext"]) (d := 1) (d2 := 0) hv2' (E.expr 0 (by omega) s2 hv2' (by omega)) ?_).weak (by omega))
    rintro ⟨y, k, s3⟩ hv3 hl3
    have hv3' : VS s3.toks := hv3
    have hl3' : s3.toks.length + 1 ≤ s2.toks.length := hl3
    show Good fin [.tell "_", .tok "from", .tell "_", .form "Expr", .form "Posttext"] s3 _ _ 0
    refine .tell ((Good.bind (a := [.tok "from"]) (b := [.tell "_", .form "Expr", .form "Posttext"]) (d := 1) (d2 := 0) hv3' (good_eatK hv3' (by decide +kernel) (by decide)) ?_).weak (by omega))
    intro s4 hv4 hl4
    have hv4' : VS s4.toks := hv4
    have hl4' : s4.toks.length + 1 ≤ s3.toks.length := hl4
    show Good fin [.tell "_", .form "Expr", .form "Posttext"] s4 _ _ 0
    refine .tell ((Good.bind (a := [.form "Expr"]) (b := [.form "Posttext"]) (d := 1) (d2 := 0) hv4' (E.expr 0 (by omega) s4 hv4' (by omega)) ?_).weak (by omega))
    rintro ⟨z, j, s5⟩ hv5 hl5
    have hv5' : VS s5.toks := hv5
    exact optTok_good hv5' num4 (by decide) rfl (.pure rfl)
  rw [decide_eq_false c16, if_neg (by simp)]
  by_cases c17 : nextK s.toks = signs "NAME"
  · have hlen := next_ne c17 (by decide)
    refine .form (b := [.tok "NAME", .form "Chain"]) (by rw [c17]; decide +kernel) ?_
    refine (Good.bind (a := [.tok "NAME"]) (b := [.form "Chain"]) (d := 1) (d2 := 0) hv (good_take hv num1 (by decide)) ?_).weak (by omega)
    rintro ⟨n, z⟩ hv1 hl1
    have hv1' : VS z.toks := hv1
    have hl1' : z.toks.length + 1 ≤ s.toks.length := hl1
    exact chain_good f f s.here s.here (.name n) _ z (Nat.le_refl _) hv1' (by omega)
  · rw [take_no hv num1 c17]
    refine .noform ?_
    refine no_row (heads := ["let", "NAME", "flags", "if", "while", "for", "match", "return", "leave", "break", "next", "with", "try", "raise", "say", "yield", "post"]) (by decide +kernel) fun w hw => ?_
    simp only [List.mem_cons, List.not_mem_nil, or_false] at hw
    rcases hw with h | h | h | h | h | h | h | h | h | h | h | h | h | h | h | h | h <;> subst h <;> assumption
/-- **all of the specification's statements** -/
theorem stmt_good (fin : Fault) : ∀ f, SG fin f
  | 0 => SG.zero fin
  | f + 1 => by
    have G := stmt_good fin f
    exact {
      stmt := fun s hv hf => G.stmt_step s hv hf
      block := fun s hv hf => G.block_step s hv hf
      stmts := fun s hv hf => G.stmts_step s hv hf
      branches := fun s hv hf => G.branches_step s hv hf
      cases := fun s hv hf => G.cases_step s hv hf }
end La
set_option maxHeartbeats 4000000
/-! Declarations; no library. -/
namespace La
open EwTree
variable {fin : Fault} {f : Nat}
theorem parts_good (c : String) (hc : c = ")" ∨ c = "}") : ∀ f, ∀ s : St, VS s.toks → 24 * s.toks.length + 1 ≤ f → Good fin [.form "Field", .form "Morefields", .act "@last", .tok c] s (fun x => x.2.2) (partsIn fin c f s) 2
  | 0, s, _, h => by omega
  | f + 1, s, hv, hf => by
    unfold partsIn
    refine .form (b := [.tok "NAME", .tok ":", .tell "_", .form "Sort"]) rfl ?_
    refine (Good.bind (a := [.tok "NAME"]) (b := [.tok ":", .tell "_", .form "Sort", .form "Morefields", .act "@last", .tok c]) (d := 1) (d2 := 2) hv (good_take hv num1 (by decide)) ?_).weak (by omega)
    rintro ⟨n, s0⟩ hv0 hl0
    have hv0' : VS s0.toks := hv0
    have hl0' : s0.toks.length + 1 ≤ s.toks.length := hl0
    show Good fin [.tok ":", .tell "_", .form "Sort", .form "Morefields", .act "@last", .tok c] s0 _ _ 2
    refine (Good.bind (a := [.tok ":"]) (b := [.tell "_", .form "Sort", .form "Morefields", .act "@last", .tok c]) (d := 1) (d2 := 2) hv0' (good_eatS hv0' (by decide +kernel) (by decide)) ?_).weak (by omega)
    intro s3 hv3 hl3
    have hv3' : VS s3.toks := hv3
    have hl3' : s3.toks.length + 1 ≤ s0.toks.length := hl3
    show Good fin [.tell "_", .form "Sort", .form "Morefields", .act "@last", .tok c] s3 _ _ 2
    refine .tell (Good.bind (a := [.form "Sort"]) (b := [.form "Morefields", .act "@last", .tok c]) (d := 1) (d2 := 1) hv3' ((sort_good fin f).1 s3 hv3' (by omega)) ?_)
    rintro ⟨x, m, s1⟩ hv1 hl1
    have hv1' : VS s1.toks := hv1
    have hl1' : s1.toks.length + 1 ≤ s3.toks.length := hl1
    have hlk1 := skip_len s1
    show Good fin [.form "Morefields", .act "@last", .tok c] s1 _ _ 1
    simp only
    rw [sign_of hv1' (w := ",") (by decide +kernel)]
    by_cases c1 : nextK s1.toks = signs ","
    · have hlen := next_ne c1 (by decide)
      rw [decide_eq_true c1, if_pos rfl]
      refine .form (b := [.tok ",", .act "@may", .form "Field", .form "Morefields"]) (by rw [c1]; decide +kernel) ?_
      refine (Good.tok (d := 2) c1 (by decide) (skip_toks _) (.act ?_)).weak (by omega)
      exact Good.last (skip_vs hv1') (parts_good c hc f _ (skip_vs hv1') (by omega)) fun x => ⟨_, rfl, rfl⟩
    · rw [decide_eq_false c1, if_neg (by simp)]
      refine .form (b := []) (row2 c1) (.act ?_)
      rcases hc with rfl | rfl
      · exact Good.last (a := [.tok ")"]) hv1' (good_eatS hv1' (by decide +kernel) (by decide)) fun x => ⟨_, rfl, rfl⟩
      · exact Good.last (a := [.tok "}"]) hv1' (good_eatS hv1' (by decide +kernel) (by decide)) fun x => ⟨_, rfl, rfl⟩
theorem row1b {k : List Nat} {h h2 : String} {b c : List Item} (hk : k ≠ signs h) (hk2 : k ≠ signs h2) : rowOf k [([h, h2], b), ([], c)] = some c := rowE (by simp) fun w hw => by
  simp only [List.mem_cons, List.not_mem_nil, or_false] at hw
  rcases hw with e | e <;> subst e <;> assumption
theorem fields_at (c : String) (hc : c = ")" ∨ c = "}") (s : St) (hv : VS s.toks) (hn : c = ")" → nextK s.toks ≠ signs "}") (hn2 : c = "}" → nextK s.toks ≠ signs ")") (hf : 24 * s.toks.length + 1 ≤ f) : Good fin [.form "Fields", .tok c] s (fun x => x.2.2)
    (if s.sign c = true then (.ok ([], [], s.skip) : Except Fault ((List (Bytes × Srt)) × List Mark × St)) else partsIn fin c f s) 1 := by
  have hsg : s.sign c = decide (nextK s.toks = signs c) := by
    rcases hc with rfl | rfl
    · exact sign_of hv (by decide +kernel)
    · exact sign_of hv (by decide +kernel)
  rw [hsg]
  by_cases c6 : nextK s.toks = signs c
  · rw [decide_eq_true c6, if_pos rfl]
    rcases hc with rfl | rfl
    · exact .form (b := []) (by rw [c6]; decide +kernel) (.tok c6 (by decide) (skip_toks s) (.pure rfl))
    · exact .form (b := []) (by rw [c6]; decide +kernel) (.tok c6 (by decide) (skip_toks s) (.pure rfl))
  · rw [decide_eq_false c6, if_neg (by simp)]
    refine .form (b := [.act "@first", .form "Field", .form "Morefields", .act "@last"]) ?_ (.act ((parts_good c hc f s hv hf).weak (by omega)))
    rcases hc with rfl | rfl
    · exact row1b c6 (hn rfl)
    · exact row1b (hn2 rfl) c6
end La
set_option maxHeartbeats 4000000
/-! Declarations, the whole program; no library. -/
namespace La
open EwTree
variable {fin : Fault} {f : Nat}
/-- the other bracket's closing sign: both stop there -/
theorem fields_all (c : String) (hc : c = ")" ∨ c = "}") (s : St) (hv : VS s.toks) (hf : 24 * s.toks.length + 1 ≤ f) : Good fin [.form "Fields", .tok c] s (fun x => x.2.2)
    (if s.sign c = true then (.ok ([], [], s.skip) : Except Fault ((List (Bytes × Srt)) × List Mark × St)) else partsIn fin c f s) 1 := by
  by_cases h1 : c = ")" ∧ nextK s.toks = signs "}"
  · obtain ⟨rfl, h2⟩ := h1
    rw [sign_of hv (w := ")") (by decide +kernel), decide_eq_false (by rw [h2]; decide), if_neg (by simp)]
    obtain ⟨f', rfl⟩ : ∃ g, f = g + 1 := ⟨f - 1, by omega⟩
    unfold partsIn
    rw [take_no hv num1 (by rw [h2]; decide)]
    refine .form (b := []) (by rw [h2]; decide +kernel) ?_
    exact .inr ⟨s.toks, congrArg Except.error (bad_toks rfl), .bad (by rw [h2]; decide)⟩
  by_cases h3 : c = "}" ∧ nextK s.toks = signs ")"
  · obtain ⟨rfl, h2⟩ := h3
    rw [sign_of hv (w := "}") (by decide +kernel), decide_eq_false (by rw [h2]; decide), if_neg (by simp)]
    obtain ⟨f', rfl⟩ : ∃ g, f = g + 1 := ⟨f - 1, by omega⟩
    unfold partsIn
    rw [take_no hv num1 (by rw [h2]; decide)]
    refine .form (b := []) (by rw [h2]; decide +kernel) ?_
    exact .inr ⟨s.toks, congrArg Except.error (bad_toks rfl), .bad (by rw [h2]; decide)⟩
  exact fields_at c hc s hv (fun e h => h1 ⟨e, h⟩) (fun e h => h3 ⟨e, h⟩) hf
theorem decl_good (s : St) (hv : VS s.toks) (hf : 24 * s.toks.length + 24 ≤ f) : Good fin [.form "Decl"] s (fun x => x.2.2) (declIn fin f s) 1 := by
  have hlk := skip_len s
  have hvk := skip_vs hv
  unfold declIn
  simp only
  rw [key_of hv (w := "let") (by decide +kernel), key_of hv (w := "record") (by decide +kernel), key_of hv (w := "account") (by decide +kernel), key_of hv (w := "fn") (by decide +kernel)]
  by_cases c1 : nextK s.toks = signs "let"
  · rw [decide_eq_true c1, if_pos rfl]
    refine .form (b := [.form "Let"]) (by rw [c1]; decide +kernel) (.form (b := [.tok "let", .tell "_", .tok "NAME", .form "Sorted", .tell "_", .tok "=", .tell "_", .form "Expr"]) rfl ?_)
    refine (Good.tok (d := 2) c1 (by decide) (skip_toks s) (.tell ?_)).weak (by omega)
    exact Good.last hvk (let_good s.skip hvk (by omega)) fun x => ⟨_, rfl, rfl⟩
  rw [decide_eq_false c1, if_neg (by simp)]
  by_cases c2 : nextK s.toks = signs "record"
  · rw [decide_eq_true c2, if_pos rfl]
    refine .form (b := [.tok "record", .tell "_", .tok "NAME", .tell "_", .tok "{", .form "Fields", .tok "}"]) (by rw [c2]; decide +kernel) ?_
    refine (Good.tok (d := 0) c2 (by decide) (skip_toks s) (.tell ?_)).weak (by omega)
    refine (Good.bind (a := [.tok "NAME"]) (b := [.tell "_", .tok "{", .form "Fields", .tok "}"]) (d := 1) (d2 := 0) hvk (good_take hvk num1 (by decide)) ?_).weak (by omega)
    rintro ⟨n, s1⟩ hv1 hl1
    have hv1' : VS s1.toks := hv1
    have hl1' : s1.toks.length + 1 ≤ s.skip.toks.length := hl1
    show Good fin [.tell "_", .tok "{", .form "Fields", .tok "}"] s1 _ _ 0
    refine .tell ((Good.bind (a := [.tok "{"]) (b := [.form "Fields", .tok "}"]) (d := 1) (d2 := 0) hv1' (good_eatS hv1' (by decide +kernel) (by decide)) ?_).weak (by omega))
    intro s2 hv2 hl2
    have hl2' : s2.toks.length + 1 ≤ s1.toks.length := hl2
    refine Good.weak (d := 1) ?_ (by omega)
    exact Good.last hv2 (fields_all "}" (.inr rfl) s2 hv2 (by omega)) fun x => ⟨_, rfl, rfl⟩
  rw [decide_eq_false c2, if_neg (by simp)]
  by_cases c3 : nextK s.toks = signs "account"
  · rw [decide_eq_true c3, if_pos rfl]
    refine .form (b := [.tok "account", .tell "_", .tok "NAME", .tell "_", .tok "CODE"]) (by rw [c3]; decide +kernel) ?_
    refine (Good.tok (d := 0) c3 (by decide) (skip_toks s) (.tell ?_)).weak (by omega)
    refine (Good.bind (a := [.tok "NAME"]) (b := [.tell "_", .tok "CODE"]) (d := 1) (d2 := 0) hvk (good_take hvk num1 (by decide)) ?_).weak (by omega)
    rintro ⟨n, s1⟩ hv1 hl1
    refine .tell (Good.weak (d := 1) ?_ (by omega))
    exact Good.last (a := [.tok "CODE"]) hv1 (good_take hv1 num2 (by decide)) fun x => ⟨_, rfl, rfl⟩
  rw [decide_eq_false c3, if_neg (by simp)]
  by_cases c4 : nextK s.toks = signs "fn"
  · rw [decide_eq_true c4, if_pos rfl]
    refine .form (b := [.tok "fn", .tell "_", .tok "NAME", .form "Names", .tok "(", .form "Fields", .tok ")", .form "Result", .tell "_", .form "Block"]) (by rw [c4]; decide +kernel) ?_
    refine (Good.tok (d := 0) c4 (by decide) (skip_toks s) (.tell ?_)).weak (by omega)
    refine (Good.bind (a := [.tok "NAME"]) (b := [.form "Names", .tok "(", .form "Fields", .tok ")", .form "Result", .tell "_", .form "Block"]) (d := 1) (d2 := 0) hvk (good_take hvk num1 (by decide)) ?_).weak (by omega)
    rintro ⟨n, s1⟩ hv1 hl1
    have hv1' : VS s1.toks := hv1
    have hl1' : s1.toks.length + 1 ≤ s.skip.toks.length := hl1
    have hlk1 := skip_len s1
    show Good fin [.form "Names", .tok "(", .form "Fields", .tok ")", .form "Result", .tell "_", .form "Block"] s1 _ _ 0
    refine (Good.bind (a := [.form "Names"]) (b := [.tok "(", .form "Fields", .tok ")", .form "Result", .tell "_", .form "Block"]) (d := 0) (d2 := 0) hv1' (out := fun x => x.2) ?_ ?_).weak (by omega)
    · rw [sign_of hv1' (w := "[") (by decide +kernel)]
      by_cases d1 : nextK s1.toks = signs "["
      · rw [decide_eq_true d1, if_pos rfl]
        refine .form (b := [.tok "[", .tok "NAME", .form "Morenames", .tok "]"]) (by rw [d1]; decide +kernel) ?_
        exact (Good.tok (d := 2) d1 (by decide) (skip_toks s1) (names_good fin f _ (skip_vs hv1') (by omega))).weak (by omega)
      · rw [decide_eq_false d1, if_neg (by simp)]
        exact .form (b := []) (row2 d1) (.pure rfl)
    · rintro ⟨names, s2⟩ hv2 hl2
      have hv2' : VS s2.toks := hv2
      have hl2' : s2.toks.length + 0 ≤ s1.toks.length := hl2
      show Good fin [.tok "(", .form "Fields", .tok ")", .form "Result", .tell "_", .form "Block"] s2 _ _ 0
      refine (Good.bind (a := [.tok "("]) (b := [.form "Fields", .tok ")", .form "Result", .tell "_", .form "Block"]) (d := 1) (d2 := 0) hv2' (good_eatS hv2' (by decide +kernel) (by decide)) ?_).weak (by omega)
      intro s3 hv3 hl3
      have hv3' : VS s3.toks := hv3
      have hl3' : s3.toks.length + 1 ≤ s2.toks.length := hl3
      show Good fin [.form "Fields", .tok ")", .form "Result", .tell "_", .form "Block"] s3 _ _ 0
      refine (Good.bind (a := [.form "Fields", .tok ")"]) (b := [.form "Result", .tell "_", .form "Block"]) (d := 1) (d2 := 0) hv3' (fields_all ")" (.inl rfl) s3 hv3' (by omega)) ?_).weak (by omega)
      rintro ⟨l, m, s4⟩ hv4 hl4
      have hv4' : VS s4.toks := hv4
      have hl4' : s4.toks.length + 1 ≤ s3.toks.length := hl4
      have hlk4 := skip_len s4
      show Good fin [.form "Result", .tell "_", .form "Block"] s4 _ _ 0
      refine (Good.bind (a := [.form "Result"]) (b := [.tell "_", .form "Block"]) (d := 0) (d2 := 0) hv4' (out := fun x => x.2.2) ?_ ?_).weak (by omega)
      · rw [sign_of hv4' (w := "->") (by decide +kernel)]
        by_cases d1 : nextK s4.toks = signs "->"
        · have hlen4 := next_ne d1 (by decide)
          rw [decide_eq_true d1, if_pos rfl]
          refine .form (b := [.tell "_", .tok "->", .tell "_", .form "Sort"]) (by rw [d1]; decide +kernel) (.tell ?_)
          refine (Good.tok (d := 1) d1 (by decide) (skip_toks s4) (.tell ?_)).weak (by omega)
          rcases (sort_good fin f).1 s4.skip (skip_vs hv4') (by omega) with ⟨y, n2, e, h⟩ | ⟨us, e, h⟩
          · rw [e]
            exact .inl ⟨_, n2, rfl, h⟩
          · rw [e]
            exact .inr ⟨us, rfl, h⟩
        · rw [decide_eq_false d1, if_neg (by simp)]
          exact .form (b := []) (row2 d1) (.pure rfl)
      · rintro ⟨t, k, s5⟩ hv5 hl5
        have hl5' : s5.toks.length + 0 ≤ s4.toks.length := hl5
        refine .tell (Good.weak (d := 1) ?_ (by omega))
        exact Good.last hv5 ((stmt_good fin f).block s5 hv5 (by omega)) fun x => ⟨_, rfl, rfl⟩
  rw [decide_eq_false c4, if_neg (by simp)]
  refine .noform (no_row (heads := ["let", "record", "account", "fn"]) (by decide +kernel) fun w hw => ?_)
  simp only [List.mem_cons, List.not_mem_nil, or_false] at hw
  rcases hw with h | h | h | h <;> subst h <;> assumption
end La
set_option maxHeartbeats 4000000
/-! Uses, declarations one behind another; no library. -/
namespace La
open EwTree
variable {fin : Fault}
theorem uses_good : ∀ f, ∀ s : St, VS s.toks → 24 * s.toks.length + 1 ≤ f → Good fin [.form "Uses"] s (fun x => x.2) (usesIn fin f s) 0
  | 0, s, _, h => by omega
  | f + 1, s, hv, hf => by
    have hlk := skip_len s
    unfold usesIn
    rw [key_of hv (w := "use") (by decide +kernel)]
    by_cases c : nextK s.toks = signs "use"
    · have hlen := next_ne c (by decide)
      rw [decide_eq_true c, if_pos rfl]
      refine .form (b := [.tell "|", .tok "use", .tell "_", .tok "NAME", .form "Uses"]) (by rw [c]; decide +kernel) (.tell ?_)
      refine (Good.tok (d := 0) c (by decide) (skip_toks s) (.tell ?_)).weak (by omega)
      refine (Good.bind (a := [.tok "NAME"]) (b := [.form "Uses"]) (d := 1) (d2 := 0) (skip_vs hv) (good_take (skip_vs hv) num1 (by decide)) ?_).weak (by omega)
      rintro ⟨n, s1⟩ hv1 hl1
      have hl1' : s1.toks.length + 1 ≤ s.skip.toks.length := hl1
      exact Good.last hv1 (uses_good f s1 hv1 (by omega)) fun x => ⟨_, rfl, rfl⟩
    · rw [decide_eq_false c, if_neg (by simp)]
      exact .form (b := []) (row2 c) (.pure rfl)
theorem no_end {t : Tok} (h : VT t) : kindT t ≠ signs "END" := by
  unfold kindT
  rcases h with ⟨h0, hb⟩ | h1 | h2 | h3 | h4 | ⟨h5, hb⟩
  · simp only [h0]
    intro e
    have hm : codes t.bytes ∈ keyL := mem_keyL.mpr hb
    rw [e] at hm
    exact absurd hm (by decide +kernel)
  · simp only [h1]; decide
  · simp only [h2]; decide
  · simp only [h3]; decide
  · simp only [h4]; decide
  · simp only [h5]
    have a : (SIGNS.all fun s => decide ((sgM.lookup (codes s)).getD [] ≠ signs "END")) = true := by decide +kernel
    exact of_decide_eq_true (List.all_eq_true.mp a _ hb)
theorem decls_good (f : Nat) : ∀ g, ∀ s : St, VS s.toks → 24 * s.toks.length + 24 ≤ f → s.toks.length < g → Good fin [.form "Decls"] s (fun x => x.2.2) (declsIn fin f g s) 0
  | 0, s, _, _, h => by omega
  | g + 1, s, hv, hf, hg => by
    unfold declsIn
    cases e : s.toks with
    | nil =>
      have hk : nextK s.toks = signs "END" := by rw [e]; rfl
      exact .form (b := []) (by rw [hk]; decide +kernel) (.pure rfl)
    | cons t r =>
      have hk : nextK s.toks ≠ signs "END" := by
        rw [e]
        exact no_end (hv t (by rw [e]; simp))
      refine .form (b := [.act "@decl", .tell "|", .form "Decl", .form "Decls"]) (row1 hk) (.act (.tell ?_))
      refine (Good.bind (a := [.form "Decl"]) (b := [.form "Decls"]) (d := 1) (d2 := 0) hv (decl_good s hv hf) ?_).weak (by omega)
      rintro ⟨d, m, s1⟩ hv1 hl1
      have hl1' : s1.toks.length + 1 ≤ s.toks.length := hl1
      exact Good.last hv1 (decls_good f g s1 hv1 (by omega) (by omega)) fun x => ⟨_, rfl, rfl⟩
end La
set_option maxHeartbeats 4000000
/-! A text read whole: the machine over its tokens, and the specification's word; no library. -/
namespace La
open EwTree
theorem vt_of {bs : Bytes} {p : Part} (h : Valid bs p) : VT (toTok bs p) ∧ kindT (toTok bs p) = p.kind := by
  rcases h with h | ⟨w, hw, hk, hc⟩ | ⟨s, hs, hS, hc⟩
  · simp only [List.map_cons, List.map_nil, List.mem_cons, List.not_mem_nil, or_false] at h
    have g : ∀ {n : Nat}, kindOfPart p.kind = n → (toTok bs p).kind = n := fun e => e
    unfold VT kindT
    rcases h with h | h | h | h
    · rw [g (n := 1) (by rw [h]; decide +kernel), h]; simp
    · rw [g (n := 2) (by rw [h]; decide +kernel), h]; simp
    · rw [g (n := 3) (by rw [h]; decide +kernel), h]; simp
    · rw [g (n := 4) (by rw [h]; decide +kernel), h]; simp
  · obtain ⟨k1, k2⟩ := kind_key hw
    have e : kindOfPart p.kind = 0 := by rw [hk]; exact k1
    have eb : (toTok bs p).bytes = w := by
      show tokBytes bs p = w
      unfold tokBytes
      rw [hk, if_neg k2, hc]
    have ek : (toTok bs p).kind = 0 := e
    refine ⟨.inl ⟨ek, by rw [eb]; exact hw⟩, ?_⟩
    unfold kindT
    rw [ek, eb, hk]
    rfl
  · obtain ⟨k1, k2, _⟩ := sign_kind hs
    have eb : (toTok bs p).bytes = s := by
      show tokBytes bs p = s
      unfold tokBytes
      rw [if_neg k2, hc]
    have ek : (toTok bs p).kind = 5 := k1
    refine ⟨.inr (.inr (.inr (.inr (.inr ⟨ek, by rw [eb]; exact hS⟩)))), ?_⟩
    unfold kindT
    rw [ek, eb]
    show (sgM.lookup (codes s)).getD [] = p.kind
    rw [hs]
    rfl
theorem toks_valid (bs : Bytes) : VS (tokens bs).1 := by
  rw [tokens_is]
  intro t ht
  obtain ⟨p, hp, rfl⟩ := List.mem_map.mp ht
  obtain ⟨h1, h2⟩ := List.mem_filter.mp hp
  exact (vt_of (scan_valid _ _ p h1 (by simpa using h2))).1
theorem kinds_is (bs : Bytes) : kindsOf bs = (tokens bs).1.map kindT := by
  rw [tokens_is]
  unfold kindsOf toks
  rw [List.map_map]
  refine List.map_congr_left fun p hp => ?_
  obtain ⟨h1, h2⟩ := List.mem_filter.mp hp
  exact ((vt_of (scan_valid _ _ p h1 (by simpa using h2))).2).symm
theorem decls_end (fin : Fault) (f : Nat) : ∀ g s {d : List Decl} {m : List Mark} {s' : St}, declsIn fin f g s = .ok (d, m, s') → s'.toks = []
  | 0, s, d, m, s', h => by cases h
  | g + 1, s, d, m, s', h => by
    unfold declsIn at h
    cases e : s.toks with
    | nil =>
      rw [e] at h
      cases h
      exact e
    | cons t r =>
      rw [e] at h
      simp only at h
      cases q : declIn fin f s with
      | error x =>
        rw [q] at h
        cases h
      | ok x =>
        obtain ⟨x1, x2, x3⟩ := x
        rw [q] at h
        replace h : (declsIn fin f g x3 >>= fun y => (Except.ok (x1 :: y.1, x2 ++ y.2.1, y.2.2) : Except Fault (List Decl × List Mark × St))) = .ok (d, m, s') := h
        cases q2 : declsIn fin f g x3 with
        | error y =>
          rw [q2] at h
          cases h
        | ok y =>
          obtain ⟨y1, y2, y3⟩ := y
          rw [q2] at h
          cases h
          exact decls_end fin f g x3 q2
/-- how the reader ends over a text's tokens: through (then nothing is left), or at some of them -/
theorem prog_good (bs : Bytes) : ∃ R, Runs [.form "Program"] (tokens bs).1 R ∧ (match R with
    | .inl us => us = [] ∧ (match (tokens bs).2 with | some e => EwTree.read bs = .error e | none => ∃ x, EwTree.read bs = .ok x)
    | .inr us => EwTree.read bs = .error (bad ((tokens bs).2.getD (3, bs.length)) ⟨0, us⟩)) := by
  have hv0 := toks_valid bs
  generalize hfin : (tokens bs).2.getD (3, bs.length) = fin
  generalize hf : 24 * ((tokens bs).1.length + 2) = f
  have key : EwTree.read bs = (do
      let s ← eat fin ((⟨0, (tokens bs).1⟩ : St).key "module") ⟨0, (tokens bs).1⟩
      let (n, s) ← take fin 1 s
      let (u, s) ← usesIn fin f s
      let (d, m, s) ← declsIn fin f f s
      match (tokens bs).2 with
      | some e => .error e
      | none => return (⟨n, u, d⟩, marked 144 (⟨0, (tokens bs).1⟩ : St).here s m)) := by
    unfold EwTree.read
    simp only [hfin, hf]
    rfl
  generalize hs0 : (⟨0, (tokens bs).1⟩ : St) = s0 at key
  have ht0 : s0.toks = (tokens bs).1 := by rw [← hs0]
  have hv0' : VS s0.toks := by rw [ht0]; exact hv0
  have hl0 : 24 * (s0.toks.length + 2) = f := by rw [ht0]; exact hf
  rw [← ht0]
  have fm : ∀ {R}, Runs [.tell "|", .tok "module", .tell "_", .tok "NAME", .form "Uses", .form "Decls"] s0.toks R → Runs [.form "Program"] s0.toks R := fun h => .form (by simp only [forms, List.lookup]; rfl) h
  have e1 := good_eatK (fin := fin) (w := "module") hv0' (by decide +kernel) (by decide)
  rcases Or.symm (e1) with ⟨us, q1, r1⟩ | ⟨s1, n1, q1, _, h1n, h1, r1⟩
  · refine ⟨.inr us, fm (.tell (Runs.stop [.tell "_", .tok "NAME", .form "Uses", .form "Decls"] r1)), ?_⟩
    show EwTree.read bs = _
    rw [key, q1]
    rfl
  have hv1 : VS s1.toks := by
    have : (id s1).toks = s1.toks := rfl
    rw [← this, h1]; exact hv0'.drop n1
  have hl1 : s1.toks.length ≤ s0.toks.length := by
    have : s1.toks = s0.toks.drop n1 := h1
    rw [this, List.length_drop]; omega
  have h1' : s1.toks = s0.toks.drop n1 := h1
  rw [← h1'] at r1
  rcases Or.symm (good_take (fin := fin) (n := 1) (x := "NAME") hv1 num1 (by decide)) with ⟨us, q2, r2⟩ | ⟨⟨n, s2⟩, n2, q2, _, h2n, h2, r2⟩
  · refine ⟨.inr us, fm (.tell ((r1.app (b := [.tell "_", .tok "NAME", .form "Uses", .form "Decls"]) (.tell (Runs.stop [.form "Uses", .form "Decls"] r2))))), ?_⟩
    show EwTree.read bs = _
    rw [key, q1]
    show (take fin 1 s1 >>= _) = _
    rw [q2]
    rfl
  have h2' : s2.toks = s1.toks.drop n2 := h2
  have hv2 : VS s2.toks := by rw [h2']; exact hv1.drop n2
  have hl2 : s2.toks.length ≤ s0.toks.length := by rw [h2', List.length_drop]; omega
  rw [← h2'] at r2
  rcases Or.symm (uses_good (fin := fin) f s2 hv2 (by omega)) with ⟨us, q3, r3⟩ | ⟨⟨u, s3⟩, n3, q3, _, h3n, h3, r3⟩
  · refine ⟨.inr us, fm (.tell ((r1.app (b := [.tell "_", .tok "NAME", .form "Uses", .form "Decls"]) (.tell (r2.app (b := [.form "Uses", .form "Decls"]) (Runs.stop [.form "Decls"] r3)))))), ?_⟩
    show EwTree.read bs = _
    rw [key, q1]
    show (take fin 1 s1 >>= _) = _
    rw [q2]
    show (usesIn fin f s2 >>= _) = _
    rw [q3]
    rfl
  have h3' : s3.toks = s2.toks.drop n3 := h3
  have hv3 : VS s3.toks := by rw [h3']; exact hv2.drop n3
  have hl3 : s3.toks.length ≤ s0.toks.length := by rw [h3', List.length_drop]; omega
  rw [← h3'] at r3
  have pre : ∀ {R}, Runs [.form "Decls"] s3.toks R → Runs [.form "Program"] s0.toks R := fun h =>
    fm (.tell ((r1.app (b := [.tell "_", .tok "NAME", .form "Uses", .form "Decls"]) (.tell (r2.app (b := [.form "Uses", .form "Decls"]) (r3.app (b := [.form "Decls"]) h))))))
  have kk : EwTree.read bs = (declsIn fin f f s3 >>= fun x => match (tokens bs).2 with
      | some e => .error e
      | none => .ok (⟨n, u, x.1⟩, marked 144 s0.here x.2.2 x.2.1)) := by
    rw [key, q1]
    show (take fin 1 s1 >>= _) = _
    rw [q2]
    show (usesIn fin f s2 >>= _) = _
    rw [q3]
    rfl
  rcases Or.symm (decls_good (fin := fin) f f s3 hv3 (by omega) (by omega)) with ⟨us, q4, r4⟩ | ⟨⟨d, m, s4⟩, n4, q4, _, h4n, h4, r4⟩
  · refine ⟨.inr us, pre r4, ?_⟩
    show EwTree.read bs = _
    rw [kk, q4]
    rfl
  refine ⟨.inl _, pre r4, ?_, ?_⟩
  · have h4a : s4.toks = s3.toks.drop n4 := h4
    have h4b := decls_end fin f f s3 q4
    rw [h4a] at h4b
    exact h4b
  · rw [kk, q4]
    cases (tokens bs).2 with
    | some e => rfl
    | none => exact ⟨_, rfl⟩
end La
set_option maxHeartbeats 200000
/-! The reader with all that it keeps: its steps; no library. -/
namespace La
open EwTree
structure Gr where
  begin : Nat
  inner : Nat
  end_ : Int
  last : Int
  deriving DecidableEq
structure Fr where
  begin : Nat
  group : Option Nat
  deriving DecidableEq
structure RS where
  told : List (List Nat)
  depths : List Int
  groups : List Gr
  decls : List Nat
  frames : List Fr
  telling : List Nat
  blocks : Int
  deriving DecidableEq
def RS.at_ (s : RS) : Nat := s.told.length
def RS.first : RS := ⟨[], [], [], [], [], signs "none", 0⟩
def toldOf (x : String) : List Nat := if x = "_" then signs "one" else signs "line"
/-- the next token's kind -/
def nk (ks : List (List Nat)) (s : RS) : List Nat := ks.getD s.at_ (signs "END")
def RS.taken (s : RS) : RS := { s with told := s.told ++ [s.telling], depths := s.depths ++ [s.blocks], telling := signs "none" }
def RS.push (s : RS) : RS := { s with frames := ⟨s.at_, none⟩ :: s.frames }
def RS.make (s : RS) (apart : Nat) : RS := match s.frames with
  | ⟨b, none⟩ :: r => { s with frames := ⟨b, some s.groups.length⟩ :: r, groups := s.groups ++ [⟨b, b + apart, -1, -1⟩] }
  | _ => s
def RS.pop (s : RS) (e l : Int) : RS := match s.frames with
  | ⟨_, none⟩ :: r => { s with frames := r }
  | ⟨_, some i⟩ :: r => { s with frames := r, groups := match s.groups[i]? with
    | some g => s.groups.set i { g with end_ := e, last := l }
    | none => s.groups }
  | [] => s
def outTell (ks : List (List Nat)) (cm : List Bool) (at_ : Nat) : List Nat := if ks[at_ - 1]? = some (signs "{") ∧ cm[at_]? = some false then signs "none" else signs "line"
def RS.act (ks : List (List Nat)) (cm : List Bool) (s : RS) (x : String) : RS :=
  if x = "@decl" then { s with decls := s.decls ++ [s.at_] }
  else if x = "@in" then { s with blocks := s.blocks + 1 }
  else if x = "@out" then { s with blocks := s.blocks - 1, telling := outTell ks cm s.at_ }
  else if x = "@start" then s.push
  else if x = "@may" then { s.make 1 with telling := signs "may-one" }
  else if x = "@end" then s.pop (s.at_ - 1) (s.at_ - 1)
  else if x = "@first" then { s.push.make 0 with telling := signs "may-none" }
  else if x = "@late" then (match (s.make 0).frames with
    | f :: _ => { s.make 0 with told := (s.make 0).told.set f.begin (signs "may-none") }
    | [] => s.make 0)
  else if x = "@last" then { s.pop s.at_ (s.at_ - 1) with telling := signs "may-none" }
  else s
inductive OutX where
  | go (st : List Item) (s : RS)
  | fail (s : RS)
  | done (s : RS)
def stepX (ks : List (List Nat)) (cm : List Bool) : List Item → RS → OutX
  | [], s => .done s
  | .form x :: st, s => (match rowOf (nk ks s) ((forms.lookup x).getD []) with
    | some b => .go (b ++ st) s
    | none => .fail s)
  | .tell x :: st, s => .go st { s with telling := toldOf x }
  | .act x :: st, s => .go st (s.act ks cm x)
  | .any :: st, s => .go st s.taken
  | .tok x :: st, s => if nk ks s = signs x then .go st s.taken else .fail s
def runX (ks : List (List Nat)) (cm : List Bool) : Nat → List Item → RS → Option (Bool × RS)
  | 0, _, _ => none
  | n + 1, st, s => match stepX ks cm st s with
    | .done s => some (true, s)
    | .fail s => some (false, s)
    | .go st s => runX ks cm n st s
/-! ### it's in step with the small machine -/
theorem make_told (s : RS) (a : Nat) : (s.make a).told = s.told := by
  unfold RS.make
  split <;> rfl
theorem pop_told (s : RS) (a b : Int) : (s.pop a b).told = s.told := by
  unfold RS.pop
  split <;> rfl
theorem act_at (ks : List (List Nat)) (cm : List Bool) (s : RS) (x : String) : (s.act ks cm x).at_ = s.at_ := by
  unfold RS.act RS.at_
  split; · rfl
  split; · rfl
  split; · rfl
  split; · rfl
  split; · exact congrArg List.length (make_told s 1)
  split; · exact congrArg List.length (pop_told s _ _)
  split; · exact congrArg List.length (make_told s.push 0)
  split
  · split
    · show List.length (List.set _ _ _) = _
      rw [List.length_set, make_told]
    · rw [make_told]
  split; · exact congrArg List.length (pop_told s _ _)
  rfl
theorem nk_is (T : List Tok) (s : RS) : nk (T.map kindT) s = nextK (T.drop s.at_) := by
  unfold nk nextK
  rw [List.getD_eq_getElem?_getD, List.getElem?_map]
  cases h : T[s.at_]? with
  | none =>
    rw [List.drop_eq_nil_of_le (List.getElem?_eq_none_iff.mp h)]
    rfl
  | some t =>
    obtain ⟨h1, h2⟩ := List.getElem?_eq_some_iff.mp h
    rw [List.drop_eq_getElem_cons h1, h2]
    rfl
theorem taken_at (s : RS) : s.taken.at_ = s.at_ + 1 := by
  unfold RS.at_ RS.taken
  rw [List.length_append]
  rfl
theorem stepX_form {ks : List (List Nat)} {cm : List Bool} {x : String} {st : List Item} {s : RS} : stepX ks cm (.form x :: st) s = (match rowOf (nk ks s) ((forms.lookup x).getD []) with
    | some b => .go (b ++ st) s
    | none => .fail s) := rfl
theorem stepX_tok {ks : List (List Nat)} {cm : List Bool} {x : String} {st : List Item} {s : RS} : stepX ks cm (.tok x :: st) s = if nk ks s = signs x then .go st s.taken else .fail s := rfl
theorem stepM_form {x : String} {st : List Item} {ts : List Tok} : stepM (.form x :: st) ts = (match rowOf (nextK ts) ((forms.lookup x).getD []) with
    | some b => .go (b ++ st) ts
    | none => .fail ts) := rfl
theorem stepM_tok {x : String} {st : List Item} {ts : List Tok} : stepM (.tok x :: st) ts = if nextK ts = signs x then .go st (ts.drop 1) else .fail ts := rfl
theorem step_go {T : List Tok} {cm : List Bool} {a b : List Item} {s : RS} {us : List Tok} (h : stepM a (T.drop s.at_) = .go b us) : ∃ s', stepX (T.map kindT) cm a s = .go b s' ∧ us = T.drop s'.at_ := by
  cases a with
  | nil => cases h
  | cons i st =>
    cases i with
    | form x =>
      rw [stepM_form] at h
      rw [stepX_form, nk_is]
      cases q : rowOf (nextK (T.drop s.at_)) ((forms.lookup x).getD []) with
      | none =>
        rw [q] at h
        cases h
      | some r =>
        rw [q] at h
        cases h
        exact ⟨s, rfl, rfl⟩
    | tell x =>
      cases h
      exact ⟨_, rfl, rfl⟩
    | act x =>
      cases h
      exact ⟨_, rfl, by rw [act_at]⟩
    | any =>
      cases h
      exact ⟨_, rfl, by rw [taken_at, List.drop_drop]⟩
    | tok x =>
      rw [stepM_tok] at h
      rw [stepX_tok, nk_is]
      by_cases c : nextK (T.drop s.at_) = signs x
      · rw [if_pos c] at h
        cases h
        rw [if_pos c]
        exact ⟨_, rfl, by rw [taken_at, List.drop_drop]⟩
      · rw [if_neg c] at h
        cases h
theorem step_fail {T : List Tok} {cm : List Bool} {a : List Item} {s : RS} {us : List Tok} (h : stepM a (T.drop s.at_) = .fail us) : stepX (T.map kindT) cm a s = .fail s ∧ us = T.drop s.at_ := by
  cases a with
  | nil => cases h
  | cons i st =>
    cases i with
    | form x =>
      rw [stepM_form] at h
      rw [stepX_form, nk_is]
      cases q : rowOf (nextK (T.drop s.at_)) ((forms.lookup x).getD []) with
      | none =>
        rw [q] at h
        cases h
        exact ⟨rfl, rfl⟩
      | some r =>
        rw [q] at h
        cases h
    | tok x =>
      rw [stepM_tok] at h
      rw [stepX_tok, nk_is]
      by_cases c : nextK (T.drop s.at_) = signs x
      · rw [if_pos c] at h
        cases h
      · rw [if_neg c] at h
        cases h
        rw [if_neg c]
        exact ⟨rfl, rfl⟩
    | _ => cases h
theorem fails_runX {T : List Tok} {cm : List Bool} {a : List Item} {ts us : List Tok} (h : Fails a ts us) : ∀ s : RS, ts = T.drop s.at_ → ∃ n s', runX (T.map kindT) cm n a s = some (false, s') ∧ us = T.drop s'.at_ := by
  induction h with
  | now q =>
    intro s e
    rw [e] at q
    obtain ⟨q1, q2⟩ := step_fail (cm := cm) q
    exact ⟨1, s, by unfold runX; rw [q1], q2⟩
  | step q _ ih =>
    intro s e
    rw [e] at q
    obtain ⟨s', q1, q2⟩ := step_go (cm := cm) q
    obtain ⟨n, s2, q3, q4⟩ := ih s' q2
    exact ⟨n + 1, s2, by unfold runX; rw [q1]; exact q3, q4⟩
theorem reach_runX {T : List Tok} {cm : List Bool} {a b : List Item} {ts us : List Tok} (h : Reach a ts b us) : ∀ s : RS, b = [] → ts = T.drop s.at_ → ∃ n s', runX (T.map kindT) cm n a s = some (true, s') ∧ us = T.drop s'.at_ := by
  induction h with
  | refl =>
    intro s e0 e
    subst e0
    exact ⟨1, s, rfl, e⟩
  | step q _ ih =>
    intro s e0 e
    rw [e] at q
    obtain ⟨s', q1, q2⟩ := step_go (cm := cm) q
    obtain ⟨n, s2, q3, q4⟩ := ih s' e0 q2
    exact ⟨n + 1, s2, by unfold runX; rw [q1]; exact q3, q4⟩
/-- **how the reader ends, with all that it keeps** -/
theorem run_ends (bs : Bytes) (cm : List Bool) : ∃ n ok s, runX ((tokens bs).1.map kindT) cm n [.form "Program"] .first = some (ok, s) ∧
    (if ok = true then (tokens bs).1.drop s.at_ = [] ∧ (match (tokens bs).2 with | some e => EwTree.read bs = .error e | none => ∃ x, EwTree.read bs = .ok x)
     else EwTree.read bs = .error (bad ((tokens bs).2.getD (3, bs.length)) ⟨0, (tokens bs).1.drop s.at_⟩)) := by
  obtain ⟨R, h, q⟩ := prog_good bs
  cases h with
  | ok h =>
    obtain ⟨n, s, e1, e2⟩ := reach_runX (T := (tokens bs).1) (cm := cm) (h []) .first rfl rfl
    refine ⟨n, true, s, e1, ?_⟩
    rw [if_pos rfl, ← e2]
    exact q
  | no h =>
    obtain ⟨n, s, e1, e2⟩ := fails_runX (T := (tokens bs).1) (cm := cm) (h []) .first rfl
    refine ⟨n, false, s, e1, ?_⟩
    rw [if_neg Bool.false_ne_true, ← e2]
    exact q
end La
set_option maxHeartbeats 4000000
/-! What the reader's steps may lean on: frames where they are asked, tokens where they are taken; no library. -/
namespace La
open EwTree
/-- frames asked, the innermost one's token taken, frames ended, a token surely taken -/
def needs : List (String × (Nat × Bool × Nat × Bool)) := [("Listrest", (1, true, 1, false)), ("Morefields", (1, false, 0, false)), ("Moreor", (1, false, 0, false)), ("Moreand", (1, false, 0, false)), ("Compared", (1, false, 0, false)),
  ("Moresum", (1, false, 0, false)), ("Moreproduct", (1, false, 0, false)), ("Moreexprs", (1, false, 0, false)), ("Morenamed", (1, false, 0, false)),
  ("Expr", (0, false, 0, true)), ("Either", (0, false, 0, true)), ("Both", (0, false, 0, true)), ("Negated", (0, false, 0, true)), ("Comparison", (0, false, 0, true)), ("Cast", (0, false, 0, true)), ("Sum", (0, false, 0, true)), ("Product", (0, false, 0, true)),
  ("Signed", (0, false, 0, true)), ("Value", (0, false, 0, true)), ("First", (0, false, 0, true)), ("Field", (0, false, 0, true)), ("Named", (0, false, 0, true))]
def needF (x : String) : Nat × Bool × Nat × Bool := (needs.lookup x).getD (0, false, 0, false)
structure Ab where
  n : Nat
  u : Bool
  v : Bool
  w : Bool
  deriving DecidableEq
def chk1 (i : Item) (a : Ab) : Option Ab := match i with
  | .form x => if (needF x).1 ≤ a.n ∧ ((needF x).2.1 = true → a.u = true) ∧ (forms.lookup x).isSome = true then some ⟨a.n - (needF x).2.2.1, a.u || (needF x).2.2.2, false, a.w || (needF x).2.2.2⟩ else none
  | .tok x => if signs x = signs "END" then none else some ⟨a.n, true, false, true⟩
  | .any => if a.v = true then some ⟨a.n, true, false, true⟩ else none
  | .tell x => if x = "_" ∨ x = "|" then some a else none
  | .act x =>
    if x = "@start" ∨ x = "@first" then some ⟨a.n + 1, false, a.v, a.w⟩
    else if x = "@may" then (if 1 ≤ a.n then some a else none)
    else if x = "@end" ∨ x = "@last" then (if 1 ≤ a.n then some ⟨a.n - 1, a.u, a.v, a.w⟩ else none)
    else if x = "@late" then (if 1 ≤ a.n ∧ a.u = true then some a else none)
    else if x = "@out" then (if a.w = true then some a else none)
    else if x = "@decl" ∨ x = "@in" then some a else none
def chk : List Item → Ab → Option Ab
  | [], a => some a
  | i :: l, a => (chk1 i a).bind (chk l)
theorem chk_app : ∀ (l m : List Item) (a : Ab), chk (l ++ m) a = (chk l a).bind (chk m)
  | [], m, a => rfl
  | i :: l, m, a => by
    show (chk1 i a).bind (chk (l ++ m)) = ((chk1 i a).bind (chk l)).bind (chk m)
    cases chk1 i a with
    | none => rfl
    | some b => exact chk_app l m b
/-- more is known -/
def Le (a b : Ab) : Prop := a.n = b.n ∧ (a.u = true → b.u = true) ∧ (a.v = true → b.v = true) ∧ (a.w = true → b.w = true)
theorem Le.refl (a : Ab) : Le a a := ⟨rfl, id, id, id⟩
theorem chk1_le {i : Item} {a b c : Ab} (h : Le a b) (q : chk1 i a = some c) : ∃ d, chk1 i b = some d ∧ Le c d := by
  obtain ⟨hn, hu, hv, hw⟩ := h
  cases i with
  | form x =>
    unfold chk1 at q ⊢
    simp only at q ⊢
    split at q
    · rename_i e
      cases q
      rw [if_pos ⟨by omega, fun z => hu (e.2.1 z), e.2.2⟩]
      refine ⟨_, rfl, by show _ - _ = _ - _; omega, fun z => ?_, fun z => z, fun z => ?_⟩
      · rcases Bool.or_eq_true_iff.mp z with z | z
        · exact Bool.or_eq_true_iff.mpr (.inl (hu z))
        · exact Bool.or_eq_true_iff.mpr (.inr z)
      · rcases Bool.or_eq_true_iff.mp z with z | z
        · exact Bool.or_eq_true_iff.mpr (.inl (hw z))
        · exact Bool.or_eq_true_iff.mpr (.inr z)
    · cases q
  | tok x =>
    unfold chk1 at q ⊢
    simp only at q ⊢
    split at q
    · cases q
    · rename_i e
      cases q
      rw [if_neg e]
      exact ⟨_, rfl, hn, fun _ => rfl, fun z => z, fun _ => rfl⟩
  | any =>
    unfold chk1 at q ⊢
    simp only at q ⊢
    split at q
    · rename_i e
      cases q
      rw [if_pos (hv e)]
      exact ⟨_, rfl, hn, fun _ => rfl, fun z => z, fun _ => rfl⟩
    · cases q
  | tell x =>
    unfold chk1 at q ⊢
    simp only at q ⊢
    split at q
    · rename_i e
      cases q
      rw [if_pos e]
      exact ⟨_, rfl, hn, hu, hv, hw⟩
    · cases q
  | act x =>
    unfold chk1 at q ⊢
    simp only at q ⊢
    split at q
    · rename_i e
      cases q
      rw [if_pos e]
      exact ⟨_, rfl, by show _ + 1 = _ + 1; omega, fun z => z, hv, hw⟩
    rename_i e1
    rw [if_neg e1]
    split at q
    · rename_i e2
      rw [if_pos e2]
      split at q
      · rename_i e
        cases q
        rw [if_pos (by omega)]
        exact ⟨_, rfl, hn, hu, hv, hw⟩
      · cases q
    rename_i e2
    rw [if_neg e2]
    split at q
    · rename_i e3
      rw [if_pos e3]
      split at q
      · rename_i e
        cases q
        rw [if_pos (by omega)]
        exact ⟨_, rfl, by show _ - 1 = _ - 1; omega, hu, hv, hw⟩
      · cases q
    rename_i e3
    rw [if_neg e3]
    split at q
    · rename_i e4
      rw [if_pos e4]
      split at q
      · rename_i e
        cases q
        rw [if_pos ⟨by omega, hu e.2⟩]
        exact ⟨_, rfl, hn, hu, hv, hw⟩
      · cases q
    rename_i e4
    rw [if_neg e4]
    split at q
    · rename_i e5
      rw [if_pos e5]
      split at q
      · rename_i e
        cases q
        rw [if_pos (hw e)]
        exact ⟨_, rfl, hn, hu, hv, hw⟩
      · cases q
    rename_i e5
    rw [if_neg e5]
    split at q
    · rename_i e6
      rw [if_pos e6]
      cases q
      exact ⟨_, rfl, hn, hu, hv, hw⟩
    · cases q
theorem chk_le : ∀ {l : List Item} {a b c : Ab}, Le a b → chk l a = some c → ∃ d, chk l b = some d ∧ Le c d
  | [], a, b, c, h, q => by
    cases q
    exact ⟨b, rfl, h⟩
  | i :: l, a, b, c, h, q => by
    replace q : (chk1 i a).bind (chk l) = some c := q
    cases e : chk1 i a with
    | none =>
      rw [e] at q
      cases q
    | some a2 =>
      rw [e] at q
      obtain ⟨b2, e2, h2⟩ := chk1_le h e
      obtain ⟨d, e3, h3⟩ := chk_le (l := l) h2 q
      refine ⟨d, ?_, h3⟩
      show (chk1 i b).bind (chk l) = some d
      rw [e2]
      exact e3
/-- more frames below -/
def Ab.up (a : Ab) (k : Nat) : Ab := { a with n := a.n + k }
theorem chk1_up {i : Item} {a c : Ab} {k : Nat} (hd : ∀ x, i = .form x → (needF x).2.2.1 ≤ (needF x).1) (q : chk1 i a = some c) : chk1 i (a.up k) = some (c.up k) := by
  cases i with
  | form x =>
    have h0 := hd x rfl
    unfold chk1 at q ⊢
    simp only at q ⊢
    split at q
    · rename_i e
      cases q
      rw [if_pos ⟨by show _ ≤ a.n + k; omega, e.2⟩]
      unfold Ab.up
      simp only [Option.some.injEq, Ab.mk.injEq, and_true]
      have := e.1
      omega
    · cases q
  | tok x =>
    unfold chk1 at q ⊢
    simp only at q ⊢
    split at q
    · cases q
    · rename_i e
      cases q
      rw [if_neg e]
      rfl
  | any =>
    unfold chk1 at q ⊢
    simp only at q ⊢
    split at q
    · rename_i e
      cases q
      rw [if_pos (show (a.up k).v = true from e)]
      rfl
    · cases q
  | tell x =>
    unfold chk1 at q ⊢
    simp only at q ⊢
    split at q
    · rename_i e
      cases q
      rw [if_pos e]
    · cases q
  | act x =>
    unfold chk1 at q ⊢
    simp only at q ⊢
    split at q
    · rename_i e
      cases q
      rw [if_pos e]
      unfold Ab.up
      simp only [Option.some.injEq, Ab.mk.injEq, and_true]
      omega
    rename_i e1
    rw [if_neg e1]
    split at q
    · rename_i e2
      rw [if_pos e2]
      split at q
      · rename_i e
        cases q
        rw [if_pos (show 1 ≤ (a.up k).n by show 1 ≤ a.n + k; omega)]
      · cases q
    rename_i e2
    rw [if_neg e2]
    split at q
    · rename_i e3
      rw [if_pos e3]
      split at q
      · rename_i e
        cases q
        rw [if_pos (show 1 ≤ (a.up k).n by show 1 ≤ a.n + k; omega)]
        unfold Ab.up
        simp only [Option.some.injEq, Ab.mk.injEq, and_true]
        omega
      · cases q
    rename_i e3
    rw [if_neg e3]
    split at q
    · rename_i e4
      rw [if_pos e4]
      split at q
      · rename_i e
        cases q
        rw [if_pos (show 1 ≤ (a.up k).n ∧ (a.up k).u = true from ⟨by show 1 ≤ a.n + k; omega, e.2⟩)]
      · cases q
    rename_i e4
    rw [if_neg e4]
    split at q
    · rename_i e5
      rw [if_pos e5]
      split at q
      · rename_i e
        cases q
        rw [if_pos (show (a.up k).w = true from e)]
      · cases q
    rename_i e5
    rw [if_neg e5]
    split at q
    · rename_i e6
      rw [if_pos e6]
      cases q
      rfl
    · cases q
theorem lookup_memG {β : Type} {x : String} {y : β} : ∀ {l : List (String × β)}, l.lookup x = some y → (x, y) ∈ l
  | [], h => by cases h
  | (a, b) :: r, h => by
    rw [List.lookup_cons] at h
    cases q : x == a with
    | true =>
      rw [q] at h
      cases h
      rw [beq_iff_eq.mp q]
      simp
    | false =>
      rw [q] at h
      exact List.mem_cons_of_mem _ (lookup_memG h)
theorem needs_le (x : String) : (needF x).2.2.1 ≤ (needF x).1 := by
  have a : (needs.all fun p => decide (p.2.2.2.1 ≤ p.2.1)) = true := by decide +kernel
  unfold needF
  cases h : needs.lookup x with
  | none => exact Nat.le_refl 0
  | some d => exact of_decide_eq_true (List.all_eq_true.mp a (x, d) (lookup_memG h))
theorem chk_up : ∀ {l : List Item} {a c : Ab} {k : Nat}, chk l a = some c → chk l (a.up k) = some (c.up k)
  | [], a, c, k, q => by
    cases q
    rfl
  | i :: l, a, c, k, q => by
    replace q : (chk1 i a).bind (chk l) = some c := q
    cases e : chk1 i a with
    | none =>
      rw [e] at q
      cases q
    | some a2 =>
      rw [e] at q
      show (chk1 i (a.up k)).bind (chk l) = some (c.up k)
      rw [chk1_up (fun x _ => needs_le x) e]
      exact chk_up (l := l) q
/-- a form's rows do what is said of it -/
def rowGood (x : String) (r : Row) (u v w : Bool) : Bool := !(!(needF x).2.1 || u) || (match chk r.2 ⟨(needF x).1, u, v || !r.1.isEmpty, w⟩ with
  | some c => decide (c.n = (needF x).1 - (needF x).2.2.1) && ((!(u || (needF x).2.2.2) || c.u) && (!(w || (needF x).2.2.2) || c.w))
  | none => false)
theorem table_good : (forms.all fun f => f.2.all fun r => [true, false].all fun u => [true, false].all fun v => [true, false].all fun w => rowGood f.1 r u v w && ((r.1 == ["END"] && r.2.isEmpty) || !(r.1.map signs).contains (signs "END"))) = true := by decide +kernel
theorem bool_mem (b : Bool) : b ∈ [true, false] := by cases b <;> simp
theorem row_mem {k : List Nat} {b : List Item} : ∀ {rows : List Row}, rowOf k rows = some b → ∃ r ∈ rows, r.2 = b ∧ (r.1 = [] ∨ k ∈ r.1.map signs)
  | [], h => by cases h
  | r :: rs, h => by
    unfold rowOf at h
    split at h
    · rename_i e
      exact ⟨r, by simp, Option.some.inj h, e⟩
    · obtain ⟨q, hq, h2⟩ := row_mem (rows := rs) h
      exact ⟨q, by simp [hq], h2⟩
theorem form_chk {x : String} {k : List Nat} {b : List Item} {a c : Ab} (hf : rowOf k ((forms.lookup x).getD []) = some b) (q : chk1 (.form x) a = some c) :
    ∃ v' d, (v' = true → a.v = true ∨ k ≠ signs "END") ∧ chk b ⟨a.n, a.u, v', a.w⟩ = some d ∧ Le c d := by
  unfold chk1 at q
  simp only at q
  split at q
  · rename_i e
    obtain ⟨e1, e2, e3⟩ := e
    cases q
    obtain ⟨rows, hr⟩ := Option.isSome_iff_exists.mp e3
    rw [hr] at hf
    obtain ⟨r, hm, rfl, hk⟩ := row_mem (show rowOf k rows = some b from hf)
    have t := List.all_eq_true.mp (List.all_eq_true.mp (List.all_eq_true.mp (List.all_eq_true.mp (List.all_eq_true.mp table_good (x, rows) (lookup_memG hr)) r hm) a.u (bool_mem _)) a.v (bool_mem _)) a.w (bool_mem _)
    obtain ⟨t1, t2⟩ := Bool.and_eq_true_iff.mp t
    unfold rowGood at t1
    have hu : (!(needF x).2.1 || a.u) = true := by
      cases z : (needF x).2.1 with
      | false => rfl
      | true => rw [e2 z]; rfl
    simp only [hu, Bool.not_true, Bool.false_or] at t1
    have hd := needs_le x
    cases z : chk r.2 ⟨(needF x).1, a.u, a.v || !r.1.isEmpty, a.w⟩ with
    | none =>
      rw [z] at t1
      cases t1
    | some c0 =>
      rw [z] at t1
      simp only [Bool.and_eq_true, decide_eq_true_eq] at t1
      obtain ⟨t3, t4, t5⟩ := t1
      have up := chk_up (k := a.n - (needF x).1) z
      have en : (needF x).1 + (a.n - (needF x).1) = a.n := by omega
      have up2 : chk r.2 ⟨a.n, a.u, a.v || !r.1.isEmpty, a.w⟩ = some (c0.up (a.n - (needF x).1)) := by
        rw [← up]
        unfold Ab.up
        simp only [en]
      have le : ∀ v, Le ⟨a.n - (needF x).2.2.1, a.u || (needF x).2.2.2, false, a.w || (needF x).2.2.2⟩ { c0.up (a.n - (needF x).1) with v := v } := fun v => by
        refine ⟨?_, fun h => ?_, (fun h => by cases h), fun h => ?_⟩
        · show _ = c0.n + _
          simp only
          omega
        · simp only at h
          rw [h] at t4
          show c0.u = true
          simpa using t4
        · simp only at h
          rw [h] at t5
          show c0.w = true
          simpa using t5
      rcases Bool.or_eq_true_iff.mp t2 with t6 | t6
      · obtain ⟨_, t7⟩ := Bool.and_eq_true_iff.mp t6
        have e0 : r.2 = [] := List.isEmpty_iff.mp t7
        rw [e0] at z ⊢
        cases z
        refine ⟨a.v, _, fun h => .inl h, rfl, ?_⟩
        have l := le a.v
        refine ⟨?_, l.2.1, (fun h => by cases h), l.2.2.2⟩
        have := l.1
        simp only [Ab.up] at this ⊢
        omega
      · refine ⟨_, _, fun h => ?_, up2, le _⟩
        rcases Bool.or_eq_true_iff.mp h with h | h
        · exact .inl h
        · refine .inr fun hE => ?_
          rcases hk with hk | hk
          · rw [hk] at h
            cases h
          · rw [hE] at hk
            rw [List.contains_iff_mem.mpr hk] at t6
            cases t6
  · cases q
/-- what the reader's steps lean on -/
structure Safe (ks : List (List Nat)) (cm : List Bool) (st : List Item) (s : RS) : Prop where
  ab : ∃ a : Ab, (chk st a).isSome = true ∧ a.n = s.frames.length ∧ (a.u = true → ∀ f ∈ s.frames.head?, f.begin < s.at_) ∧ (a.v = true → s.at_ < ks.length) ∧ (a.w = true → 1 ≤ s.at_)
  mono : s.frames.Pairwise fun a b => b.begin ≤ a.begin
  le : ∀ f ∈ s.frames, f.begin ≤ s.at_
  at_le : s.at_ ≤ ks.length
  grp : ∀ f ∈ s.frames, ∀ i, f.group = some i → i < s.groups.length
  dep : s.depths.length = s.told.length
  cml : cm.length = ks.length + 1
theorem nk_end {ks : List (List Nat)} {s : RS} (h : nk ks s ≠ signs "END") : s.at_ < ks.length := by
  unfold nk at h
  rw [List.getD_eq_getElem?_getD] at h
  rcases Nat.lt_or_ge s.at_ ks.length with q | q
  · exact q
  · rw [List.getElem?_eq_none q] at h
    exact absurd rfl h
theorem taken_frames (s : RS) : s.taken.frames = s.frames := rfl
theorem Safe.start {ks : List (List Nat)} {cm : List Bool} (hc : cm.length = ks.length + 1) : Safe ks cm [.form "Program"] .first :=
  { ab := ⟨⟨0, false, false, false⟩, by decide +kernel, rfl, (fun h => by cases h), (fun h => by cases h), (fun h => by cases h)⟩
    mono := .nil
    le := fun f h => absurd h (by simp [RS.first])
    at_le := Nat.zero_le _
    grp := fun f h => absurd h (by simp [RS.first])
    dep := rfl
    cml := hc }
/-! ### what each step may lean on -/
section
variable {ks : List (List Nat)} {cm : List Bool} {st : List Item} {s : RS}
theorem Safe.item {i : Item} (h : Safe ks cm (i :: st) s) : ∃ a c, chk1 i a = some c ∧ (chk st c).isSome = true ∧ a.n = s.frames.length ∧ (a.u = true → ∀ f ∈ s.frames.head?, f.begin < s.at_) ∧ (a.v = true → s.at_ < ks.length) ∧ (a.w = true → 1 ≤ s.at_) := by
  obtain ⟨a, h1, h2, h3, h4, h5⟩ := h.ab
  replace h1 : ((chk1 i a).bind (chk st)).isSome = true := h1
  cases e : chk1 i a with
  | none =>
    rw [e] at h1
    cases h1
  | some c =>
    rw [e] at h1
    exact ⟨a, c, e, h1, h2, h3, h4, h5⟩
theorem Safe.any_lt (h : Safe ks cm (.any :: st) s) : s.at_ < ks.length := by
  obtain ⟨a, c, e, _, _, _, h4, _⟩ := h.item
  unfold chk1 at e
  simp only at e
  split at e
  · rename_i z
    exact h4 z
  · cases e
theorem Safe.tok_ne {x : String} (h : Safe ks cm (.tok x :: st) s) : signs x ≠ signs "END" := by
  obtain ⟨a, c, e, _⟩ := h.item
  unfold chk1 at e
  simp only at e
  split at e
  · cases e
  · assumption
theorem Safe.form_some {x : String} (h : Safe ks cm (.form x :: st) s) : (forms.lookup x).isSome = true := by
  obtain ⟨a, c, e, _⟩ := h.item
  unfold chk1 at e
  simp only at e
  split at e
  · rename_i z
    exact z.2.2
  · cases e
theorem Safe.tell_in {x : String} (h : Safe ks cm (.tell x :: st) s) : x = "_" ∨ x = "|" := by
  obtain ⟨a, c, e, _⟩ := h.item
  unfold chk1 at e
  simp only at e
  split at e
  · assumption
  · cases e
def ACTS : List String := ["@decl", "@in", "@out", "@start", "@may", "@end", "@first", "@late", "@last"]
theorem Safe.act_in {x : String} (h : Safe ks cm (.act x :: st) s) : x ∈ ACTS := by
  obtain ⟨a, c, e, _⟩ := h.item
  unfold chk1 at e
  simp only at e
  unfold ACTS
  simp only [List.mem_cons, List.not_mem_nil, or_false]
  split at e
  · rename_i z; rcases z with z | z <;> simp [z]
  split at e
  · rename_i z; simp [z]
  split at e
  · rename_i z; rcases z with z | z <;> simp [z]
  split at e
  · rename_i z; simp [z]
  split at e
  · rename_i z; simp [z]
  split at e
  · rename_i z; rcases z with z | z <;> simp [z]
  cases e
theorem Safe.may_fr (h : Safe ks cm (.act "@may" :: st) s) : s.frames ≠ [] := by
  obtain ⟨a, c, e, _, h2, _⟩ := h.item
  have e' : (if 1 ≤ a.n then some a else none) = some c := e
  split at e'
  · intro z
    rw [z] at h2
    simp at h2
    omega
  · cases e'
theorem Safe.end_fr (h : Safe ks cm (.act "@end" :: st) s) : s.frames ≠ [] := by
  obtain ⟨a, c, e, _, h2, _⟩ := h.item
  have e' : (if 1 ≤ a.n then some (⟨a.n - 1, a.u, a.v, a.w⟩ : Ab) else none) = some c := e
  split at e'
  · intro z
    rw [z] at h2
    simp at h2
    omega
  · cases e'
theorem Safe.last_fr (h : Safe ks cm (.act "@last" :: st) s) : s.frames ≠ [] := by
  obtain ⟨a, c, e, _, h2, _⟩ := h.item
  have e' : (if 1 ≤ a.n then some (⟨a.n - 1, a.u, a.v, a.w⟩ : Ab) else none) = some c := e
  split at e'
  · intro z
    rw [z] at h2
    simp at h2
    omega
  · cases e'
theorem Safe.late_fr (h : Safe ks cm (.act "@late" :: st) s) : ∃ f r, s.frames = f :: r ∧ f.begin < s.at_ := by
  obtain ⟨a, c, e, _, h2, h3, _⟩ := h.item
  have e' : (if 1 ≤ a.n ∧ a.u = true then some a else none) = some c := e
  split at e'
  · rename_i z
    cases q : s.frames with
    | nil =>
      rw [q] at h2
      simp at h2
      omega
    | cons f r => exact ⟨f, r, rfl, h3 z.2 f (by rw [q]; rfl)⟩
  · cases e'
theorem Safe.out_at (h : Safe ks cm (.act "@out" :: st) s) : 1 ≤ s.at_ := by
  obtain ⟨a, c, e, _, _, _, _, h5⟩ := h.item
  have e' : (if a.w = true then some a else none) = some c := e
  split at e'
  · rename_i z
    exact h5 z
  · cases e'
/-! ### it stays so -/
theorem Safe.keep {i : Item} {s' : RS} {n' : Nat} (h : Safe ks cm (i :: st) s) (hn : ∀ a c, chk1 i a = some c → a.n = s.frames.length → (a.u = true → ∀ f ∈ s.frames.head?, f.begin < s.at_) → (a.v = true → s.at_ < ks.length) → (a.w = true → 1 ≤ s.at_) →
      c.n = s'.frames.length ∧ (c.u = true → ∀ f ∈ s'.frames.head?, f.begin < s'.at_) ∧ (c.v = true → s'.at_ < ks.length) ∧ (c.w = true → 1 ≤ s'.at_))
    (mono : s'.frames.Pairwise fun a b => b.begin ≤ a.begin) (le : ∀ f ∈ s'.frames, f.begin ≤ s'.at_) (at_le : s'.at_ ≤ ks.length) (grp : ∀ f ∈ s'.frames, ∀ i, f.group = some i → i < s'.groups.length) (dep : s'.depths.length = s'.told.length) : Safe ks cm st s' := by
  obtain ⟨a, c, e, h1, h2, h3, h4, h5⟩ := h.item
  obtain ⟨g1, g2, g3, g4⟩ := hn a c e h2 h3 h4 h5
  exact ⟨⟨c, h1, g1, g2, g3, g4⟩, mono, le, at_le, grp, dep, h.cml⟩
theorem Safe.taken (h : Safe ks cm (.any :: st) s ∨ ∃ x, Safe ks cm (.tok x :: st) s ∧ nk ks s = signs x) : Safe ks cm st s.taken := by
  have hat := taken_at s
  have lt : s.at_ < ks.length := by
    rcases h with h | ⟨x, h, hx⟩
    · exact h.any_lt
    · exact nk_end (by rw [hx]; exact h.tok_ne)
  have both : ∀ i, Safe ks cm (i :: st) s → (i = .any ∨ ∃ x, i = .tok x) → Safe ks cm st s.taken := fun i h hi => by
    refine h.keep (n' := 0) (fun a c e h2 h3 h4 h5 => ?_) h.mono (fun f hf => ?_) (by rw [hat]; omega) h.grp ?_
    · have ec : c = ⟨a.n, true, false, true⟩ := by
        rcases hi with rfl | ⟨x, rfl⟩
        · unfold chk1 at e
          simp only at e
          split at e
          · exact (Option.some.inj e).symm
          · cases e
        · unfold chk1 at e
          simp only at e
          split at e
          · cases e
          · exact (Option.some.inj e).symm
      subst ec
      refine ⟨h2, fun _ f hf => ?_, fun z => (by cases z), fun _ => by rw [hat]; omega⟩
      have := h.le f (List.mem_of_mem_head? hf)
      rw [hat]
      omega
    · have := h.le f hf
      rw [hat]
      omega
    · show (s.depths ++ [s.blocks]).length = (s.told ++ [s.telling]).length
      rw [List.length_append, List.length_append, h.dep]
      rfl
  rcases h with h | ⟨x, h, _⟩
  · exact both _ h (.inl rfl)
  · exact both _ h (.inr ⟨x, rfl⟩)
theorem Safe.tell {x : String} (h : Safe ks cm (.tell x :: st) s) {t : List Nat} : Safe ks cm st { s with telling := t } := by
  refine h.keep (n' := 0) (fun a c e h2 h3 h4 h5 => ?_) h.mono h.le h.at_le h.grp h.dep
  unfold chk1 at e
  simp only at e
  split at e
  · cases e
    exact ⟨h2, h3, h4, h5⟩
  · cases e
theorem Safe.form {x : String} {b : List Item} (h : Safe ks cm (.form x :: st) s) (hf : rowOf (nk ks s) ((forms.lookup x).getD []) = some b) : Safe ks cm (b ++ st) s := by
  obtain ⟨a, c, e, h1, h2, h3, h4, h5⟩ := h.item
  obtain ⟨v', d, g1, g2, g3⟩ := form_chk hf e
  refine ⟨⟨⟨a.n, a.u, v', a.w⟩, ?_, h2, h3, fun z => ?_, h5⟩, h.mono, h.le, h.at_le, h.grp, h.dep, h.cml⟩
  · rw [chk_app, g2]
    obtain ⟨r, hr⟩ := Option.isSome_iff_exists.mp h1
    obtain ⟨r2, hr2, _⟩ := chk_le g3 hr
    show (chk st d).isSome = true
    rw [hr2]
    rfl
  · rcases g1 z with q | q
    · exact h4 q
    · exact nk_end q
theorem make_none {b : Nat} {r : List Fr} (a : Nat) (hf : s.frames = ⟨b, none⟩ :: r) : s.make a = { s with frames := ⟨b, some s.groups.length⟩ :: r, groups := s.groups ++ [⟨b, b + a, -1, -1⟩] } := by
  unfold RS.make
  rw [hf]
theorem make_some {b i : Nat} {r : List Fr} (a : Nat) (hf : s.frames = ⟨b, some i⟩ :: r) : s.make a = s := by
  unfold RS.make
  rw [hf]
/-- after a make: the same begins, groups that stand -/
theorem make_fr (a : Nat) (hg : ∀ f ∈ s.frames, ∀ i, f.group = some i → i < s.groups.length) : (s.make a).frames.map (·.begin) = s.frames.map (·.begin) ∧ (∀ f ∈ (s.make a).frames, ∀ i, f.group = some i → i < (s.make a).groups.length) ∧ (s.make a).depths = s.depths := by
  cases hf : s.frames with
  | nil =>
    have e : s.make a = s := by unfold RS.make; rw [hf]
    rw [e, hf]
    exact ⟨rfl, fun f h => absurd h (by simp), rfl⟩
  | cons f r =>
    obtain ⟨b, g⟩ := f
    cases g with
    | some i =>
      rw [make_some a hf, hf]
      refine ⟨rfl, ?_, rfl⟩
      rw [← hf]
      exact hg
    | none =>
      rw [make_none a hf]
      refine ⟨rfl, fun f h i hi => ?_, rfl⟩
      show i < (s.groups ++ [_]).length
      rw [List.length_append]
      rcases List.mem_cons.mp h with e | m
      · subst e
        cases hi
        simp
      · have := hg f (by rw [hf]; exact List.mem_cons_of_mem _ m) i hi
        simp
        omega
theorem pop_fr (e l : Int) : (s.pop e l).frames = s.frames.drop 1 ∧ (s.pop e l).groups.length = s.groups.length ∧ (s.pop e l).depths = s.depths := by
  unfold RS.pop
  split
  · rename_i h
    rw [h]
    exact ⟨rfl, rfl, rfl⟩
  · rename_i h
    rw [h]
    refine ⟨rfl, ?_, rfl⟩
    simp only
    split
    · exact List.length_set
    · rfl
  · rename_i h
    rw [h]
    exact ⟨by simp [h], rfl, rfl⟩
theorem begins_head {l m : List Fr} (h : l.map (·.begin) = m.map (·.begin)) {n : Nat} (q : ∀ f ∈ m.head?, f.begin < n) : ∀ f ∈ l.head?, f.begin < n := by
  cases l with
  | nil => intro f h; cases h
  | cons a r => cases m with
    | nil => cases h
    | cons b t =>
      intro f hf
      cases hf
      have e : a.begin = b.begin := (List.cons.inj h).1
      rw [e]
      exact q b rfl
theorem begins_mono {l m : List Fr} (h : l.map (·.begin) = m.map (·.begin)) (q : m.Pairwise fun a b => b.begin ≤ a.begin) : l.Pairwise fun a b => b.begin ≤ a.begin := by
  have q1 : (m.map (·.begin)).Pairwise fun a b => b ≤ a := List.pairwise_map.mpr q
  rw [← h] at q1
  exact List.pairwise_map.mp q1
theorem begins_le {l m : List Fr} (h : l.map (·.begin) = m.map (·.begin)) {n : Nat} (q : ∀ f ∈ m, f.begin ≤ n) : ∀ f ∈ l, f.begin ≤ n := by
  intro f hf
  have m1 : f.begin ∈ l.map (·.begin) := List.mem_map.mpr ⟨f, hf, rfl⟩
  rw [h] at m1
  obtain ⟨g, hg, e⟩ := List.mem_map.mp m1
  rw [← e]
  exact q g hg
theorem begins_len {l m : List Fr} (h : l.map (·.begin) = m.map (·.begin)) : l.length = m.length := by
  have := congrArg List.length h
  rwa [List.length_map, List.length_map] at this
end
end La
set_option maxHeartbeats 4000000
/-! What the reader's acts may lean on stays so; no library. -/
namespace La
open EwTree
section
variable {ks : List (List Nat)} {cm : List Bool} {st : List Item} {s : RS}
theorem act_may : s.act ks cm "@may" = { s.make 1 with telling := signs "may-one" } := rfl
theorem act_out : s.act ks cm "@out" = { s with blocks := s.blocks - 1, telling := outTell ks cm s.at_ } := rfl
theorem act_start : s.act ks cm "@start" = s.push := rfl
theorem act_end : s.act ks cm "@end" = s.pop (s.at_ - 1) (s.at_ - 1) := rfl
theorem act_first : s.act ks cm "@first" = { s.push.make 0 with telling := signs "may-none" } := rfl
theorem act_last : s.act ks cm "@last" = { s.pop s.at_ (s.at_ - 1) with telling := signs "may-none" } := rfl
theorem act_late {f : Fr} {r : List Fr} (h : (s.make 0).frames = f :: r) : s.act ks cm "@late" = { s.make 0 with told := (s.make 0).told.set f.begin (signs "may-none") } := by
  show (match (s.make 0).frames with
    | f :: _ => { s.make 0 with told := (s.make 0).told.set f.begin (signs "may-none") }
    | [] => s.make 0) = _
  rw [h]
theorem pop_safe {x : String} (e l : Int) {s' : RS} (hs : s'.frames = s.frames.drop 1) (hg : s'.groups.length = s.groups.length) (hd : s'.depths = s.depths) (ht : s'.told = s.told) (hc : ∀ a c, chk1 (.act x) a = some c → 1 ≤ a.n ∧ c = ⟨a.n - 1, a.u, a.v, a.w⟩) (h : Safe ks cm (.act x :: st) s) : Safe ks cm st s' := by
  have hat : s'.at_ = s.at_ := congrArg List.length ht
  refine h.keep (n' := 0) (fun a c e h2 h3 h4 h5 => ?_) ?_ (fun f hf => ?_) (by rw [hat]; exact h.at_le) (fun f hf i hi => ?_) (by rw [hd, ht]; exact h.dep)
  · obtain ⟨h1, rfl⟩ := hc a c e
    refine ⟨by rw [hs, List.length_drop]; show a.n - 1 = _; omega, fun hu f hf => ?_, fun z => by rw [hat]; exact h4 z, fun z => by rw [hat]; exact h5 z⟩
    have hm := h.mono
    cases q : s.frames with
    | nil =>
      rw [hs, q] at hf
      cases hf
    | cons g r =>
      rw [hs, q] at hf
      have hfr : f ∈ r := List.mem_of_mem_head? hf
      rw [q] at hm
      have l1 := (List.pairwise_cons.mp hm).1 f hfr
      have l2 := h3 hu g (by rw [q]; rfl)
      rw [hat]
      omega
  · rw [hs]
    exact h.mono.sublist (List.drop_sublist _ _)
  · rw [hs] at hf
    rw [hat]
    exact h.le f (List.mem_of_mem_drop hf)
  · rw [hs] at hf
    rw [hg]
    exact h.grp f (List.mem_of_mem_drop hf) i hi
theorem make_safe {x : String} {a0 : Nat} {s' : RS} (hf : s'.frames = (s.make a0).frames) (hg : s'.groups = (s.make a0).groups) (hd : s'.depths = s.depths) (ht : s'.told.length = s.told.length) (hc : ∀ a c, chk1 (.act x) a = some c → c = a) (h : Safe ks cm (.act x :: st) s) : Safe ks cm st s' := by
  obtain ⟨m1, m2, _⟩ := make_fr a0 h.grp
  rw [← hf] at m1
  have hat : s'.at_ = s.at_ := ht
  refine h.keep (n' := 0) (fun a c e h2 h3 h4 h5 => ?_) (begins_mono m1 h.mono) (begins_le m1 (by rw [hat]; exact h.le)) (by rw [hat]; exact h.at_le) (by rw [hf, hg]; exact m2) (by rw [hd, ht]; exact h.dep)
  have := hc a c e
  subst this
  exact ⟨h2.trans (begins_len m1).symm, fun z => begins_head m1 (by rw [hat]; exact h3 z), fun z => by rw [hat]; exact h4 z, fun z => by rw [hat]; exact h5 z⟩
theorem push_safe {x : String} {a0 : Nat} {s' : RS} (hf : s'.frames = s.push.frames ∨ s'.frames = (s.push.make a0).frames ∧ s'.groups = (s.push.make a0).groups) (hg : s.groups.length ≤ s'.groups.length) (hd : s'.depths = s.depths) (ht : s'.told = s.told) (hc : ∀ a c, chk1 (.act x) a = some c → c = ⟨a.n + 1, false, a.v, a.w⟩) (h : Safe ks cm (.act x :: st) s) : Safe ks cm st s' := by
  have hat : s'.at_ = s.at_ := congrArg List.length ht
  have gp : ∀ f ∈ s.push.frames, ∀ i, f.group = some i → i < s.groups.length := by
    intro f hf i hi
    rcases List.mem_cons.mp hf with e | m
    · subst e
      cases hi
    · exact h.grp f m i hi
  have m1 : s'.frames.map (·.begin) = s.push.frames.map (·.begin) := by
    rcases hf with e | ⟨e, _⟩
    · rw [e]
    · rw [e]
      exact (make_fr (s := s.push) a0 gp).1
  have pm : s.push.frames.Pairwise fun a b => b.begin ≤ a.begin := List.pairwise_cons.mpr ⟨fun f hf => h.le f hf, h.mono⟩
  have pl : ∀ f ∈ s.push.frames, f.begin ≤ s.at_ := by
    intro f hf
    rcases List.mem_cons.mp hf with e | m
    · subst e
      exact Nat.le_refl _
    · exact h.le f m
  refine h.keep (n' := 0) (fun a c e h2 h3 h4 h5 => ?_) (begins_mono m1 pm) (begins_le m1 (by rw [hat]; exact pl)) (by rw [hat]; exact h.at_le) ?_ (by rw [hd, ht]; exact h.dep)
  · have := hc a c e
    subst this
    refine ⟨?_, (fun z => by cases z), fun z => by rw [hat]; exact h4 z, fun z => by rw [hat]; exact h5 z⟩
    rw [begins_len m1]
    show a.n + 1 = s.frames.length + 1
    omega
  · rcases hf with e | ⟨e, e2⟩
    · intro f hf i hi
      rw [e] at hf
      have := gp f hf i hi
      omega
    · rw [e, e2]
      exact (make_fr (s := s.push) a0 gp).2.1
theorem Safe.act {x : String} (h : Safe ks cm (.act x :: st) s) : Safe ks cm st (s.act ks cm x) := by
  have hx := h.act_in
  unfold ACTS at hx
  simp only [List.mem_cons, List.not_mem_nil, or_false] at hx
  have plain : ∀ {s' : RS}, s'.frames = s.frames → s'.groups = s.groups → s'.depths = s.depths → s'.told = s.told → (∀ a c, chk1 (.act x) a = some c → c = a) → Safe ks cm st s' := by
    intro s' e1 e2 e3 e4 hc
    have hat : s'.at_ = s.at_ := congrArg List.length e4
    refine h.keep (n' := 0) (fun a c e h2 h3 h4 h5 => ?_) (by rw [e1]; exact h.mono) (by rw [e1, hat]; exact h.le) (by rw [hat]; exact h.at_le) (by rw [e1, e2]; exact h.grp) (by rw [e3, e4]; exact h.dep)
    have := hc a c e
    subst this
    rw [e1, hat]
    exact ⟨h2, h3, h4, h5⟩
  rcases hx with rfl | rfl | rfl | rfl | rfl | rfl | rfl | rfl | rfl
  · exact plain rfl rfl rfl rfl fun a c e => (Option.some.inj (show some a = some c from e)).symm
  · exact plain rfl rfl rfl rfl fun a c e => (Option.some.inj (show some a = some c from e)).symm
  · refine plain rfl rfl rfl rfl fun a c e => ?_
    have e' : (if a.w = true then some a else none) = some c := e
    split at e'
    · exact (Option.some.inj e').symm
    · cases e'
  · exact push_safe (x := "@start") (a0 := 0) (.inl rfl) (Nat.le_refl _) rfl rfl (fun a c e => (Option.some.inj (show some (⟨a.n + 1, false, a.v, a.w⟩ : Ab) = some c from e)).symm) h
  · refine make_safe (a0 := 1) rfl rfl (make_fr 1 h.grp).2.2 (congrArg List.length (make_told s 1)) (fun a c e => ?_) h
    have e' : (if 1 ≤ a.n then some a else none) = some c := e
    split at e'
    · exact (Option.some.inj e').symm
    · cases e'
  · obtain ⟨p1, p2, p3⟩ := pop_fr (s := s) (s.at_ - 1) (s.at_ - 1)
    refine pop_safe 0 0 p1 p2 p3 (pop_told s _ _) (fun a c e => ?_) h
    have e' : (if 1 ≤ a.n then some (⟨a.n - 1, a.u, a.v, a.w⟩ : Ab) else none) = some c := e
    split at e'
    · exact ⟨by assumption, (Option.some.inj e').symm⟩
    · cases e'
  · have gp : ∀ f ∈ s.push.frames, ∀ i, f.group = some i → i < s.push.groups.length := by
      intro f hf i hi
      rcases List.mem_cons.mp hf with e | m
      · subst e
        cases hi
      · exact h.grp f m i hi
    refine push_safe (x := "@first") (a0 := 0) (s' := s.act ks cm "@first") (.inr ⟨rfl, rfl⟩) ?_ (make_fr (s := s.push) 0 gp).2.2 (make_told s.push 0) (fun a c e => (Option.some.inj (show some (⟨a.n + 1, false, a.v, a.w⟩ : Ab) = some c from e)).symm) h
    show s.groups.length ≤ (s.push.make 0).groups.length
    rw [make_none (s := s.push) (r := s.frames) 0 rfl]
    show _ ≤ (s.groups ++ [_]).length
    rw [List.length_append]
    omega
  · obtain ⟨f, r, hf, _⟩ := h.late_fr
    have ex : ∃ f' r', (s.make 0).frames = f' :: r' := by
      have m1 := (make_fr 0 h.grp).1
      cases q : (s.make 0).frames with
      | nil =>
        rw [q, hf] at m1
        cases m1
      | cons a t => exact ⟨a, t, rfl⟩
    obtain ⟨f', r', hf'⟩ := ex
    rw [act_late hf']
    refine make_safe (a0 := 0) rfl rfl (make_fr 0 h.grp).2.2 ?_ (fun a c e => ?_) h
    · show ((s.make 0).told.set _ _).length = _
      rw [List.length_set, make_told]
    · have e' : (if 1 ≤ a.n ∧ a.u = true then some a else none) = some c := e
      split at e'
      · exact (Option.some.inj e').symm
      · cases e'
  · obtain ⟨p1, p2, p3⟩ := pop_fr (s := s) s.at_ (s.at_ - 1)
    refine pop_safe (s' := s.act ks cm "@last") 0 0 p1 p2 p3 (pop_told s _ _) (fun a c e => ?_) h
    have e' : (if 1 ≤ a.n then some (⟨a.n - 1, a.u, a.v, a.w⟩ : Ab) else none) = some c := e
    split at e'
    · exact ⟨by assumption, (Option.some.inj e').symm⟩
    · cases e'
/-- **a step keeps what the steps lean on** -/
theorem Safe.go {st' : List Item} {s' : RS} (h : Safe ks cm st s) (q : stepX ks cm st s = .go st' s') : Safe ks cm st' s' := by
  cases st with
  | nil => cases q
  | cons i st =>
    cases i with
    | form x =>
      rw [stepX_form] at q
      cases e : rowOf (nk ks s) ((forms.lookup x).getD []) with
      | none =>
        rw [e] at q
        cases q
      | some b =>
        rw [e] at q
        cases q
        exact h.form e
    | tell x =>
      cases q
      exact h.tell
    | act x =>
      cases q
      exact h.act
    | any =>
      cases q
      exact .taken (.inl h)
    | tok x =>
      rw [stepX_tok] at q
      by_cases c : nk ks s = signs x
      · rw [if_pos c] at q
        cases q
        exact .taken (.inr ⟨x, h, c⟩)
      · rw [if_neg c] at q
        cases q
end
end La
set_option maxHeartbeats 4000000
/-! Objects of one's own, as a list of what stands where. -/
namespace La
open PySem PySem.Spec PyProof.Rows L2
def Pts (H : Hp) (l : List (Addr × HO)) : Prop := (l.map (·.1)).Nodup ∧ ∀ x ∈ l, H x.1 = some x.2
theorem Pts.at {H : Hp} {l : List (Addr × HO)} (h : Pts H l) (i : Nat) {p : Addr} {o : HO} (e : l[i]? = some (p, o)) : H p = some o := h.2 (p, o) (List.mem_of_getElem? e)
theorem nodup_at {α : Type} : ∀ {l : List α} {i j : Nat} {a : α}, l.Nodup → l[i]? = some a → l[j]? = some a → i = j
  | [], i, j, a, _, h, _ => by simp at h
  | x :: r, i, j, a, n, h1, h2 => by
    obtain ⟨n1, n2⟩ := List.nodup_cons.mp n
    cases i with
    | zero =>
      cases j with
      | zero => rfl
      | succ j =>
        rw [List.getElem?_cons_zero] at h1
        rw [List.getElem?_cons_succ] at h2
        cases h1
        exact absurd (List.mem_of_getElem? h2) n1
    | succ i =>
      cases j with
      | zero =>
        rw [List.getElem?_cons_zero] at h2
        rw [List.getElem?_cons_succ] at h1
        cases h2
        exact absurd (List.mem_of_getElem? h1) n1
      | succ j =>
        rw [List.getElem?_cons_succ] at h1 h2
        rw [nodup_at n2 h1 h2]
theorem Pts.set {H : Hp} {l : List (Addr × HO)} (h : Pts H l) (i : Nat) {p : Addr} {o o' : HO} (e : l[i]? = some (p, o)) : Pts (upd H p o') (l.set i (p, o')) := by
  have em : (l.set i (p, o')).map (·.1) = l.map (·.1) := by
    refine List.ext_getElem? fun j => ?_
    rw [List.getElem?_map, List.getElem?_map, List.getElem?_set]
    by_cases c : i = j
    · subst c
      have hl : i < l.length := (List.getElem?_eq_some_iff.mp e).1
      rw [if_pos rfl, if_pos hl, e]
      rfl
    · rw [if_neg c]
  refine ⟨by rw [em]; exact h.1, fun x hx => ?_⟩
  obtain ⟨j, hj⟩ := List.getElem?_of_mem hx
  rw [List.getElem?_set] at hj
  by_cases c : i = j
  · subst c
    rw [if_pos rfl] at hj
    split at hj
    · cases hj
      exact upd_same
    · cases hj
  · rw [if_neg c] at hj
    have hne : x.1 ≠ p := by
      intro e0
      have a1 : (l.map (·.1))[i]? = some p := by rw [List.getElem?_map, e]; rfl
      have a2 : (l.map (·.1))[j]? = some p := by rw [List.getElem?_map, hj, ← e0]; rfl
      exact c (nodup_at h.1 a1 a2)
    rw [upd_ne hne]
    exact h.2 x (List.mem_of_getElem? hj)
theorem Pts.perm {H : Hp} {l m : List (Addr × HO)} (h : Pts H l) (p : l.Perm m) : Pts H m := ⟨(p.map _).nodup_iff.mp h.1, fun x hx => h.2 x (p.mem_iff.mpr hx)⟩
theorem Pts.cons {H : Hp} {l : List (Addr × HO)} (h : Pts H l) {p : Addr} {o : HO} (hp : H p = some o) (hn : p ∉ l.map (·.1)) : Pts H ((p, o) :: l) :=
  ⟨List.nodup_cons.mpr ⟨hn, h.1⟩, fun x hx => by
    rcases List.mem_cons.mp hx with e | m
    · rw [e]
      exact hp
    · exact h.2 x m⟩
theorem Pts.tail {H : Hp} {l : List (Addr × HO)} {x : Addr × HO} (h : Pts H (x :: l)) : Pts H l := ⟨(List.nodup_cons.mp h.1).2, fun y hy => h.2 y (List.mem_cons_of_mem _ hy)⟩
theorem Pts.same {H H' : Hp} {l : List (Addr × HO)} (h : Pts H l) (s : Same H H') : Pts H' l := ⟨h.1, fun x hx => s _ _ (h.2 x hx)⟩
/-- kept, but what is one's own; one's own is what was or is new -/
structure Ext (H H' : Hp) (o o' : List Addr) : Prop where
  keep : ∀ b x, H b = some x → b ∉ o → H' b = some x
  new : ∀ b ∈ o', b ∈ o ∨ H b = none
theorem Ext.refl (H : Hp) (o : List Addr) : Ext H H o o := ⟨fun _ _ h _ => h, fun _ h => .inl h⟩
theorem Ext.trans {H H1 H2 : Hp} {o o1 o2 : List Addr} (a : Ext H H1 o o1) (b : Ext H1 H2 o1 o2) : Ext H H2 o o2 := by
  constructor
  · intro c x h1 h2
    refine b.keep c x (a.keep c x h1 h2) fun h3 => ?_
    rcases a.new c h3 with h4 | h4
    · exact h2 h4
    · rw [h1] at h4
      cases h4
  · intro c h
    rcases b.new c h with h1 | h1
    · exact a.new c h1
    · by_cases q : c ∈ o
      · exact .inl q
      · cases e : H c with
        | none => exact .inr rfl
        | some x =>
          rw [a.keep c x e q] at h1
          cases h1
theorem Ext.upd {H : Hp} {o : List Addr} {p : Addr} {x : HO} (hp : p ∈ o) : Ext H (upd H p x) o o :=
  ⟨fun b y h hb => by rw [upd_ne (fun e => hb (by rw [e]; exact hp))]; exact h, fun _ h => .inl h⟩
/-- a new object that isn't one's own (yet) -/
theorem Ext.same {H H' : Hp} {o : List Addr} (s : Same H H') : Ext H H' o o := ⟨fun b x h _ => s b x h, fun _ h => .inl h⟩
theorem sq_keep {K : PySem.W.Frag} {H H' : Hp} {a : Addr} {xs : List V} (h : SqL K H a xs) (k : ∀ o, H a = some o → H' a = some o) : SqL K H' a xs := by
  rcases h with (h | ⟨o, h⟩) | h
  · exact .inl (.inl (k _ h))
  · exact .inl (.inr ⟨o, k _ h⟩)
  · exact .inr h
theorem sqt_keep {K : PySem.W.Frag} {H H' : Hp} {a : Addr} {xs : List V} (h : SqT K H a xs) (k : ∀ o, H a = some o → H' a = some o) : SqT K H' a xs := by
  rcases h with (h | ⟨o, h⟩) | h
  · exact .inl (.inl (k _ h))
  · exact .inl (.inr ⟨o, k _ h⟩)
  · exact .inr h
end La
set_option maxHeartbeats 4000000
/-! list(reversed(x)), x a list: a new list. -/
namespace La
open PySem PySem.Spec PyProof.Rows L2
section
variable {prog : Program} {w : World} {A : Around} {E : Value → Shared → Prop} {s : Shared}
abbrev RevAt (items : Array Value) : Nat → Value → Prop := fun i v => items[items.size - 1 - i]? = some v
/-- what an extension by such an iterator leaves at S -/
abbrev Grown (s : Shared) (S it : Addr) (items : Array Value) (k : Shared → Prop) : Prop := ∀ h' tk acc' c', (∀ b o, b ≠ S → b ≠ it → s.heap.get? b = some o → h'.get? b = some o) →
  h'.get? S = some { cls := .type "list", dict := none, data := .seq acc' c', slots := #[] } → ItemsOf (RevAt items) acc' items.size → k { s with heap := h', toks := tk }
theorem grow_rev {R : Result → Shared → Prop} {it l S : Addr} {items : Array Value} {res : Value} {c₀ : Nat} (hh : A.handled = none) (hit : s.heap.IsRevIter it l ((items.size : Int) - 1)) (hl : s.heap.IsList l items) (hne : l ≠ it) (hSi : S ≠ it) (hSl : S ≠ l) (hn : items.size ≤ sizeLine)
    (hS : s.heap.get? S = some { cls := .type "list", data := .seq #[] c₀ }) (hR : Grown s S it items fun s' => R (.ok (.ret res)) s') :
    wpAny (model prog w) A.in1 (Builtin.List.listExtendWith (.ref S) (.ref it) res)
      (fun fin s' => match fin with | .done f => R (.ok f) s' | .again c' => c'.quiet = true ∧ codeAny (model prog w) A c' R s') (fun e s' => R (.error e) s') s := by
  have Wk := (Walks.listRev (prog := prog) (w := w) (A := A.in1) hh it l hne items).toS
  have hSf : S ∉ [it, l] := by simp only [List.mem_cons, List.not_mem_nil, or_false, not_or]; exact ⟨hSi, hSl⟩
  have hT : s.TypeIs (.ref it) "list_reverseiterator" := hit.typeIs
  have same0 : Builtin.List.listSameRef (.ref S) (.ref it) = false := by simp [Builtin.List.listSameRef, hSi]
  unfold Builtin.List.listExtendWith
  refine wpAny_bind (wpAny_typeOf hT ?_); rw [if_neg (by rw [same0]; decide)]
  refine wpAny_bind (wpAny_pyIter_revIter hit ?_); refine wpAny_bind (wpAny_holding ?_); unfold Builtin.List.listLengthHint
  refine wpAny_bind (wpAny_specialOf hT RT.nolen_lri ?_); show wpAny _ A.in1 (specialOf (Value.ref it) (Str.ofString "__length_hint__") >>= _) _ _ _
  refine wpAny_bind (wpAny_specialOf hT RT.hint_lri ?_); generalize hid : ("list_reverseiterator.__length_hint__" : String) = id0
  wp_delta
  rw [show splitId id0 = some ("list_reverseiterator", "__length_hint__") from by subst hid; decide +kernel]; subst hid
  refine wpAny_bind (wpAny_isInstance (b := true) hT (by rw [isSubtype_type]; kernel_rfl) ?_); refine wpAny_pure ?_
  rw [if_neg (by decide)]
  have e0 : ((items.size : Nat) : Int) - 1 - ((0 : Nat) : Int) = (items.size : Int) - 1 := by omega
  refine wpAny_pure ⟨plainId_quiet PySem.F.plain_extend_loop _, codeAny_extend_loopS Wk hn _ hSf _ items.size 0 _ _ _ rfl (Nat.zero_le _) ⟨Nat.zero_le _, by rw [e0]; exact hit, hl⟩ hS (ItemsOf.nil _) fun s' acc' c' hm hS' hacc => ?_⟩
  rw [Moved.eq_with hm]
  refine hR s'.heap s'.toks acc' c' (fun b o hb hbi e => hm.heap b o (fun hmem => ?_) e) hS' hacc
  rcases List.mem_cons.mp hmem with e' | hmem
  · exact hb e'
  · exact hbi (List.mem_singleton.mp hmem)
theorem init_rev {R : Result → Shared → Prop} {it l S : Addr} {items : Array Value} (hh : A.handled = none) (hit : s.heap.IsRevIter it l ((items.size : Int) - 1)) (hl : s.heap.IsList l items) (hne : l ≠ it) (hSi : S ≠ it) (hSl : S ≠ l) (hn : items.size ≤ sizeLine)
    (hS : s.heap.get? S = some { cls := .type "list", data := .seq #[] }) (hR : Grown s S it items fun s' => R (.ok (.ret .none)) s') :
    wpAny (model prog w) A.in1 (Builtin.«list.__init__» ⟨[.ref S, .ref it], []⟩)
      (fun fin s' => match fin with | .done f => R (.ok f) s' | .again c' => c'.quiet = true ∧ codeAny (model prog w) A c' R s') (fun e s' => R (.error e) s') s := by
  show wpAny _ A.in1 (do let old ← Builtin.List.listItems (.ref S); Builtin.List.listUpdate (.ref S) (fun _ => #[]); letGo old.toList.reverse; Builtin.List.listExtendWith (.ref S) (.ref it) .none) _ _ s
  refine wpAny_bind ?_; unfold Builtin.List.listItems
  refine wpAny_bind (wpAny_seqItems hS rfl (wpAny_pure ?_))
  show wpAny _ A.in1 (updateSeq S (fun _ => #[]) >>= fun _ => letGo (#[] : Array Value).toList.reverse >>= fun _ => Builtin.List.listExtendWith (.ref S) (.ref it) .none) _ _ s
  refine wpAny_bind (wpAny_updateSeq hS rfl ?_)
  have hS₂ := Heap.get?_update_self (Obj.mapSeq (fun _ => (#[] : Array Value))) hS rfl
  have oth : ∀ b o, b ≠ S → s.heap.get? b = some o → (s.heap.update S (Obj.mapSeq (fun _ => (#[] : Array Value)))).get? b = some o := fun b o hb e => (Heap.get?_update_other _ _ (Ne.symm hb)).trans e
  refine wpAny_bind (wpAny_letGo ?_)
  obtain ⟨ol, hol, rl⟩ := id hl
  exact grow_rev hh (hit.at fun o e => oth it o (Ne.symm hSi) e) ⟨ol, oth l ol (Ne.symm hSl) hol, rl⟩ hne hSi hSl hn hS₂ fun h' tk acc' c' hk hS' hacc => hR h' tk acc' c' (fun b o hb hbi e => hk b o hb hbi (oth b o hb e)) hS' hacc
theorem call_list_revit {it l : Addr} {items : Array Value} {Q : Value → Shared → Prop} (hh : A.handled = none) (hit : s.heap.IsRevIter it l ((items.size : Int) - 1)) (hl : s.heap.IsList l items) (hne : l ≠ it) (hn : items.size ≤ sizeLine)
    (hQ : ∀ h' tk acc' c', (∀ b o, b ≠ it → s.heap.get? b = some o → h'.get? b = some o) → h'.get? s.heap.objs.size = some { cls := .type "list", dict := none, data := .seq acc' c', slots := #[] } → ItemsOf (RevAt items) acc' items.size → Q (.ref s.heap.objs.size) { s with heap := h', toks := tk }) :
    wpAny (model prog w) A (call (.type "list") [.ref it]) Q E s := by
  obtain ⟨oi, hoi, _⟩ := id hit
  obtain ⟨ol, hol, rl⟩ := id hl
  refine callType_codes (Q₁ := fun obj s₁ => obj = .ref s.heap.objs.size ∧ s₁ = { s with heap := s.heap.push { cls := .type "list", data := .seq #[] } }) PySem.F.called_list (PySem.F.typeCall_list_1 _) PySem.F.entry_list_init
    (code_list_new _ ⟨rfl, rfl⟩) fun obj s₁ h₁ => ?_
  obtain ⟨rfl, rfl⟩ := h₁
  have hS : (s.heap.push { cls := .type "list", data := .seq #[] }).get? s.heap.objs.size = some { cls := .type "list", data := .seq #[] } := Heap.get?_push_size _ rfl
  refine ⟨⟨_, hS, rfl⟩, PySem.F.args_list_init_2 _ _, init_rev (A := A.in1) (s := { s with heap := s.heap.push { cls := .type "list", data := .seq #[] } }) hh (hit.at fun o e => Heap.get?_push_of_some _ e) (hl.push _) hne (Nat.ne_of_gt (Heap.lt_size hoi)) (Nat.ne_of_gt (Heap.lt_size hol)) hn hS fun h' tk acc' c' hk hS' hacc => ?_⟩
  exact ⟨rfl, hQ h' tk acc' c' (fun b o hb e => hk b o (Nat.ne_of_lt (Heap.lt_size e)) hb (Heap.get?_push_of_some _ e)) hS' hacc⟩
end
def tListRev (K : PySem.W.Frag) (te : TE) : TE := fun σ H Q => te σ H fun v H1 => ∃ (a : Addr) (xs : List V), v = .ref a ∧ SqL K H1 a xs ∧ ∀ q, H1 q = none → Q (.ref q) (upd H1 q (.lst xs.reverse))
theorem pe_listRev {X : Cx} {e : Expr} {te : TE} {p p2 pos pos2 : Pos} (hc : X.calm = true) (hg : Gl X "list") (hm : X.mg "list" = none) (hg2 : Gl X "reversed") (hm2 : X.mg "reversed" = none) (he : PE X e te)
    (hs : starEach [e] X.env = (false, eval e X.env) :: starEach [] X.env := by rfl)
    (hs2 : starEach [.Call (.Name "reversed" p2) [e] [] pos2] X.env = (false, eval (.Call (.Name "reversed" p2) [e] [] pos2) X.env) :: starEach [] X.env := by rfl) :
    PE X (.Call (.Name "list" p) [.Call (.Name "reversed" p2) [e] [] pos2] [] pos) (tListRev X.K te) := by
  refine ⟨fun pins s σ H Q I h => ?_⟩
  refine Call_ (ld_blt I hg hm boot_list (PyProof.Rows.callWith_type1 (args_cons (Call_ (ld_blt I hg2 hm2 PyProof.Rows.boot_reversed (PyProof.Rows.callWith_type1 (args_cons (thn (he.run pins s σ H _ I h) fun u s1 ⟨v, H1, I1, r1, q1⟩ => args_nil ?_) hs) hs rfl))) hs2) hs2 rfl))
  obtain ⟨a, xs, ev, hq, q⟩ := q1
  subst ev
  obtain rfl : u = Value.ref a := r1
  obtain ⟨its, rv, p', hz⟩ := I1.list hq
  refine call_reversed_list p'.isList (args_nil ?_)
  have k0 : ∀ b o, s1.heap.get? b = some o → (s1.heap.push (revObj a ((its.toArray.size : Int) - 1))).get? b = some o := fun b o e => Heap.get?_push_of_some _ e
  have I2 : Inv X pins σ H1 { s1 with heap := s1.heap.push (revObj a ((its.toArray.size : Int) - 1)) } := I1.kept (t' := s1.toks) k0
  obtain ⟨f0, f1, f2, f3, f4, f5⟩ := I1.fpOk (H' := H1) (b := s1.heap.objs.size) (Nat.le_refl _) (I1.hok.fresh (Nat.le_refl _))
  have hl := p'.isList
  obtain ⟨ol, hol, _⟩ := id hl
  have hne : a ≠ s1.heap.objs.size := Nat.ne_of_lt (Heap.lt_size hol)
  have hn : its.toArray.size ≤ sizeLine := by rw [List.size_toArray, ← rv.length]; exact hz
  refine call_list_revit (s := { s1 with heap := s1.heap.push (revObj a ((its.toArray.size : Int) - 1)) }) (I1.ok.hd hc) ⟨_, Heap.get?_push_size _ rfl, rfl, rfl⟩ (hl.push _) hne hn fun h' tk acc c' hk hS hi => ?_
  have ha : H1 (s1.heap.objs.size + 1) = none := I1.hok.fresh (Nat.le_succ _)
  have hsz : (s1.heap.push (revObj a ((its.toArray.size : Int) - 1))).objs.size = s1.heap.objs.size + 1 := Array.size_push ..
  rw [hsz] at hS
  have nit : ∀ b u, H1 b = some u → b ≠ s1.heap.objs.size := fun b u e z => by rw [z, I1.hok.fresh (Nat.le_refl _)] at e; cases e
  have na : ∀ b u, H1 b = some u → b ≠ s1.heap.objs.size + 1 := fun b u e z => by rw [z, ha] at e; cases e
  have I3 : Inv X pins σ (upd H1 (s1.heap.objs.size + 1) (.lst xs.reverse)) { s1 with heap := h', toks := tk } := by
    refine Inv.step (s := { s1 with heap := s1.heap.push (revObj a ((its.toArray.size : Int) - 1)) }) I2 (h' := h') (t' := tk) (g' := s1.gens) (d' := s1.drawn) (ch := [s1.heap.objs.size]) (fun b hb => ?_) (fun b o _ _ hc e _ => hk b o (fun z => hc (by simp [z])) e) (fun b o _ _ hc e _ => ⟨o.slots, hk b o (fun z => hc (by simp [z])) e⟩) (fun b o _ e n => ?_)
      (fun b o hc e => ⟨o, hk b o (fun z => hc (by simp [z])) e⟩) (fun b _ e => by rw [upd_ne (na b _ e)]; exact e) (fun b _ _ e => by rw [upd_ne (na b _ e)]; exact e) (fun b ps e => ⟨#[], by rw [upd_ne (na b _ e), e]; simp⟩) (fun m hm => ?_) (fun b u e => ?_) I2.bare
    · obtain rfl : b = s1.heap.objs.size := by simpa using hb
      exact ⟨f3, f1, f4, f5⟩
    · rw [upd_ne (Nat.ne_of_lt (by rw [← hsz]; exact Heap.lt_size e))]
      exact n
    · obtain ⟨o, es, ep, ho, r⟩ := hm
      exact ⟨o, es, ep, hk _ o (Ne.symm f1) ho, r⟩
    · by_cases hb : b = s1.heap.objs.size + 1
      · subst hb
        rw [upd_same] at e
        cases e
        refine ⟨by rw [List.length_reverse]; exact hz, acc.toList, c', RT.vals_rev rv hi, ?_⟩
        rw [Array.toArray_toList]
        exact hS
      · rw [upd_ne hb] at e
        refine (I2.hok b u e).stay (fun c v hc q => hk c v ?_ q) (fun c q => by rw [upd_ne (na c _ q)]; exact q) fun c xs q => by rw [upd_ne (na c _ q)]; exact q
        rcases hc with z | z
        · rw [z]; exact nit b u e
        · exact nit c _ z
  rw [hsz]
  exact ⟨.ref (s1.heap.objs.size + 1), upd H1 (s1.heap.objs.size + 1) (.lst xs.reverse), I3, rfl, q _ ha⟩
end La
set_option maxHeartbeats 4000000
/-! The reader's stack: how long it may grow, what may lie on it; no library. -/
namespace La
open EwTree
def vOf : Item → Nat
  | .form x => if x = "Listrest" then 7 else 1
  | .act _ => 3
  | _ => 1
def aTab : List (String × Nat) := [("Decl", 5), ("Let", 5), ("Field", 7), ("Sort", 1), ("Statement", 2), ("Oneflag", 2), ("Expr", 10), ("Either", 10), ("Both", 17), ("Negated", 24), ("Comparison", 24), ("Cast", 31), ("Sum", 32), ("Product", 39), ("Signed", 46), ("Value", 47), ("First", 48), ("Named", 7)]
def aOf : Item → Nat
  | .form x => (aTab.lookup x).getD 0
  | .tok _ => 400
  | .any => 400
  | _ => 0
def headI : List Item → Option Item
  | [] => none
  | .tell _ :: r => headI r
  | .act _ :: r => headI r
  | i :: _ => some i
def headA (l : List Item) : Nat := match headI l with
  | some i => aOf i
  | none => 0
def sumV (l : List Item) : Nat := (l.map vOf).sum
theorem sumV_cons (i : Item) (l : List Item) : sumV (i :: l) = vOf i + sumV l := rfl
theorem sumV_app (l m : List Item) : sumV (l ++ m) = sumV l + sumV m := by
  unfold sumV
  rw [List.map_append, List.sum_append_nat]
theorem vOf_pos (i : Item) : 1 ≤ vOf i := by
  cases i with
  | form x =>
    unfold vOf
    simp only
    split <;> omega
  | act x => exact Nat.le_add_left 1 2
  | _ => exact Nat.le_refl 1
theorem len_sumV : ∀ l : List Item, l.length ≤ sumV l
  | [] => Nat.le_refl 0
  | i :: l => by
    have := len_sumV l
    have := vOf_pos i
    rw [sumV_cons, List.length_cons]
    omega
theorem headI_app : ∀ (l m : List Item), headI (l ++ m) = match headI l with
    | some i => some i
    | none => headI m
  | [], m => rfl
  | i :: l, m => by
    cases i with
    | tell x => exact headI_app l m
    | act x => exact headI_app l m
    | _ => rfl
theorem lookup_le {n : Nat} {x : String} : ∀ {l : List (String × Nat)}, (l.all fun p => decide (p.2 ≤ n)) = true → (l.lookup x).getD 0 ≤ n
  | [], _ => Nat.zero_le n
  | (a, b) :: r, h => by
    rw [List.all_cons, Bool.and_eq_true] at h
    rw [List.lookup_cons]
    cases x == a with
    | true => exact of_decide_eq_true h.1
    | false => exact lookup_le h.2
theorem aOf_le (i : Item) : aOf i ≤ 400 := by
  cases i with
  | form x => exact Nat.le_trans (lookup_le (n := 48) (by decide +kernel)) (by omega)
  | tok x => exact Nat.le_refl _
  | any => exact Nat.le_refl _
  | _ => exact Nat.zero_le _
theorem headA_le (l : List Item) : headA l ≤ 400 := by
  unfold headA
  split
  · exact aOf_le _
  · exact Nat.zero_le _
def rowB2 (x : String) (r : List Item) : Bool := match headI r with
  | some i => decide (sumV r + aOf (.form x) ≤ vOf (.form x) + aOf i)
  | none => decide (sumV r + aOf (.form x) ≤ vOf (.form x))
theorem table_grows : (forms.all fun f => f.2.all fun r => rowB2 f.1 r.2) = true := by decide +kernel
/-- how many things stand in the reader -/
def RS.count (s : RS) : Nat := s.groups.length + s.frames.length + s.decls.length
/-- the stack is no longer than this allows, nor are there more groups, frames, declarations -/
def Bnd (st : List Item) (s : RS) : Prop := s.count + sumV st ≤ 1 + 400 * s.at_ + headA st
theorem Bnd.start : Bnd [.form "Program"] .first := by
  show 0 + 1 ≤ _
  omega
theorem Bnd.len {st : List Item} {s : RS} (h : Bnd st s) : s.count + st.length ≤ 401 + 400 * s.at_ := by
  have h1 := len_sumV st
  have h2 := headA_le st
  unfold Bnd at h
  omega
theorem make_count (s : RS) (a : Nat) : (s.make a).count ≤ s.count + 1 := by
  unfold RS.make RS.count
  split
  · rename_i h
    rw [h]
    simp only [List.length_append, List.length_cons, List.length_nil]
    omega
  · omega
theorem pop_count (s : RS) (a b : Int) : (s.pop a b).count ≤ s.count := by
  unfold RS.pop RS.count
  split
  · rename_i h
    rw [h]
    simp only [List.length_cons]
    omega
  · rename_i h
    rw [h]
    simp only [List.length_cons]
    split
    · rw [List.length_set]
      omega
    · omega
  · omega
theorem push_count (s : RS) : s.push.count = s.count + 1 := by
  unfold RS.push RS.count
  simp only [List.length_cons]
  omega
theorem act_count (ks : List (List Nat)) (cm : List Bool) (s : RS) (x : String) : (s.act ks cm x).count ≤ s.count + 3 := by
  unfold RS.act
  split
  · unfold RS.count
    simp only [List.length_append, List.length_cons, List.length_nil]
    omega
  split; · show s.count ≤ _; omega
  split; · show s.count ≤ _; omega
  split
  · rw [push_count]
    omega
  split
  · have := make_count s 1
    show (s.make 1).count ≤ _
    omega
  split
  · have := pop_count s (s.at_ - 1) (s.at_ - 1)
    omega
  split
  · have := make_count s.push 0
    have := push_count s
    show (s.push.make 0).count ≤ _
    omega
  split
  · have := make_count s 0
    split
    · show (s.make 0).count ≤ _
      omega
    · omega
  split
  · have := pop_count s s.at_ (s.at_ - 1)
    show (s.pop s.at_ (s.at_ - 1)).count ≤ _
    omega
  omega
/-- the items that the table has -/
def items : List Item := .form "Program" :: forms.flatMap fun f => f.2.flatMap fun r => r.2
theorem row_items {x : String} {rows : List Row} {r : Row} (h : (x, rows) ∈ forms) (hr : r ∈ rows) : ∀ i ∈ r.2, i ∈ items := by
  intro i hi
  refine List.mem_cons_of_mem _ (List.mem_flatMap.mpr ⟨_, h, List.mem_flatMap.mpr ⟨r, hr, hi⟩⟩)
def Known (st : List Item) : Prop := ∀ i ∈ st, i ∈ items
structure Fits (st : List Item) (s : RS) : Prop where
  bnd : Bnd st s
  known : Known st
theorem Fits.start : Fits [.form "Program"] .first := ⟨Bnd.start, fun i h => by rw [List.mem_singleton.mp h]; exact List.mem_cons_self⟩
theorem Fits.go {ks : List (List Nat)} {cm : List Bool} {st st' : List Item} {s s' : RS} (h : Fits st s) (q : stepX ks cm st s = .go st' s') : Fits st' s' := by
  obtain ⟨hb, hk⟩ := h
  cases st with
  | nil => cases q
  | cons i st =>
    have hk2 : Known st := fun j hj => hk j (List.mem_cons_of_mem _ hj)
    unfold Bnd at hb
    rw [sumV_cons] at hb
    cases i with
    | form x =>
      rw [stepX_form] at q
      cases e : rowOf (nk ks s) ((forms.lookup x).getD []) with
      | none =>
        rw [e] at q
        cases q
      | some b =>
        rw [e] at q
        cases q
        cases hr : forms.lookup x with
        | none =>
          rw [hr] at e
          cases e
        | some rows =>
          rw [hr] at e
          obtain ⟨r, hm, rfl, _⟩ := row_mem (show rowOf (nk ks s) rows = some b from e)
          have t : rowB2 x r.2 = true := List.all_eq_true.mp (List.all_eq_true.mp table_grows (x, rows) (lookup_memG hr)) r hm
          refine ⟨?_, fun j hj => ?_⟩
          · unfold Bnd
            rw [sumV_app]
            have ha : headA (.form x :: st) = aOf (.form x) := rfl
            rw [ha] at hb
            unfold rowB2 at t
            unfold headA
            rw [headI_app]
            cases hi : headI r.2 with
            | some i =>
              rw [hi] at t
              have t2 := of_decide_eq_true t
              show _ ≤ _ + aOf i
              omega
            | none =>
              rw [hi] at t
              have t2 := of_decide_eq_true t
              show _ ≤ _ + headA st
              omega
          · rcases List.mem_append.mp hj with m | m
            · exact row_items (lookup_memG hr) hm j m
            · exact hk2 j m
    | tell x =>
      have ha : headA (.tell x :: st) = headA st := rfl
      cases q
      refine ⟨?_, hk2⟩
      rw [ha] at hb
      show s.count + _ ≤ 1 + 400 * s.at_ + _
      have : vOf (.tell x) = 1 := rfl
      omega
    | act x =>
      have ha : headA (.act x :: st) = headA st := rfl
      cases q
      refine ⟨?_, hk2⟩
      unfold Bnd
      rw [ha] at hb
      rw [act_at]
      have := act_count ks cm s x
      have : vOf (.act x) = 3 := rfl
      omega
    | any =>
      have ha : headA (.any :: st) = 400 := rfl
      cases q
      refine ⟨?_, hk2⟩
      unfold Bnd
      rw [ha] at hb
      rw [taken_at]
      show s.count + _ ≤ _
      have : vOf .any = 1 := rfl
      omega
    | tok x =>
      rw [stepX_tok] at q
      by_cases c : nk ks s = signs x
      · rw [if_pos c] at q
        have ha : headA (.tok x :: st) = 400 := rfl
        cases q
        refine ⟨?_, hk2⟩
        unfold Bnd
        rw [ha] at hb
        rw [taken_at]
        show s.count + _ ≤ _
        have : vOf (.tok x) = 1 := rfl
        omega
      · rw [if_neg c] at q
        cases q
/-- an item, as the program has it -/
def itemS : Item → List Nat
  | .form x => signs x
  | .tok x => signs x
  | .any => signs "!"
  | .tell x => signs x
  | .act x => signs x
end La
set_option maxHeartbeats 4000000
/-! The reader's object: what stands where. -/
namespace La
open PySem PySem.Spec PyProof.Rows L2
def SI (i : Item) : Str := strL (itemS i)
/-! ### the written tables are the table -/
def rowOk (q : RowT × Row) : Bool := decide (q.1.1 = q.2.1.map fun h => strL (signs h)) && decide (Txt.words q.1.2 = q.2.2.map SI) && decide (q.1.2.length + 2 ≤ 1000)
def formOk (p : (Str × List RowT) × (String × List Row)) : Bool := decide (p.1.1 = strL (signs p.2.1)) && decide (p.1.2.length = p.2.2.length) && (p.1.2.zip p.2.2).all rowOk
theorem forms_same : (decide (formsT.length = forms.length) && (formsT.zip forms).all formOk) = true := by decide +kernel
def plainOk (i : Item) : Bool := match i with
  | .form _ => true
  | i => decide (SI i ∈ noForm)
theorem plain_all : (items.all plainOk) = true := by decide +kernel
def tellOk (i : Item) : Bool := match i with
  | .form _ => true
  | .tell x => decide ((SI i, strL (toldOf x)) ∈ toldT)
  | i => decide (SI i ∈ noTold)
theorem tell_all : (items.all tellOk) = true := by decide +kernel
def atOk (i : Item) : Bool := match i with
  | .form _ => true
  | .tell _ => true
  | .act _ => Txt.startswith (SI i) "@"
  | .tok _ => !(Txt.startswith (SI i) "@") && decide (SI i ≠ "!")
  | .any => !(Txt.startswith (SI i) "@")
theorem at_all : (items.all atOk) = true := by decide +kernel
theorem zip_get {α β : Type} : ∀ {l : List α} {m : List β} {b : β}, l.length = m.length → b ∈ m → ∃ a, (a, b) ∈ l.zip m
  | [], [], b, _, h => by cases h
  | a :: l, c :: m, b, e, h => by
    rcases List.mem_cons.mp h with rfl | h
    · exact ⟨a, List.mem_cons_self⟩
    · obtain ⟨a2, h2⟩ := zip_get (l := l) (m := m) (by simpa using e) h
      exact ⟨a2, List.mem_cons_of_mem _ h2⟩
theorem form_row {x : String} {rows : List Row} (h : forms.lookup x = some rows) : ∃ rt : List RowT, (SI (.form x), rt) ∈ formsT ∧ rt.length = rows.length ∧ ∀ q ∈ rt.zip rows, rowOk q = true := by
  obtain ⟨h1, h2⟩ := He.ba forms_same
  obtain ⟨a, ha⟩ := zip_get (of_decide_eq_true h1) (lookup_memG h)
  have h3 := List.all_eq_true.mp h2 _ ha
  obtain ⟨h4, h5⟩ := He.ba (show (decide (a.1 = strL (signs x)) && decide (a.2.length = rows.length) && (a.2.zip rows).all rowOk) = true from h3)
  obtain ⟨h6, h7⟩ := He.ba h4
  refine ⟨a.2, ?_, of_decide_eq_true h7, List.all_eq_true.mp h5⟩
  have e : a = (SI (.form x), a.2) := Prod.ext (of_decide_eq_true h6) rfl
  rw [← e]
  exact (List.of_mem_zip ha).1
/-! ### the reader's objects -/
structure RX where
  r : Addr
  dx : Addr
  aK : Addr
  aC : Addr
  aT : Addr
  aD : Addr
  aG : Addr
  aE : Addr
  aA : Addr
  aF : Addr
  gs : List (Addr × Addr)
  fr : List (Addr × Addr)
def RX.fs (x : RX) (s : RS) : List (Str × V) := [("kinds", .ref x.aK), ("commented", .ref x.aC), ("told", .ref x.aT), ("depths", .ref x.aD), ("groups", .ref x.aG), ("declarations", .ref x.aE), ("awaited", .ref x.aA), ("frames", .ref x.aF), ("telling", .str (strL s.telling)), ("blocks", .int s.blocks)]
def grF (g : Gr) : List (Str × V) := [("begin", .int (g.begin : Int)), ("inner", .int (g.inner : Int)), ("end", .int g.end_), ("last", .int g.last)]
def gref (gs : List (Addr × Addr)) (f : Fr) : V := match f.group with
  | none => .non
  | some i => (match gs[i]? with
    | some p => .ref p.1
    | none => .non)
def frF (gs : List (Addr × Addr)) (f : Fr) : List (Str × V) := [("begin", .int (f.begin : Int)), ("group", gref gs f)]
def grO (K : PySem.W.Frag) (p : Addr × Addr) (g : Gr) : Addr × HO := (p.1, .ins (He.ga K "Group") p.2 (grF g))
def frO (K : PySem.W.Frag) (gs : List (Addr × Addr)) (p : Addr × Addr) (f : Fr) : Addr × HO := (p.1, .ins (He.ga K "Frame") p.2 (frF gs f))
def BL (l : List Bool) : List V := l.map V.bl
def IL (l : List Int) : List V := l.map V.int
def NLs (l : List Nat) : List V := l.map fun (n : Nat) => V.int (n : Int)
def AR (l : List (Addr × Addr)) : List V := l.map fun p => V.ref p.1
def IS (st : List Item) : List V := st.reverse.map fun i => V.str (SI i)
def RX.base (x : RX) (K : PySem.W.Frag) (ks : List (List Nat)) (cm : List Bool) (st : List Item) (s : RS) : List (Addr × HO) :=
  [(x.r, .ins (He.ga K "Reader") x.dx (x.fs s)), (x.aK, .lst (KS ks)), (x.aC, .lst (BL cm)), (x.aT, .lst (KS s.told)), (x.aD, .lst (IL s.depths)), (x.aG, .lst (AR x.gs)), (x.aE, .lst (NLs s.decls)), (x.aA, .lst (IS st)), (x.aF, .lst (AR x.fr.reverse))]
def RX.pts (x : RX) (K : PySem.W.Frag) (ks : List (List Nat)) (cm : List Bool) (st : List Item) (s : RS) : List (Addr × HO) :=
  x.base K ks cm st s ++ List.zipWith (grO K) x.gs s.groups ++ List.zipWith (frO K x.gs) x.fr s.frames
def RX.own (x : RX) : List Addr := [x.r, x.aK, x.aC, x.aT, x.aD, x.aG, x.aE, x.aA, x.aF] ++ x.gs.map (·.1) ++ x.fr.map (·.1)
structure RA (K : PySem.W.Frag) (ks : List (List Nat)) (cm : List Bool) (x : RX) (st : List Item) (s : RS) (H : Hp) : Prop where
  pts : Pts H (x.pts K ks cm st s)
  lg : x.gs.length = s.groups.length
  lf : x.fr.length = s.frames.length
section
variable {K : PySem.W.Frag} {ks : List (List Nat)} {cm : List Bool} {x : RX} {st : List Item} {s : RS} {H : Hp}
theorem zw_fst {α : Type} {f : Addr × Addr → α → Addr × HO} (hf : ∀ p a, (f p a).1 = p.1) : ∀ {l : List (Addr × Addr)} {m : List α}, l.length = m.length → (List.zipWith f l m).map (·.1) = l.map (·.1)
  | [], [], _ => rfl
  | p :: l, a :: m, e => by
    rw [List.zipWith_cons_cons, List.map_cons, List.map_cons, hf, zw_fst hf (by simpa using e)]
theorem RA.own (h : RA K ks cm x st s H) : (x.pts K ks cm st s).map (·.1) = x.own := by
  unfold RX.pts RX.own
  rw [List.map_append, List.map_append, zw_fst (fun _ _ => rfl) h.lg, zw_fst (fun _ _ => rfl) h.lf]
  rfl
theorem RA.hr (h : RA K ks cm x st s H) : H x.r = some (.ins (He.ga K "Reader") x.dx (x.fs s)) := h.pts.at 0 rfl
theorem RA.hK (h : RA K ks cm x st s H) : H x.aK = some (.lst (KS ks)) := h.pts.at 1 rfl
theorem RA.hC (h : RA K ks cm x st s H) : H x.aC = some (.lst (BL cm)) := h.pts.at 2 rfl
theorem RA.hT (h : RA K ks cm x st s H) : H x.aT = some (.lst (KS s.told)) := h.pts.at 3 rfl
theorem RA.hD (h : RA K ks cm x st s H) : H x.aD = some (.lst (IL s.depths)) := h.pts.at 4 rfl
theorem RA.hG (h : RA K ks cm x st s H) : H x.aG = some (.lst (AR x.gs)) := h.pts.at 5 rfl
theorem RA.hE (h : RA K ks cm x st s H) : H x.aE = some (.lst (NLs s.decls)) := h.pts.at 6 rfl
theorem RA.hA (h : RA K ks cm x st s H) : H x.aA = some (.lst (IS st)) := h.pts.at 7 rfl
theorem RA.hF (h : RA K ks cm x st s H) : H x.aF = some (.lst (AR x.fr.reverse)) := h.pts.at 8 rfl
/-- one of the nine changes -/
theorem RA.set (h : RA K ks cm x st s H) {st' : List Item} {s' : RS} (i : Nat) (p : Addr) (o : HO) (hi : ∃ u, (x.pts K ks cm st s)[i]? = some (p, u)) (he : x.pts K ks cm st' s' = (x.pts K ks cm st s).set i (p, o)) (hg : s'.groups.length = s.groups.length) (hf : s'.frames.length = s.frames.length) :
    RA K ks cm x st' s' (upd H p o) := by
  obtain ⟨u, hi⟩ := hi
  exact ⟨by rw [he]; exact h.pts.set i hi, h.lg.trans hg.symm, h.lf.trans hf.symm⟩
theorem own_base {x : RX} {a : Addr} (h : a ∈ [x.r, x.aK, x.aC, x.aT, x.aD, x.aG, x.aE, x.aA, x.aF]) : a ∈ x.own := List.mem_append_left _ (List.mem_append_left _ h)
theorem KS_app (l : List (List Nat)) (k : List Nat) : KS (l ++ [k]) = KS l ++ [V.str (strL k)] := List.map_append ..
theorem IL_app (l : List Int) (k : Int) : IL (l ++ [k]) = IL l ++ [V.int k] := List.map_append ..
theorem IL_len (l : List Int) : (IL l).length = l.length := List.length_map ..
theorem NLs_app (l : List Nat) (k : Nat) : NLs (l ++ [k]) = NLs l ++ [V.int (k : Int)] := List.map_append ..
theorem NLs_len (l : List Nat) : (NLs l).length = l.length := List.length_map ..
theorem AR_app (l : List (Addr × Addr)) (k : Addr × Addr) : AR (l ++ [k]) = AR l ++ [V.ref k.1] := List.map_append ..
theorem AR_len (l : List (Addr × Addr)) : (AR l).length = l.length := List.length_map ..
theorem KS_len (l : List (List Nat)) : (KS l).length = l.length := List.length_map ..
theorem KS_get {l : List (List Nat)} {i : Nat} {k : List Nat} (h : l[i]? = some k) : (KS l)[i]? = some (V.str (strL k)) := by
  unfold KS
  rw [List.getElem?_map, h]
  rfl
theorem RA.telling (h : RA K ks cm x st s H) (t : List Nat) : RA K ks cm x st { s with telling := t } (upd H x.r (.ins (He.ga K "Reader") x.dx (putF "telling" (.str (strL t)) (x.fs s)))) :=
  h.set 0 x.r _ ⟨_, rfl⟩ rfl rfl rfl
theorem RA.blocks (h : RA K ks cm x st s H) (b : Int) : RA K ks cm x st { s with blocks := b } (upd H x.r (.ins (He.ga K "Reader") x.dx (putF "blocks" (.int b) (x.fs s)))) :=
  h.set 0 x.r _ ⟨_, rfl⟩ rfl rfl rfl
theorem RA.told (h : RA K ks cm x st s H) (l : List (List Nat)) : RA K ks cm x st { s with told := l } (upd H x.aT (.lst (KS l))) := h.set 3 x.aT _ ⟨_, rfl⟩ rfl rfl rfl
theorem RA.depths (h : RA K ks cm x st s H) (l : List Int) : RA K ks cm x st { s with depths := l } (upd H x.aD (.lst (IL l))) := h.set 4 x.aD _ ⟨_, rfl⟩ rfl rfl rfl
theorem RA.decls (h : RA K ks cm x st s H) (l : List Nat) : RA K ks cm x st { s with decls := l } (upd H x.aE (.lst (NLs l))) := h.set 6 x.aE _ ⟨_, rfl⟩ rfl rfl rfl
theorem RA.awaited (h : RA K ks cm x st s H) (st' : List Item) : RA K ks cm x st' s (upd H x.aA (.lst (IS st'))) := h.set 7 x.aA _ ⟨_, rfl⟩ rfl rfl rfl
/-- what a step leaves -/
def Post (K : PySem.W.Frag) (ks : List (List Nat)) (cm : List Bool) (H : Hp) (x : RX) (st : List Item) (s : RS) (Q : VK) (v : V) : Prop := ∀ x' H', RA K ks cm x' st s H' → x'.r = x.r → Ext H H' x.own x'.own → Q v H'
end
section
variable {w : World} {K : PySem.W.Frag} {mg : Str → Option Value}
theorem cl_Group (e : Env w K mg) : Cls K (He.ga K "Group") := e.cls (List.mem_of_getElem? (i := 30) rfl)
theorem mk_Group (e : Env w K mg) : Mk K (He.ga K "Group") (He.ma K (He.ga K "Group") "__init__") := e.mkr (List.mem_of_getElem? (i := 32) rfl)
theorem na_Group_begin (e : Env w K mg) : NoAttr K (He.ga K "Group") "begin" := e.noat (List.mem_of_getElem? (i := 33) rfl)
theorem na_Group_inner (e : Env w K mg) : NoAttr K (He.ga K "Group") "inner" := e.noat (List.mem_of_getElem? (i := 34) rfl)
theorem na_Group_end (e : Env w K mg) : NoAttr K (He.ga K "Group") "end" := e.noat (List.mem_of_getElem? (i := 35) rfl)
theorem na_Group_last (e : Env w K mg) : NoAttr K (He.ga K "Group") "last" := e.noat (List.mem_of_getElem? (i := 36) rfl)
theorem cl_Frame (e : Env w K mg) : Cls K (He.ga K "Frame") := e.cls (List.mem_of_getElem? (i := 37) rfl)
theorem mk_Frame (e : Env w K mg) : Mk K (He.ga K "Frame") (He.ma K (He.ga K "Frame") "__init__") := e.mkr (List.mem_of_getElem? (i := 39) rfl)
theorem na_Frame_begin (e : Env w K mg) : NoAttr K (He.ga K "Frame") "begin" := e.noat (List.mem_of_getElem? (i := 40) rfl)
theorem na_Frame_group (e : Env w K mg) : NoAttr K (He.ga K "Frame") "group" := e.noat (List.mem_of_getElem? (i := 41) rfl)
theorem cl_Reader (e : Env w K mg) : Cls K (He.ga K "Reader") := e.cls (List.mem_of_getElem? (i := 42) rfl)
theorem mk_Reader (e : Env w K mg) : Mk K (He.ga K "Reader") (He.ma K (He.ga K "Reader") "__init__") := e.mkr (List.mem_of_getElem? (i := 44) rfl)
theorem mm_Reader_next_kind (e : Env w K mg) : Meth K (He.ga K "Reader") "next_kind" (He.ma K (He.ga K "Reader") "next_kind") := e.meth (List.mem_of_getElem? (i := 45) rfl)
theorem mm_Reader_read (e : Env w K mg) : Meth K (He.ga K "Reader") "read" (He.ma K (He.ga K "Reader") "read") := e.meth (List.mem_of_getElem? (i := 46) rfl)
theorem mm_Reader_unfold (e : Env w K mg) : Meth K (He.ga K "Reader") "unfold" (He.ma K (He.ga K "Reader") "unfold") := e.meth (List.mem_of_getElem? (i := 47) rfl)
theorem mm_Reader_take (e : Env w K mg) : Meth K (He.ga K "Reader") "take" (He.ma K (He.ga K "Reader") "take") := e.meth (List.mem_of_getElem? (i := 48) rfl)
theorem mm_Reader_act (e : Env w K mg) : Meth K (He.ga K "Reader") "act" (He.ma K (He.ga K "Reader") "act") := e.meth (List.mem_of_getElem? (i := 49) rfl)
theorem mm_Reader_make_group (e : Env w K mg) : Meth K (He.ga K "Reader") "make_group" (He.ma K (He.ga K "Reader") "make_group") := e.meth (List.mem_of_getElem? (i := 50) rfl)
theorem mm_Reader_end_group (e : Env w K mg) : Meth K (He.ga K "Reader") "end_group" (He.ma K (He.ga K "Reader") "end_group") := e.meth (List.mem_of_getElem? (i := 51) rfl)
theorem na_Reader_kinds (e : Env w K mg) : NoAttr K (He.ga K "Reader") "kinds" := e.noat (List.mem_of_getElem? (i := 52) rfl)
theorem na_Reader_commented (e : Env w K mg) : NoAttr K (He.ga K "Reader") "commented" := e.noat (List.mem_of_getElem? (i := 53) rfl)
theorem na_Reader_told (e : Env w K mg) : NoAttr K (He.ga K "Reader") "told" := e.noat (List.mem_of_getElem? (i := 54) rfl)
theorem na_Reader_depths (e : Env w K mg) : NoAttr K (He.ga K "Reader") "depths" := e.noat (List.mem_of_getElem? (i := 55) rfl)
theorem na_Reader_groups (e : Env w K mg) : NoAttr K (He.ga K "Reader") "groups" := e.noat (List.mem_of_getElem? (i := 56) rfl)
theorem na_Reader_declarations (e : Env w K mg) : NoAttr K (He.ga K "Reader") "declarations" := e.noat (List.mem_of_getElem? (i := 57) rfl)
theorem na_Reader_awaited (e : Env w K mg) : NoAttr K (He.ga K "Reader") "awaited" := e.noat (List.mem_of_getElem? (i := 58) rfl)
theorem na_Reader_frames (e : Env w K mg) : NoAttr K (He.ga K "Reader") "frames" := e.noat (List.mem_of_getElem? (i := 59) rfl)
theorem na_Reader_telling (e : Env w K mg) : NoAttr K (He.ga K "Reader") "telling" := e.noat (List.mem_of_getElem? (i := 60) rfl)
theorem na_Reader_blocks (e : Env w K mg) : NoAttr K (He.ga K "Reader") "blocks" := e.noat (List.mem_of_getElem? (i := 61) rfl)
theorem cl_Comment (e : Env w K mg) : Cls K (He.ga K "Comment") := e.cls (List.mem_of_getElem? (i := 62) rfl)
theorem mk_Comment (e : Env w K mg) : Mk K (He.ga K "Comment") (He.ma K (He.ga K "Comment") "__init__") := e.mkr (List.mem_of_getElem? (i := 64) rfl)
theorem na_Comment_size (e : Env w K mg) : NoAttr K (He.ga K "Comment") "size" := e.noat (List.mem_of_getElem? (i := 65) rfl)
theorem na_Comment_behind (e : Env w K mg) : NoAttr K (He.ga K "Comment") "behind" := e.noat (List.mem_of_getElem? (i := 66) rfl)
theorem cl_Program (e : Env w K mg) : Cls K (He.ga K "Program") := e.cls (List.mem_of_getElem? (i := 67) rfl)
theorem mk_Program (e : Env w K mg) : Mk K (He.ga K "Program") (He.ma K (He.ga K "Program") "__init__") := e.mkr (List.mem_of_getElem? (i := 69) rfl)
theorem mm_Program_is_comment (e : Env w K mg) : Meth K (He.ga K "Program") "is_comment" (He.ma K (He.ga K "Program") "is_comment") := e.meth (List.mem_of_getElem? (i := 70) rfl)
theorem mm_Program_is_by_itself (e : Env w K mg) : Meth K (He.ga K "Program") "is_by_itself" (He.ma K (He.ga K "Program") "is_by_itself") := e.meth (List.mem_of_getElem? (i := 71) rfl)
theorem mm_Program_gap_begin (e : Env w K mg) : Meth K (He.ga K "Program") "gap_begin" (He.ma K (He.ga K "Program") "gap_begin") := e.meth (List.mem_of_getElem? (i := 72) rfl)
theorem mm_Program_gap_bytes (e : Env w K mg) : Meth K (He.ga K "Program") "gap_bytes" (He.ma K (He.ga K "Program") "gap_bytes") := e.meth (List.mem_of_getElem? (i := 73) rfl)
theorem mm_Program_gap_breaks (e : Env w K mg) : Meth K (He.ga K "Program") "gap_breaks" (He.ma K (He.ga K "Program") "gap_breaks") := e.meth (List.mem_of_getElem? (i := 74) rfl)
theorem mm_Program_element_bytes (e : Env w K mg) : Meth K (He.ga K "Program") "element_bytes" (He.ma K (He.ga K "Program") "element_bytes") := e.meth (List.mem_of_getElem? (i := 75) rfl)
theorem mm_Program_token_kinds (e : Env w K mg) : Meth K (He.ga K "Program") "token_kinds" (He.ma K (He.ga K "Program") "token_kinds") := e.meth (List.mem_of_getElem? (i := 76) rfl)
theorem na_Program_text (e : Env w K mg) : NoAttr K (He.ga K "Program") "text" := e.noat (List.mem_of_getElem? (i := 77) rfl)
theorem na_Program_refused (e : Env w K mg) : NoAttr K (He.ga K "Program") "refused" := e.noat (List.mem_of_getElem? (i := 78) rfl)
theorem na_Program_parts (e : Env w K mg) : NoAttr K (He.ga K "Program") "parts" := e.noat (List.mem_of_getElem? (i := 79) rfl)
theorem na_Program_tokens (e : Env w K mg) : NoAttr K (He.ga K "Program") "tokens" := e.noat (List.mem_of_getElem? (i := 80) rfl)
theorem na_Program_comments (e : Env w K mg) : NoAttr K (He.ga K "Program") "comments" := e.noat (List.mem_of_getElem? (i := 81) rfl)
theorem na_Program_reader (e : Env w K mg) : NoAttr K (He.ga K "Program") "reader" := e.noat (List.mem_of_getElem? (i := 82) rfl)
end
end La
set_option maxHeartbeats 4000000
namespace La
open PySem PySem.Spec PyProof.Rows L2
section
variable {P : Program} {w : World} {K : PySem.W.Frag} {mg : Str → Option Value} {base : Heap} {f : Addr} {fd : FuncData}
/-! next_kind -/
def spNext (K : PySem.W.Frag) : Sp := fun vs H Q _ => ∃ (ks : List (List Nat)) (cm : List Bool) (x : RX) (st : List Item) (s : RS), vs = [.ref x.r] ∧ RA K ks cm x st s H ∧ Q (.str (strL (nk ks s))) H
theorem sc_Reader_next_kind : FnScope ["self"] ["self"] (defScope s_Reader_next_kind) := ⟨rfl, rfl, rfl, by decide +kernel, rfl, by decide +kernel, by decide +kernel⟩
abbrev F_Reader_next_kind (K : PySem.W.Frag) (f : Addr) (fd : FuncData) : Prop := FunD K "next_kind" "Reader.next_kind" (defArgs s_Reader_next_kind) (defBody s_Reader_next_kind) (defScope s_Reader_next_kind) [] [] f fd
theorem ok_Reader_next_kind (e : Env w K mg) (F : F_Reader_next_kind K f fd) : FnOk P w K mg base CX0 1 f fd ["self"] (spNext K) := by
  obtain ⟨t_END, m_END⟩ := e.str (x := "END") (z := "END") (List.mem_of_getElem? (i := 100) rfl)
  have m_len : mg "len" = none := e.free (List.mem_of_getElem? (i := 103) rfl)
  refine F.ok sc_Reader_next_kind (fun vs H Q E h => ?_) (fun cdv A outer s H vs Q E hr h => ⟨_, PSs.nox
    (pss_one (ps_ret (pe_ifExp (pt_cmpR op_lt (pe_callB call_len_seq (by rfl) m_len PySem.boot_len (pa_cons (pe_fld (pv 0) rfl) pa_nil)) (pe_callB call_len_seq (by rfl) m_len PySem.boot_len (pa_cons (pe_fld (pv 0) rfl) pa_nil)) (nomark _)) (pe_ix ix_list (pe_fld (pv 0) rfl) (pe_callB call_len_seq (by rfl) m_len PySem.boot_len (pa_cons (pe_fld (pv 0) rfl) pa_nil)) (fun _ _ => rfl)) (pe_glob (v := V.str "END") rfl m_END ⟨_, rfl⟩)))), ?_⟩)
  · obtain ⟨ks, cm, x, st, s, rfl, _⟩ := h
    rfl
  · obtain ⟨ks, cm, x, st, s, rfl, R, hQ⟩ := h
    refine ⟨_, rfl, x.r, _, _, _, _, rfl, R.hr, cl_Reader e, na_Reader_told e, rfl, x.aT, _, rfl, .inl (.of R.hT), ?_⟩
    refine ⟨_, rfl, x.r, _, _, _, _, rfl, R.hr, cl_Reader e, na_Reader_kinds e, rfl, x.aK, _, rfl, .inl (.of R.hK), _, _, rfl, rfl, _, rfl, ?_⟩
    by_cases c : s.at_ < ks.length
    · refine ifT (decide_eq_true (by rw [KS_len, KS_len]; exact Int.ofNat_lt.mpr c)) ?_
      refine ⟨_, rfl, x.r, _, _, _, _, rfl, R.hr, cl_Reader e, na_Reader_kinds e, rfl, _, rfl, x.r, _, _, _, _, rfl, R.hr, cl_Reader e, na_Reader_told e, rfl, x.aT, _, rfl, .inl (.of R.hT), x.aK, _, _, _, rfl, rfl, .of R.hK, atI_nat (by rw [KS_len]; exact KS_get (List.getElem?_eq_getElem c)), ?_⟩
      have e1 : nk ks s = ks[s.at_] := by
        unfold nk
        rw [List.getD_eq_getElem?_getD, List.getElem?_eq_getElem c]
        rfl
      rw [e1] at hQ
      exact hQ
    · refine ifF (decide_eq_false (by rw [KS_len, KS_len]; exact fun h => c (Int.ofNat_lt.mp h))) ?_
      have e1 : nk ks s = signs "END" := by
        unfold nk
        rw [List.getD_eq_getElem?_getD, List.getElem?_eq_none (by omega)]
        rfl
      rw [e1] at hQ
      exact hQ
theorem c_Reader_next_kind (e : Env w K mg) : CalleeM P w K mg base 1 "Reader" "next_kind" ["self"] (spNext K) := by
  obtain ⟨fd, F⟩ := e.d.def_ 24 (d := d_Reader_next_kind) rfl
  exact ⟨fd, ok_Reader_next_kind e F, F.bindsN fun _ _ _ _ _ _ us hl => match us, hl with | [_], _ => rfl⟩
/-! take -/
def spTake (K : PySem.W.Frag) : Sp := fun vs H Q _ => ∃ (ks : List (List Nat)) (cm : List Bool) (x : RX) (i : Item) (st : List Item) (s : RS), vs = [.ref x.r, .str (SI i)] ∧ RA K ks cm x st s H ∧
  s.told.length ≤ 4096 ∧ s.depths.length ≤ 4096 ∧ (i = .any ∨ ∃ y, i = .tok y ∧ SI i ≠ "!") ∧
  (i = .any ∨ SI i = strL (nk ks s) → Post K ks cm H x st s.taken Q (.bl true)) ∧ (i ≠ .any → SI i ≠ strL (nk ks s) → Q (.bl false) H)
theorem sc_Reader_take : FnScope ["self", "item"] ["self", "item"] (defScope s_Reader_take) := ⟨rfl, rfl, rfl, by decide +kernel, rfl, by decide +kernel, by decide +kernel⟩
abbrev F_Reader_take (K : PySem.W.Frag) (f : Addr) (fd : FuncData) : Prop := FunD K "take" "Reader.take" (defArgs s_Reader_take) (defBody s_Reader_take) (defScope s_Reader_take) [] [] f fd
theorem ok_Reader_take (e : Env w K mg) (F : F_Reader_take K f fd) : FnOk P w K mg base CX0 2 f fd ["self", "item"] (spTake K) := by
  obtain ⟨fd_Reader_next_kind, G_Reader_next_kind, b_Reader_next_kind⟩ := c_Reader_next_kind (P := P) (w := w) (base := base) e
  skip
  refine F.ok sc_Reader_take (fun vs H Q E h => ?_) (fun cdv A outer s H vs Q E hr h => ⟨_, PSs.nox
    (pss_cons (ps_if (PW.pt (pw_and (pt_cmpR op_ne (pv 1) pe_str (nomark _)) (pw_and1 (pt_cmpR op_ne (pv 1) (pe_meth0 (pv 0) (cl_Reader e) (mm_Reader_next_kind e) G_Reader_next_kind (hr.mono (by decide)) b_Reader_next_kind .nil pass0) (nomark _))))) (pss_one (ps_ret pe_bl)) pss_nil)
      (pss_cons (ps_expr (pe_bm PySem.F.plainAttrs_list PySem.F.slot_list_append PySem.F.type_list_append mt_append (pe_fld (pv 0) rfl) (pa_cons (pe_fld (pv 0) rfl) pa_nil)))
      (pss_cons (ps_expr (pe_bm PySem.F.plainAttrs_list PySem.F.slot_list_append PySem.F.type_list_append mt_append (pe_fld (pv 0) rfl) (pa_cons (pe_fld (pv 0) rfl) pa_nil)))
      (pss_cons (ps_fld (pv 0) pe_str rfl)
      (pss_one (ps_ret pe_bl)))))), ?_⟩)
  · obtain ⟨ks, cm, x, i, st, s, rfl, _⟩ := h
    rfl
  · obtain ⟨ks, cm, x, i, st, s, rfl, R, b1, b2, hi, hT, hF⟩ := h
    have ne1 : decide (V.str (SI i) = V.str (Str.ofString "!")) = decide (i = .any) := by
      refine decide_eq_decide.mpr ⟨fun h0 => ?_, fun h0 => by subst h0; rfl⟩
      rcases hi with rfl | ⟨y, rfl, hy⟩
      · rfl
      · exact absurd (V.str.inj h0) hy
    refine if_by (decide (i ≠ .any ∧ SI i ≠ strL (nk ks s))) (fun Q2 q2 => ?_) (fun hb => ?_) (fun hb => ?_)
    · refine ⟨_, rfl, rfl, _, rfl, ?_⟩
      show (if (!decide (V.str (SI i) = V.str (Str.ofString "!"))) = true then _ else _)
      rw [ne1]
      by_cases c : i = .any
      · refine ifF (by rw [decide_eq_true c]; rfl) ?_
        rw [decide_eq_false (fun h0 => h0.1 c)] at q2
        exact q2
      · refine ifT (by rw [decide_eq_false c]; rfl) ⟨_, rfl, _, rfl, x.r, _, _, rfl, R.hr, rfl, ks, cm, x, st, s, rfl, R, rfl, _, rfl, ?_⟩
        have e2 : decide (V.str (SI i) = V.str (strL (nk ks s))) = decide (SI i = strL (nk ks s)) := decide_eq_decide.mpr ⟨V.str.inj, fun h0 => by rw [h0]⟩
        rw [e2]
        by_cases d : SI i = strL (nk ks s)
        · rw [decide_eq_true d]
          rw [decide_eq_false (fun h0 => h0.2 d)] at q2
          exact q2
        · rw [decide_eq_false d]
          rw [decide_eq_true ⟨c, d⟩] at q2
          exact q2
    · obtain ⟨h1, h2⟩ := of_decide_eq_true hb
      exact hF h1 h2
    · have h0 : i = .any ∨ SI i = strL (nk ks s) := by
        by_cases c : i = .any
        · exact .inl c
        · exact .inr (Classical.byContradiction fun d => of_decide_eq_false hb ⟨c, d⟩)
      have k1 := hT h0
      have hsz : (4096 : Nat) < sizeLine := by rw [sizeLine_eq]; decide
      have R1 := R.told (s.told ++ [s.telling])
      rw [KS_app] at R1
      have R2 := R1.depths (s.depths ++ [s.blocks])
      rw [IL_app] at R2
      have R3 := R2.telling (signs "none")
      refine ⟨_, rfl, x.r, _, _, _, _, rfl, R.hr, cl_Reader e, na_Reader_told e, rfl, .inl ⟨rfl, _, .of R.hT⟩, _, rfl, x.r, _, _, _, _, rfl, R.hr, cl_Reader e, na_Reader_telling e, rfl, x.aT, _, _, rfl, rfl, R.hT, (by rw [KS_len]; omega), ?_⟩
      refine ⟨_, rfl, x.r, _, _, _, _, rfl, R1.hr, cl_Reader e, na_Reader_depths e, rfl, .inl ⟨rfl, _, .of R1.hD⟩, _, rfl, x.r, _, _, _, _, rfl, R1.hr, cl_Reader e, na_Reader_blocks e, rfl, x.aD, _, _, rfl, rfl, R1.hD, (by rw [IL_len]; show s.depths.length < _; omega), ?_⟩
      refine ⟨_, rfl, x.r, _, _, _, rfl, R2.hr, cl_Reader e, na_Reader_telling e, (by show 10 < 1000; decide), ?_⟩
      refine k1 x _ R3 rfl ?_
      exact ((Ext.upd (own_base (by simp))).trans (Ext.upd (own_base (by simp)))).trans (Ext.upd (own_base (by simp)))
theorem c_Reader_take (e : Env w K mg) : CalleeM P w K mg base 2 "Reader" "take" ["self", "item"] (spTake K) := by
  obtain ⟨fd, F⟩ := e.d.def_ 27 (d := d_Reader_take) rfl
  exact ⟨fd, ok_Reader_take e F, F.bindsN fun _ _ _ _ _ _ us hl => match us, hl with | [_, _], _ => rfl⟩
end
end La
set_option maxHeartbeats 4000000
namespace La
open PySem PySem.Spec PyProof.Rows L2
section
variable {P : Program} {w : World} {K : PySem.W.Frag} {mg : Str → Option Value} {base : Heap} {f : Addr} {fd : FuncData}
/-! Group, Frame -/
def spGroup (K : PySem.W.Frag) : Sp := fun vs H Q _ => ∃ (a dx : Addr) (b c : Nat), vs = [.ref a, .int (b : Int), .int (c : Int)] ∧ H a = some (.ins (He.ga K "Group") dx []) ∧ Q .non (upd H a (.ins (He.ga K "Group") dx (grF ⟨b, c, -1, -1⟩)))
theorem sc_Group___init__ : FnScope ["self", "begin", "inner"] ["self", "begin", "inner"] (defScope s_Group___init__) := ⟨rfl, rfl, rfl, by decide +kernel, rfl, by decide +kernel, by decide +kernel⟩
abbrev F_Group___init__ (K : PySem.W.Frag) (f : Addr) (fd : FuncData) : Prop := FunD K "__init__" "Group.__init__" (defArgs s_Group___init__) (defBody s_Group___init__) (defScope s_Group___init__) [] [] f fd
theorem ok_Group___init__ (e : Env w K mg) (F : F_Group___init__ K f fd) : FnOk P w K mg base CX0 1 f fd ["self", "begin", "inner"] (spGroup K) := by
  refine F.ok sc_Group___init__ (fun vs H Q E h => ?_) (fun cdv A outer s H vs Q E hr h => ⟨_, PSs.nox
    (pss_cons (ps_fld (pv 0) (pv 1) rfl)
      (pss_cons (ps_fld (pv 0) (pv 2) rfl)
      (pss_cons (ps_fld (pv 0) (pe_un un_neg pe_int) rfl)
      (pss_one (ps_fld (pv 0) (pe_un un_neg pe_int) rfl))))), ?_⟩)
  · obtain ⟨a, dx, b, c, rfl, _⟩ := h
    rfl
  · obtain ⟨a, dx, b, c, rfl, ha, hQ⟩ := h
    refine ⟨_, rfl, _, rfl, a, _, _, _, rfl, ha, cl_Group e, na_Group_begin e, (by show 0 < 1000; decide), ?_⟩
    refine ⟨_, rfl, _, rfl, a, _, _, _, rfl, upd_same, cl_Group e, na_Group_inner e, (by show 1 < 1000; decide), ?_⟩
    refine ⟨_, rfl, _, rfl, a, _, _, _, rfl, upd_same, cl_Group e, na_Group_end e, (by show 2 < 1000; decide), ?_⟩
    refine ⟨_, rfl, _, rfl, a, _, _, _, rfl, upd_same, cl_Group e, na_Group_last e, (by show 3 < 1000; decide), ?_⟩
    rw [upd_upd, upd_upd, upd_upd]
    exact hQ
theorem c_Group___init__ (e : Env w K mg) : CalleeM P w K mg base 1 "Group" "__init__" ["self", "begin", "inner"] (spGroup K) := by
  obtain ⟨fd, F⟩ := e.d.def_ 21 (d := d_Group___init__) rfl
  exact ⟨fd, ok_Group___init__ e F, F.bindsN fun _ _ _ _ _ _ us hl => match us, hl with | [_, _, _], _ => rfl⟩
def spFrame (K : PySem.W.Frag) : Sp := fun vs H Q _ => ∃ (a dx : Addr) (b : Nat), vs = [.ref a, .int (b : Int)] ∧ H a = some (.ins (He.ga K "Frame") dx []) ∧ Q .non (upd H a (.ins (He.ga K "Frame") dx (frF [] ⟨b, none⟩)))
theorem sc_Frame___init__ : FnScope ["self", "begin"] ["self", "begin"] (defScope s_Frame___init__) := ⟨rfl, rfl, rfl, by decide +kernel, rfl, by decide +kernel, by decide +kernel⟩
abbrev F_Frame___init__ (K : PySem.W.Frag) (f : Addr) (fd : FuncData) : Prop := FunD K "__init__" "Frame.__init__" (defArgs s_Frame___init__) (defBody s_Frame___init__) (defScope s_Frame___init__) [] [] f fd
theorem ok_Frame___init__ (e : Env w K mg) (F : F_Frame___init__ K f fd) : FnOk P w K mg base CX0 1 f fd ["self", "begin"] (spFrame K) := by
  refine F.ok sc_Frame___init__ (fun vs H Q E h => ?_) (fun cdv A outer s H vs Q E hr h => ⟨_, PSs.nox
    (pss_cons (ps_fld (pv 0) (pv 1) rfl)
      (pss_one (ps_fld (pv 0) pe_non rfl))), ?_⟩)
  · obtain ⟨a, dx, b, rfl, _⟩ := h
    rfl
  · obtain ⟨a, dx, b, rfl, ha, hQ⟩ := h
    refine ⟨_, rfl, _, rfl, a, _, _, _, rfl, ha, cl_Frame e, na_Frame_begin e, (by show 0 < 1000; decide), ?_⟩
    refine ⟨_, rfl, a, _, _, _, rfl, upd_same, cl_Frame e, na_Frame_group e, (by show 1 < 1000; decide), ?_⟩
    rw [upd_upd]
    exact hQ
theorem c_Frame___init__ (e : Env w K mg) : CalleeM P w K mg base 1 "Frame" "__init__" ["self", "begin"] (spFrame K) := by
  obtain ⟨fd, F⟩ := e.d.def_ 22 (d := d_Frame___init__) rfl
  exact ⟨fd, ok_Frame___init__ e F, F.bindsN fun _ _ _ _ _ _ us hl => match us, hl with | [_, _], _ => rfl⟩
end
section
variable {K : PySem.W.Frag} {ks : List (List Nat)} {cm : List Bool} {x : RX} {st : List Item} {s : RS} {H : Hp}
/-! ### frames, groups of the reader -/
theorem mem_zw {α : Type} {f : Addr × Addr → α → Addr × HO} : ∀ {l : List (Addr × Addr)} {m : List α} {i : Nat} {p : Addr × Addr} {a : α}, l[i]? = some p → m[i]? = some a → f p a ∈ List.zipWith f l m
  | p :: l, a :: m, 0, _, _, h1, h2 => by
    cases h1
    cases h2
    exact List.mem_cons_self
  | p :: l, a :: m, i + 1, _, _, h1, h2 => List.mem_cons_of_mem _ (mem_zw (l := l) (m := m) (by simpa using h1) (by simpa using h2))
  | [], _, i, _, _, h1, _ => by cases h1
  | _ :: _, [], i, _, _, _, h2 => by cases h2
theorem RA.grp (h : RA K ks cm x st s H) {i : Nat} {p : Addr × Addr} {g : Gr} (h1 : x.gs[i]? = some p) (h2 : s.groups[i]? = some g) : H p.1 = some (.ins (He.ga K "Group") p.2 (grF g)) :=
  h.pts.2 (grO K p g) (List.mem_append_left _ (List.mem_append_right _ (mem_zw h1 h2)))
theorem RA.frm (h : RA K ks cm x st s H) {i : Nat} {p : Addr × Addr} {g : Fr} (h1 : x.fr[i]? = some p) (h2 : s.frames[i]? = some g) : H p.1 = some (.ins (He.ga K "Frame") p.2 (frF x.gs g)) :=
  h.pts.2 (frO K x.gs p g) (List.mem_append_right _ (mem_zw h1 h2))
theorem own_gs {x : RX} {p : Addr × Addr} (h : p ∈ x.gs) : p.1 ∈ x.own := List.mem_append_left _ (List.mem_append_right _ (List.mem_map.mpr ⟨p, h, rfl⟩))
theorem own_fr {x : RX} {p : Addr × Addr} (h : p ∈ x.fr) : p.1 ∈ x.own := List.mem_append_right _ (List.mem_map.mpr ⟨p, h, rfl⟩)
theorem AR_last {p : Addr × Addr} {r : List (Addr × Addr)} : atI (AR (p :: r).reverse) (-1) = some (.ref p.1) := by
  rw [List.reverse_cons, AR_app]
  unfold atI ixN
  rw [List.length_append, if_neg (by omega), if_pos (by simp only [List.length_cons, List.length_nil]; omega)]
  show (AR r.reverse ++ [V.ref p.1])[(-1 + (((AR r.reverse).length + 1 : Nat) : Int)).toNat]? = _
  rw [show (-1 + (((AR r.reverse).length + 1 : Nat) : Int)).toNat = (AR r.reverse).length by omega]
  simp
theorem gref_more {gs : List (Addr × Addr)} {q : Addr × Addr} {f : Fr} (h : ∀ i, f.group = some i → i < gs.length) : gref (gs ++ [q]) f = gref gs f := by
  unfold gref
  cases e : f.group with
  | none => rfl
  | some i =>
    simp only
    rw [List.getElem?_append_left (h i e)]
theorem frO_more {K : PySem.W.Frag} {gs : List (Addr × Addr)} {q : Addr × Addr} : ∀ {l : List (Addr × Addr)} {m : List Fr}, (∀ f ∈ m, ∀ i, f.group = some i → i < gs.length) → List.zipWith (frO K (gs ++ [q])) l m = List.zipWith (frO K gs) l m
  | [], _, _ => rfl
  | _ :: _, [], _ => rfl
  | p :: l, f :: m, h => by
    rw [List.zipWith_cons_cons, List.zipWith_cons_cons, frO_more (l := l) (m := m) fun g hg => h g (List.mem_cons_of_mem _ hg)]
    unfold frO frF
    rw [gref_more (h f List.mem_cons_self)]
theorem Pts.new {H : Hp} {l : List (Addr × HO)} (h : Pts H l) {q : Addr} (hq : H q = none) : q ∉ l.map (·.1) := by
  intro hm
  obtain ⟨y, hy, e⟩ := List.mem_map.mp hm
  have := h.2 y hy
  rw [e, hq] at this
  cases this
theorem Pts.put {H : Hp} {l1 l2 : List (Addr × HO)} {p : Addr} {o o' : HO} (h : Pts H (l1 ++ (p, o) :: l2)) : Pts (upd H p o') (l1 ++ (p, o') :: l2) := by
  have := h.set (o' := o') l1.length (p := p) (o := o) (by simp)
  rwa [List.set_append_right _ _ (Nat.le_refl _), Nat.sub_self, List.set_cons_zero] at this
/-- a new frame is pushed -/
theorem RA.push (h : RA K ks cm x st s H) {q dq : Addr} (hq : H q = none) (hd : H dq = none) (hne : dq ≠ q) :
    RA K ks cm { x with fr := (q, dq) :: x.fr } st s.push (upd (upd (upd H dq (.own q)) q (.ins (He.ga K "Frame") dq (frF [] ⟨s.at_, none⟩))) x.aF (.lst (AR x.fr.reverse ++ [.ref q]))) := by
  have h1 : Pts (upd H dq (.own q)) (x.pts K ks cm st s) := h.pts.same (same_upd hd)
  have hq1 : upd H dq (.own q) q = none := by rw [upd_ne (Ne.symm hne)]; exact hq
  have h2 : Pts (upd (upd H dq (.own q)) q (.ins (He.ga K "Frame") dq (frF [] ⟨s.at_, none⟩))) ((q, .ins (He.ga K "Frame") dq (frF [] ⟨s.at_, none⟩)) :: x.pts K ks cm st s) :=
    (h1.same (same_upd hq1)).cons upd_same (h1.new hq1)
  have h3 := h2.set (o' := .lst (AR x.fr.reverse ++ [.ref q])) 9 (p := x.aF) rfl
  refine ⟨?_, h.lg, congrArg Nat.succ h.lf⟩
  refine h3.perm ?_
  have e1 : (({ x with fr := (q, dq) :: x.fr } : RX).pts K ks cm st s.push) = ([(x.r, .ins (He.ga K "Reader") x.dx (x.fs s)), (x.aK, .lst (KS ks)), (x.aC, .lst (BL cm)), (x.aT, .lst (KS s.told)), (x.aD, .lst (IL s.depths)), (x.aG, .lst (AR x.gs)), (x.aE, .lst (NLs s.decls)), (x.aA, .lst (IS st)), (x.aF, .lst (AR x.fr.reverse ++ [.ref q]))] ++ List.zipWith (grO K) x.gs s.groups) ++ ((q, .ins (He.ga K "Frame") dq (frF [] ⟨s.at_, none⟩)) :: List.zipWith (frO K x.gs) x.fr s.frames) := by
    unfold RX.pts RX.base
    simp only [List.reverse_cons, AR_app]
    rfl
  rw [e1]
  refine (List.Perm.trans ?_ List.perm_middle.symm)
  exact List.Perm.of_eq rfl
end
end La
set_option maxHeartbeats 4000000
namespace La
open PySem PySem.Spec PyProof.Rows L2
section
variable {K : PySem.W.Frag} {ks : List (List Nat)} {cm : List Bool} {x : RX} {st : List Item} {s : RS} {H : Hp}
theorem Pts.sub {H : Hp} {l m : List (Addr × HO)} (h : Pts H l) (g : m.Sublist l) : Pts H m := ⟨(g.map _).nodup h.1, fun y hy => h.2 y (g.subset hy)⟩
theorem AR_drop {p : Addr × Addr} {r : List (Addr × Addr)} : (AR (p :: r).reverse).dropLast = AR r.reverse := by
  rw [List.reverse_cons, AR_app]
  simp
theorem AR_pop {p : Addr × Addr} {r : List (Addr × Addr)} : (AR (p :: r).reverse)[(AR (p :: r).reverse).length - 1]? = some (.ref p.1) := by
  rw [List.reverse_cons, AR_app]
  simp
/-- the innermost frame is dropped -/
theorem RA.drop (h : RA K ks cm x st s H) {p : Addr × Addr} {rp : List (Addr × Addr)} {f : Fr} {r : List Fr} (hx : x.fr = p :: rp) (hs : s.frames = f :: r) :
    RA K ks cm { x with fr := rp } st { s with frames := r } (upd H x.aF (.lst (AR rp.reverse))) := by
  have h3 := h.pts.set (o' := .lst (AR rp.reverse)) 8 (p := x.aF) rfl
  refine ⟨h3.sub ?_, h.lg, ?_⟩
  · unfold RX.pts
    rw [hx, hs]
    show List.Sublist _ ((([(x.r, .ins (He.ga K "Reader") x.dx (x.fs s)), (x.aK, .lst (KS ks)), (x.aC, .lst (BL cm)), (x.aT, .lst (KS s.told)), (x.aD, .lst (IL s.depths)), (x.aG, .lst (AR x.gs)), (x.aE, .lst (NLs s.decls)), (x.aA, .lst (IS st)), (x.aF, .lst (AR rp.reverse))] : List (Addr × HO)) ++ List.zipWith (grO K) x.gs s.groups) ++ (frO K x.gs p f :: List.zipWith (frO K x.gs) rp r))
    exact (List.Sublist.refl _).append (List.sublist_cons_self _ _)
  · have := h.lf
    rw [hx, hs] at this
    simpa using this
theorem zw_set {α : Type} {f : Addr × Addr → α → Addr × HO} {b : α} : ∀ {l : List (Addr × Addr)} {m : List α} {i : Nat} {p : Addr × Addr} {a : α}, l[i]? = some p → m[i]? = some a → List.zipWith f l (m.set i b) = (List.zipWith f l m).set i (f p b)
  | p :: l, a :: m, 0, _, _, h1, h2 => by
    cases h1
    rfl
  | p :: l, a :: m, i + 1, _, _, h1, h2 => by
    rw [List.set_cons_succ, List.zipWith_cons_cons, List.zipWith_cons_cons, List.set_cons_succ, zw_set (l := l) (m := m) (by simpa using h1) (by simpa using h2)]
  | [], _, i, _, _, h1, _ => by cases h1
  | _ :: _, [], i, _, _, _, h2 => by cases h2
theorem zw_get {α : Type} {f : Addr × Addr → α → Addr × HO} : ∀ {l : List (Addr × Addr)} {m : List α} {i : Nat} {p : Addr × Addr} {a : α}, l[i]? = some p → m[i]? = some a → (List.zipWith f l m)[i]? = some (f p a)
  | p :: l, a :: m, 0, _, _, h1, h2 => by
    cases h1
    cases h2
    rfl
  | p :: l, a :: m, i + 1, _, _, h1, h2 => by
    rw [List.zipWith_cons_cons, List.getElem?_cons_succ, zw_get (l := l) (m := m) (by simpa using h1) (by simpa using h2)]
  | [], _, i, _, _, h1, _ => by cases h1
  | _ :: _, [], i, _, _, _, h2 => by cases h2
/-- a group is written -/
theorem RA.group (h : RA K ks cm x st s H) {i : Nat} {p : Addr × Addr} {g : Gr} (g' : Gr) (h1 : x.gs[i]? = some p) (h2 : s.groups[i]? = some g) :
    RA K ks cm x st { s with groups := s.groups.set i g' } (upd H p.1 (.ins (He.ga K "Group") p.2 (grF g'))) := by
  have hl : i < (List.zipWith (grO K) x.gs s.groups).length := (List.getElem?_eq_some_iff.mp (zw_get (f := grO K) h1 h2)).1
  have hi : (x.pts K ks cm st s)[9 + i]? = some (grO K p g) := by
    unfold RX.pts
    rw [List.getElem?_append_left (by rw [List.length_append]; show 9 + i < 9 + _; omega), List.getElem?_append_right (by show 9 ≤ _; omega)]
    show (List.zipWith (grO K) x.gs s.groups)[9 + i - 9]? = _
    rw [Nat.add_sub_cancel_left]
    exact zw_get h1 h2
  have h3 := h.pts.set (o' := .ins (He.ga K "Group") p.2 (grF g')) (9 + i) (p := p.1) hi
  refine ⟨?_, by rw [List.length_set]; exact h.lg, h.lf⟩
  have e : x.pts K ks cm st { s with groups := s.groups.set i g' } = (x.pts K ks cm st s).set (9 + i) (p.1, .ins (He.ga K "Group") p.2 (grF g')) := by
    unfold RX.pts
    rw [List.set_append_left _ _ (by rw [List.length_append]; show 9 + i < 9 + _; omega), List.set_append_right _ _ (by show 9 ≤ _; omega)]
    show x.base K ks cm st s ++ List.zipWith (grO K) x.gs (s.groups.set i g') ++ _ = x.base K ks cm st s ++ (List.zipWith (grO K) x.gs s.groups).set (9 + i - 9) _ ++ _
    rw [Nat.add_sub_cancel_left, zw_set h1 h2]
    rfl
  rw [e]
  exact h3
/-- the innermost frame turns out to be a group -/
theorem RA.make (h : RA K ks cm x st s H) {p : Addr × Addr} {rp : List (Addr × Addr)} {b a : Nat} {r : List Fr} (hx : x.fr = p :: rp) (hs : s.frames = ⟨b, none⟩ :: r) (hg : ∀ f ∈ s.frames, ∀ i, f.group = some i → i < s.groups.length)
    {q dq : Addr} (hq : H q = none) (hd : H dq = none) (hne : dq ≠ q) :
    RA K ks cm { x with gs := x.gs ++ [(q, dq)] } st (s.make a) (upd (upd (upd (upd H dq (.own q)) q (.ins (He.ga K "Group") dq (grF ⟨b, b + a, -1, -1⟩))) p.1 (.ins (He.ga K "Frame") p.2 (putF "group" (.ref q) (frF x.gs ⟨b, none⟩)))) x.aG (.lst (AR x.gs ++ [.ref q]))) := by
  have h1 : Pts (upd H dq (.own q)) (x.pts K ks cm st s) := h.pts.same (same_upd hd)
  have hq1 : upd H dq (.own q) q = none := by rw [upd_ne (Ne.symm hne)]; exact hq
  have h2 : Pts (upd (upd H dq (.own q)) q (.ins (He.ga K "Group") dq (grF ⟨b, b + a, -1, -1⟩))) ((q, .ins (He.ga K "Group") dq (grF ⟨b, b + a, -1, -1⟩)) :: x.pts K ks cm st s) :=
    (h1.same (same_upd hq1)).cons upd_same (h1.new hq1)
  have e2 : (q, .ins (He.ga K "Group") dq (grF ⟨b, b + a, -1, -1⟩)) :: x.pts K ks cm st s = ((q, .ins (He.ga K "Group") dq (grF ⟨b, b + a, -1, -1⟩)) :: (x.base K ks cm st s ++ List.zipWith (grO K) x.gs s.groups)) ++ ((p.1, .ins (He.ga K "Frame") p.2 (frF x.gs ⟨b, none⟩)) :: List.zipWith (frO K x.gs) rp r) := by
    unfold RX.pts
    rw [hx, hs]
    rfl
  rw [e2] at h2
  have h3 := h2.put (o' := .ins (He.ga K "Frame") p.2 (putF "group" (.ref q) (frF x.gs ⟨b, none⟩)))
  have h4 := h3.set (o' := .lst (AR x.gs ++ [.ref q])) 6 (p := x.aG) rfl
  have hgs : ∀ f ∈ s.frames, ∀ i, f.group = some i → i < x.gs.length := fun f hf i hi => by rw [h.lg]; exact hg f hf i hi
  refine ⟨?_, ?_, ?_⟩
  · refine h4.perm ?_
    rw [make_none a hs]
    have e1 : (({ x with gs := x.gs ++ [(q, dq)] } : RX).pts K ks cm st { s with frames := ⟨b, some s.groups.length⟩ :: r, groups := s.groups ++ [⟨b, b + a, -1, -1⟩] }) = ([(x.r, .ins (He.ga K "Reader") x.dx (x.fs s)), (x.aK, .lst (KS ks)), (x.aC, .lst (BL cm)), (x.aT, .lst (KS s.told)), (x.aD, .lst (IL s.depths)), (x.aG, .lst (AR x.gs ++ [.ref q])), (x.aE, .lst (NLs s.decls)), (x.aA, .lst (IS st)), (x.aF, .lst (AR x.fr.reverse))] ++ List.zipWith (grO K) x.gs s.groups) ++ ((q, .ins (He.ga K "Group") dq (grF ⟨b, b + a, -1, -1⟩)) :: ((p.1, .ins (He.ga K "Frame") p.2 (putF "group" (.ref q) (frF x.gs ⟨b, none⟩))) :: List.zipWith (frO K x.gs) rp r)) := by
      have e3 : frO K (x.gs ++ [(q, dq)]) p ⟨b, some s.groups.length⟩ = (p.1, .ins (He.ga K "Frame") p.2 (putF "group" (.ref q) (frF x.gs ⟨b, none⟩))) := by
        unfold frO frF gref
        simp only
        rw [← h.lg, List.getElem?_append_right (Nat.le_refl _), Nat.sub_self]
        rfl
      have eA : List.zipWith (grO K) (x.gs ++ [(q, dq)]) (s.groups ++ [⟨b, b + a, -1, -1⟩]) = List.zipWith (grO K) x.gs s.groups ++ [(q, .ins (He.ga K "Group") dq (grF ⟨b, b + a, -1, -1⟩))] := by
        rw [List.zipWith_append h.lg]
        rfl
      have eB : List.zipWith (frO K (x.gs ++ [(q, dq)])) (p :: rp) (⟨b, some s.groups.length⟩ :: r) = (p.1, .ins (He.ga K "Frame") p.2 (putF "group" (.ref q) (frF x.gs ⟨b, none⟩))) :: List.zipWith (frO K x.gs) rp r := by
        rw [List.zipWith_cons_cons, e3, frO_more (l := rp) (m := r) (fun f hf => hgs f (by rw [hs]; exact List.mem_cons_of_mem _ hf))]
      unfold RX.pts RX.base
      simp only [AR_app]
      rw [hx, eA, eB]
      simp only [List.append_assoc]
      rfl
    rw [e1]
    refine (List.Perm.trans ?_ List.perm_middle.symm)
    exact List.Perm.of_eq rfl
  · rw [make_none a hs]
    show (x.gs ++ [_]).length = (s.groups ++ [_]).length
    rw [List.length_append, List.length_append, h.lg]
    rfl
  · rw [make_none a hs]
    have := h.lf
    rw [hs] at this
    exact this
end
section
variable {P : Program} {w : World} {K : PySem.W.Frag} {mg : Str → Option Value} {base : Heap} {f : Addr} {fd : FuncData}
/-! make_group -/
def spMakeG (K : PySem.W.Frag) : Sp := fun vs H Q _ => ∃ (ks : List (List Nat)) (cm : List Bool) (x : RX) (st : List Item) (s : RS) (a : Nat), vs = [.ref x.r, .int (a : Int)] ∧ RA K ks cm x st s H ∧ 1 ≤ s.frames.length ∧ s.groups.length ≤ 4000000 ∧
  (∀ f ∈ s.frames, ∀ i, f.group = some i → i < s.groups.length) ∧ Post K ks cm H x st (s.make a) Q .non
theorem sc_Reader_make_group : FnScope ["self", "apart", "frame"] ["self", "apart"] (defScope s_Reader_make_group) := ⟨rfl, rfl, rfl, by decide +kernel, rfl, by decide +kernel, by decide +kernel⟩
abbrev F_Reader_make_group (K : PySem.W.Frag) (f : Addr) (fd : FuncData) : Prop := FunD K "make_group" "Reader.make_group" (defArgs s_Reader_make_group) (defBody s_Reader_make_group) (defScope s_Reader_make_group) [] [] f fd
theorem ok_Reader_make_group (e : Env w K mg) (F : F_Reader_make_group K f fd) : FnOk P w K mg base CX0 3 f fd ["self", "apart"] (spMakeG K) := by
  obtain ⟨fd_Group___init__, G_Group___init__, b_Group___init__⟩ := c_Group___init__ (P := P) (w := w) (base := base) e
  have m_Group : mg "Group" = some (.ref (He.ga K "Group")) := e.glo (List.mem_of_getElem? (i := 31) rfl)
  refine F.ok sc_Reader_make_group (fun vs H Q E h => ?_) (fun cdv A outer s H vs Q E hr h => ⟨_, PSs.nox
    (pss_cons (ps_set (i := 2) sc_Reader_make_group.nd rfl (Or.inl rfl) (pe_ix ix_list (pe_fld (pv 0) rfl) (pe_un un_neg pe_int) (fun _ _ => rfl)))
      (pss_one (ps_if (pt_cmpR op_isN (pe_fld (pv 2) rfl) pe_non (nomark _)) (pss_cons (ps_fld (pv 2) (pe_make (mk_Group e) G_Group___init__ (hr.mono (by decide)) rfl m_Group b_Group___init__ .nil pass0 (pa_cons (pe_fld (pv 2) rfl) (pa_cons (pe_op op_add (pe_fld (pv 2) rfl) (pv 1)) pa_nil))) rfl)
      (pss_one (ps_expr (pe_bm PySem.F.plainAttrs_list PySem.F.slot_list_append PySem.F.type_list_append mt_append (pe_fld (pv 0) rfl) (pa_cons (pe_fld (pv 2) rfl) pa_nil))))) pss_nil))), ?_⟩)
  · obtain ⟨ks, cm, x, st, s, a, rfl, _⟩ := h
    rfl
  · obtain ⟨ks, cm, x, st, s, a, rfl, R, hn, hl, hg, hQ⟩ := h
    obtain ⟨p, rp, hx⟩ : ∃ p rp, x.fr = p :: rp := by
      cases e1 : x.fr with
      | nil =>
        have := R.lf
        rw [e1] at this
        simp only [List.length_nil] at this
        omega
      | cons p rp => exact ⟨p, rp, rfl⟩
    obtain ⟨fr, r, hs⟩ : ∃ fr r, s.frames = fr :: r := by
      cases e1 : s.frames with
      | nil =>
        rw [e1] at hn
        simp only [List.length_nil] at hn
        omega
      | cons p rp => exact ⟨p, rp, rfl⟩
    have hfr := R.frm (i := 0) (p := p) (g := fr) (by rw [hx]; rfl) (by rw [hs]; rfl)
    have hF : H x.aF = some (.lst (AR (p :: rp).reverse)) := by rw [← hx]; exact R.hF
    refine ⟨_, rfl, x.r, _, _, _, _, rfl, R.hr, cl_Reader e, na_Reader_frames e, rfl, _, rfl, x.aF, _, _, _, rfl, rfl, .of hF, AR_last, ?_⟩
    refine ⟨_, rfl, p.1, _, _, _, _, rfl, hfr, cl_Frame e, na_Frame_group e, rfl, rfl, _, rfl, ?_⟩
    obtain ⟨b, g⟩ := fr
    cases g with
    | some i =>
      have hi : i < x.gs.length := by
        rw [R.lg]
        exact hg ⟨b, some i⟩ (by rw [hs]; exact List.mem_cons_self) i rfl
      have e2 : gref x.gs ⟨b, some i⟩ = .ref x.gs[i].1 := by
        unfold gref
        simp only
        rw [List.getElem?_eq_getElem hi]
      refine ifF ?_ ?_
      · show decide (gref x.gs ⟨b, some i⟩ = .non) = false
        rw [e2]
        rfl
      · have e3 := make_some a hs
        rw [e3] at hQ
        exact hQ x H R rfl (Ext.refl H x.own)
    | none =>
      refine ifT rfl ?_
      refine ⟨_, rfl, p.1, _, _, _, _, rfl, hfr, cl_Frame e, na_Frame_begin e, rfl, _, rfl, p.1, _, _, _, _, rfl, hfr, cl_Frame e, na_Frame_begin e, rfl, _, rfl, _, _, rfl, rfl, ?_⟩
      intro q dq nq nd ne
      refine ⟨q, dq, b, b + a, rfl, upd_same, rfl, ?_⟩
      rw [upd_upd]
      have hG := R.hG
      have pq : p.1 ≠ q := fun z => by rw [z, nq] at hfr; cases hfr
      have pd : p.1 ≠ dq := fun z => by rw [z, nd] at hfr; cases hfr
      have gq : x.aG ≠ q := fun z => by rw [z, nq] at hG; cases hG
      have gd : x.aG ≠ dq := fun z => by rw [z, nd] at hG; cases hG
      have gp : x.aG ≠ p.1 := ne_of hG hfr (by intro z; cases z)
      refine ⟨_, rfl, p.1, _, _, _, rfl, (by rw [upd_ne pq, upd_ne pd]; exact hfr), cl_Frame e, na_Frame_group e, (by show 2 < 1000; decide), ?_⟩
      have hG2 : upd (upd (upd H dq (.own q)) q (.ins (He.ga K "Group") dq (grF ⟨b, b + a, -1, -1⟩))) p.1 (.ins (He.ga K "Frame") p.2 (putF "group" (.ref q) (frF x.gs ⟨b, none⟩))) x.aG = some (.lst (AR x.gs)) := by
        rw [upd_ne gp, upd_ne gq, upd_ne gd]
        exact hG
      have hR2 : upd (upd (upd H dq (.own q)) q (.ins (He.ga K "Group") dq (grF ⟨b, b + a, -1, -1⟩))) p.1 (.ins (He.ga K "Frame") p.2 (putF "group" (.ref q) (frF x.gs ⟨b, none⟩))) x.r = some (.ins (He.ga K "Reader") x.dx (x.fs s)) := by
        have hr0 := R.hr
        rw [upd_ne (fun z => by
          have hp2 := R.pts.1
          rw [R.own] at hp2
          have m1 : p.1 ∈ x.fr.map (·.1) := by rw [hx]; simp
          have := (List.nodup_append.mp hp2).2.2 x.r (List.mem_append_left _ (by simp)) p.1 m1
          exact this z), upd_ne (fun z => by rw [z, nq] at hr0; cases hr0), upd_ne (fun z => by rw [z, nd] at hr0; cases hr0)]
        exact hr0
      refine ⟨_, rfl, x.r, _, _, _, _, rfl, hR2, cl_Reader e, na_Reader_groups e, rfl, .inl ⟨rfl, _, .of hG2⟩, _, rfl, p.1, _, _, _, _, rfl, upd_same, cl_Frame e, na_Frame_group e, rfl, x.aG, _, _, rfl, rfl, hG2, (by rw [AR_len, R.lg, sizeLine_eq]; omega), ?_⟩
      refine hQ _ _ (R.make hx hs hg nq nd ne) rfl ⟨fun b' o hb hn' => ?_, fun b' hb => ?_⟩
      · have hbq : b' ≠ q := fun z => by rw [z, nq] at hb; cases hb
        have hbd : b' ≠ dq := fun z => by rw [z, nd] at hb; cases hb
        have hbp : b' ≠ p.1 := fun z => hn' (by rw [z]; exact own_fr (by rw [hx]; exact List.mem_cons_self))
        have hbg : b' ≠ x.aG := fun z => hn' (by rw [z]; exact own_base (by simp))
        rw [upd_ne hbg, upd_ne hbp, upd_ne hbq, upd_ne hbd]
        exact hb
      · have hm : b' ∈ [x.r, x.aK, x.aC, x.aT, x.aD, x.aG, x.aE, x.aA, x.aF] ++ (x.gs ++ [(q, dq)]).map (·.1) ++ x.fr.map (·.1) := hb
        rw [List.map_append] at hm
        rcases List.mem_append.mp hm with m | m
        · rcases List.mem_append.mp m with m | m
          · exact .inl (own_base m)
          · rcases List.mem_append.mp m with m | m
            · exact .inl (List.mem_append_left _ (List.mem_append_right _ m))
            · have e4 : b' = q := List.mem_singleton.mp m
              rw [e4]
              exact .inr nq
        · exact .inl (List.mem_append_right _ m)
theorem c_Reader_make_group (e : Env w K mg) : CalleeM P w K mg base 3 "Reader" "make_group" ["self", "apart"] (spMakeG K) := by
  obtain ⟨fd, F⟩ := e.d.def_ 29 (d := d_Reader_make_group) rfl
  exact ⟨fd, ok_Reader_make_group e F, F.bindsN fun _ _ _ _ _ _ us hl => match us, hl with | [_, _], _ => rfl⟩
end
end La
set_option maxHeartbeats 4000000
namespace La
open PySem PySem.Spec PyProof.Rows L2
section
variable {P : Program} {w : World} {K : PySem.W.Frag} {mg : Str → Option Value} {base : Heap} {f : Addr} {fd : FuncData}
theorem own_drop {x : RX} {p : Addr × Addr} {rp : List (Addr × Addr)} (hx : x.fr = p :: rp) {a : Addr} (h : a ∈ ({ x with fr := rp } : RX).own) : a ∈ x.own := by
  have h0 : a ∈ [x.r, x.aK, x.aC, x.aT, x.aD, x.aG, x.aE, x.aA, x.aF] ++ x.gs.map (·.1) ++ rp.map (·.1) := h
  rcases List.mem_append.mp h0 with m | m
  · exact List.mem_append_left _ m
  · refine List.mem_append_right _ ?_
    rw [hx]
    exact List.mem_cons_of_mem _ m
/-! end_group -/
def spEndG (K : PySem.W.Frag) : Sp := fun vs H Q _ => ∃ (ks : List (List Nat)) (cm : List Bool) (x : RX) (st : List Item) (s : RS) (a b : Int), vs = [.ref x.r, .int a, .int b] ∧ RA K ks cm x st s H ∧ 1 ≤ s.frames.length ∧
  (∀ f ∈ s.frames, ∀ i, f.group = some i → i < s.groups.length) ∧ Post K ks cm H x st (s.pop a b) Q .non
theorem sc_Reader_end_group : FnScope ["self", "end", "last", "group"] ["self", "end", "last"] (defScope s_Reader_end_group) := ⟨rfl, rfl, rfl, by decide +kernel, rfl, by decide +kernel, by decide +kernel⟩
abbrev F_Reader_end_group (K : PySem.W.Frag) (f : Addr) (fd : FuncData) : Prop := FunD K "end_group" "Reader.end_group" (defArgs s_Reader_end_group) (defBody s_Reader_end_group) (defScope s_Reader_end_group) [] [] f fd
theorem ok_Reader_end_group (e : Env w K mg) (F : F_Reader_end_group K f fd) : FnOk P w K mg base CX0 1 f fd ["self", "end", "last"] (spEndG K) := by
  skip
  skip
  refine F.ok sc_Reader_end_group (fun vs H Q E h => ?_) (fun cdv A outer s H vs Q E hr h => ⟨_, PSs.nox
    (pss_cons (ps_set (i := 3) sc_Reader_end_group.nd rfl (Or.inl rfl) (pe_fld (pe_bm0 PySem.F.plainAttrs_list PySem.F.slot_list_pop PySem.F.type_list_pop mt_pop (pe_fld (pv 0) rfl)) rfl))
      (pss_one (ps_if (pt_cmpR op_notN (pv 3) pe_non (nomark _)) (pss_cons (ps_fld (pv 3) (pv 1) rfl)
      (pss_one (ps_fld (pv 3) (pv 2) rfl))) pss_nil))), ?_⟩)
  · obtain ⟨ks, cm, x, st, s, a, b, rfl, _⟩ := h
    rfl
  · obtain ⟨ks, cm, x, st, s, a, b', rfl, R, hn, hg, hQ⟩ := h
    obtain ⟨p, rp, hx⟩ : ∃ p rp, x.fr = p :: rp := by
      cases e1 : x.fr with
      | nil =>
        have := R.lf
        rw [e1] at this
        simp only [List.length_nil] at this
        omega
      | cons p rp => exact ⟨p, rp, rfl⟩
    obtain ⟨fr, r, hs⟩ : ∃ fr r, s.frames = fr :: r := by
      cases e1 : s.frames with
      | nil =>
        rw [e1] at hn
        simp only [List.length_nil] at hn
        omega
      | cons p rp => exact ⟨p, rp, rfl⟩
    have hfr := R.frm (i := 0) (p := p) (g := fr) (by rw [hx]; rfl) (by rw [hs]; rfl)
    have hF : H x.aF = some (.lst (AR (p :: rp).reverse)) := by rw [← hx]; exact R.hF
    have pF : p.1 ≠ x.aF := ne_of hfr hF (by intro z; cases z)
    have R1 := R.drop hx hs
    have x1 : Ext H (upd H x.aF (.lst (AR rp.reverse))) x.own ({ x with fr := rp } : RX).own := ⟨(Ext.upd (H := H) (x := .lst (AR rp.reverse)) (own_base (x := x) (a := x.aF) (by simp))).keep, fun c hc => .inl (own_drop hx hc)⟩
    refine ⟨_, rfl, x.r, _, _, _, _, rfl, R.hr, cl_Reader e, na_Reader_frames e, rfl, .inl ⟨rfl, _, .of hF⟩, x.aF, _, _, rfl, rfl, hF, AR_pop, ?_⟩
    rw [AR_drop]
    refine ⟨p.1, _, _, _, _, rfl, (by rw [upd_ne pF]; exact hfr), cl_Frame e, na_Frame_group e, rfl, _, rfl, rfl, _, rfl, ?_⟩
    obtain ⟨b, g⟩ := fr
    cases g with
    | none =>
      refine ifF rfl ?_
      have e3 : s.pop a b' = { s with frames := r } := by
        unfold RS.pop
        rw [hs]
      rw [e3] at hQ
      exact hQ _ _ R1 rfl x1
    | some i =>
      have hi2 := hg ⟨b, some i⟩ (by rw [hs]; exact List.mem_cons_self) i rfl
      have hi : i < x.gs.length := by
        rw [R.lg]
        exact hi2
      have e2 : gref x.gs ⟨b, some i⟩ = .ref x.gs[i].1 := by
        unfold gref
        simp only
        rw [List.getElem?_eq_getElem hi]
      have e3 : s.pop a b' = { s with frames := r, groups := s.groups.set i { s.groups[i] with end_ := a, last := b' } } := by
        unfold RS.pop
        rw [hs]
        simp only
        rw [List.getElem?_eq_getElem hi2]
      rw [e3] at hQ
      have hgi : x.gs[i]? = some x.gs[i] := List.getElem?_eq_getElem hi
      have R2 := R1.group (i := i) (p := x.gs[i]) (g := s.groups[i]) { s.groups[i] with end_ := a } hgi (List.getElem?_eq_getElem hi2)
      have R3 := R2.group (i := i) (p := x.gs[i]) (g := { s.groups[i] with end_ := a }) { s.groups[i] with end_ := a, last := b' } hgi (by
        show (s.groups.set i _)[i]? = _
        rw [List.getElem?_set, if_pos rfl, if_pos hi2])
      have e4 : (s.groups.set i { s.groups[i] with end_ := a }).set i { s.groups[i] with end_ := a, last := b' } = s.groups.set i { s.groups[i] with end_ := a, last := b' } := List.set_set ..
      refine ifT ?_ ?_
      · show (!decide (gref x.gs ⟨b, some i⟩ = .non)) = true
        rw [e2]
        rfl
      · refine ⟨_, rfl, _, rfl, x.gs[i].1, _, _, _, e2, R1.grp hgi (List.getElem?_eq_getElem hi2), cl_Group e, na_Group_end e, (by show 4 < 1000; decide), ?_⟩
        refine ⟨_, rfl, _, rfl, x.gs[i].1, _, _, _, e2, upd_same, cl_Group e, na_Group_last e, (by show 4 < 1000; decide), ?_⟩
        rw [e4] at R3
        have og : x.gs[i].1 ∈ ({ x with fr := rp } : RX).own := own_gs (x := { x with fr := rp }) (List.getElem_mem hi)
        exact hQ _ _ R3 rfl ((x1.trans (Ext.upd og)).trans (Ext.upd og))
theorem c_Reader_end_group (e : Env w K mg) : CalleeM P w K mg base 1 "Reader" "end_group" ["self", "end", "last"] (spEndG K) := by
  obtain ⟨fd, F⟩ := e.d.def_ 30 (d := d_Reader_end_group) rfl
  exact ⟨fd, ok_Reader_end_group e F, F.bindsN fun _ _ _ _ _ _ us hl => match us, hl with | [_, _, _], _ => rfl⟩
end
end La
set_option maxHeartbeats 4000000
namespace La
open PySem PySem.Spec PyProof.Rows L2
theorem actN {y z : String} (hz : Str.ofString z = strL (signs z)) (h : (signs y == signs z) = false) : decide (V.str (strL (signs y)) = V.str (Str.ofString z)) = false := by
  rw [hz]
  refine decide_eq_false fun e => ?_
  rw [SX.S_inj (V.str.inj e)] at h
  simp at h
theorem actY {y : String} (hz : Str.ofString y = strL (signs y)) : decide (V.str (strL (signs y)) = V.str (Str.ofString y)) = true := by
  rw [hz]
  exact decide_eq_true rfl
theorem ixN_nat {n k : Nat} (h : k < n) : ixN n (k : Int) = some k := by
  unfold ixN
  rw [if_pos (by omega), if_pos (by omega)]
  rfl
theorem KS_set (l : List (List Nat)) (i : Nat) (k : List Nat) : KS (l.set i k) = (KS l).set i (V.str (strL k)) := List.map_set ..
section
variable {K : PySem.W.Frag} {ks : List (List Nat)} {cm : List Bool} {x : RX} {st : List Item} {s : RS} {H : Hp}
theorem ext_push (h : RA K ks cm x st s H) {q dq : Addr} {l : List V} {o : HO} (hq : H q = none) (hd : H dq = none) :
    Ext H (upd (upd (upd H dq (.own q)) q o) x.aF (.lst l)) x.own ({ x with fr := (q, dq) :: x.fr } : RX).own := by
  refine ⟨fun b' o hb hn' => ?_, fun b' hb => ?_⟩
  · have hbq : b' ≠ q := fun z => by rw [z, hq] at hb; cases hb
    have hbd : b' ≠ dq := fun z => by rw [z, hd] at hb; cases hb
    have hbg : b' ≠ x.aF := fun z => hn' (by rw [z]; exact own_base (by simp))
    rw [upd_ne hbg, upd_ne hbq, upd_ne hbd]
    exact hb
  · have hm : b' ∈ [x.r, x.aK, x.aC, x.aT, x.aD, x.aG, x.aE, x.aA, x.aF] ++ x.gs.map (·.1) ++ ((q, dq) :: x.fr).map (·.1) := hb
    rcases List.mem_append.mp hm with m | m
    · exact .inl (List.mem_append_left _ m)
    · rcases List.mem_cons.mp m with m | m
      · rw [m]
        exact .inr hq
      · exact .inl (List.mem_append_right _ m)
end
section
variable {P : Program} {w : World} {K : PySem.W.Frag} {mg : Str → Option Value} {base : Heap} {f : Addr} {fd : FuncData}
/-! act -/
def spAct (K : PySem.W.Frag) : Sp := fun vs H Q _ => ∃ (ks : List (List Nat)) (cm : List Bool) (x : RX) (st : List Item) (s : RS) (y : String), vs = [.ref x.r, .str (strL (signs y))] ∧ RA K ks cm x st s H ∧
  Safe ks cm (.act y :: st) s ∧ s.count ≤ 3000000 ∧ Post K ks cm H x st (s.act ks cm y) Q .non
theorem sc_Reader_act : FnScope ["self", "item", "at"] ["self", "item"] (defScope s_Reader_act) := ⟨rfl, rfl, rfl, by decide +kernel, rfl, by decide +kernel, by decide +kernel⟩
abbrev F_Reader_act (K : PySem.W.Frag) (f : Addr) (fd : FuncData) : Prop := FunD K "act" "Reader.act" (defArgs s_Reader_act) (defBody s_Reader_act) (defScope s_Reader_act) [] [] f fd
theorem ok_Reader_act (e : Env w K mg) (F : F_Reader_act K f fd) : FnOk P w K mg base CX0 5 f fd ["self", "item"] (spAct K) := by
  obtain ⟨fd_Frame___init__, G_Frame___init__, b_Frame___init__⟩ := c_Frame___init__ (P := P) (w := w) (base := base) e
  obtain ⟨fd_Reader_make_group, G_Reader_make_group, b_Reader_make_group⟩ := c_Reader_make_group (P := P) (w := w) (base := base) e
  obtain ⟨fd_Reader_end_group, G_Reader_end_group, b_Reader_end_group⟩ := c_Reader_end_group (P := P) (w := w) (base := base) e
  have m_len : mg "len" = none := e.free (List.mem_of_getElem? (i := 103) rfl)
  have m_Frame : mg "Frame" = some (.ref (He.ga K "Frame")) := e.glo (List.mem_of_getElem? (i := 38) rfl)
  refine F.ok sc_Reader_act (fun vs H Q E h => ?_) (fun cdv A outer s H vs Q E hr h => ⟨_, PSs.nox
    (pss_cons (ps_set (i := 2) sc_Reader_act.nd rfl (Or.inl rfl) (pe_callB call_len_seq (by rfl) m_len PySem.boot_len (pa_cons (pe_fld (pv 0) rfl) pa_nil)))
      (pss_one (ps_if (pt_cmpR op_eq (pv 1) pe_str (nomark _)) (pss_one (ps_expr (pe_bm PySem.F.plainAttrs_list PySem.F.slot_list_append PySem.F.type_list_append mt_append (pe_fld (pv 0) rfl) (pa_cons (pv 2) pa_nil)))) (pss_one (ps_if (pt_cmpR op_eq (pv 1) pe_str (nomark _)) (pss_one (ps_fldaug (pv 0) pe_int in_add)) (pss_one (ps_if (pt_cmpR op_eq (pv 1) pe_str (nomark _)) (pss_cons (ps_fldaug (pv 0) pe_int in_sub)
      (pss_one (ps_fld (pv 0) (pe_ifExp (PW.pt (pw_and (pt_cmpR op_eq (pe_ix ix_list (pe_fld (pv 0) rfl) (pe_op op_sub (pv 2) pe_int) (fun _ _ => rfl)) pe_str (nomark _)) (pw_and1 (pt_not (pt_truth (pe_ix ix_list (pe_fld (pv 0) rfl) (pv 2) (fun _ _ => rfl)) (fun _ => rfl)))))) pe_str pe_str) rfl))) (pss_one (ps_if (pt_cmpR op_eq (pv 1) pe_str (nomark _)) (pss_one (ps_expr (pe_bm PySem.F.plainAttrs_list PySem.F.slot_list_append PySem.F.type_list_append mt_append (pe_fld (pv 0) rfl) (pa_cons (pe_make (mk_Frame e) G_Frame___init__ (hr.mono (by decide)) rfl m_Frame b_Frame___init__ .nil pass0 (pa_cons (pv 2) pa_nil)) pa_nil)))) (pss_one (ps_if (pt_cmpR op_eq (pv 1) pe_str (nomark _)) (pss_cons (ps_expr (pe_meth (pv 0) (cl_Reader e) (mm_Reader_make_group e) G_Reader_make_group (hr.mono (by decide)) b_Reader_make_group .nil pass0 (pa_cons pe_int pa_nil)))
      (pss_one (ps_fld (pv 0) pe_str rfl))) (pss_one (ps_if (pt_cmpR op_eq (pv 1) pe_str (nomark _)) (pss_one (ps_expr (pe_meth (pv 0) (cl_Reader e) (mm_Reader_end_group e) G_Reader_end_group (hr.mono (by decide)) b_Reader_end_group .nil pass0 (pa_cons (pe_op op_sub (pv 2) pe_int) (pa_cons (pe_op op_sub (pv 2) pe_int) pa_nil))))) (pss_one (ps_if (pt_cmpR op_eq (pv 1) pe_str (nomark _)) (pss_cons (ps_expr (pe_bm PySem.F.plainAttrs_list PySem.F.slot_list_append PySem.F.type_list_append mt_append (pe_fld (pv 0) rfl) (pa_cons (pe_make (mk_Frame e) G_Frame___init__ (hr.mono (by decide)) rfl m_Frame b_Frame___init__ .nil pass0 (pa_cons (pv 2) pa_nil)) pa_nil)))
      (pss_cons (ps_expr (pe_meth (pv 0) (cl_Reader e) (mm_Reader_make_group e) G_Reader_make_group (hr.mono (by decide)) b_Reader_make_group .nil pass0 (pa_cons pe_int pa_nil)))
      (pss_one (ps_fld (pv 0) pe_str rfl)))) (pss_one (ps_if (pt_cmpR op_eq (pv 1) pe_str (nomark _)) (pss_cons (ps_expr (pe_meth (pv 0) (cl_Reader e) (mm_Reader_make_group e) G_Reader_make_group (hr.mono (by decide)) b_Reader_make_group .nil pass0 (pa_cons pe_int pa_nil)))
      (pss_one (ps_asg pe_str (pg_sub (pe_fld (pv 0) rfl) (pe_fld (pe_ix ix_list (pe_fld (pv 0) rfl) (pe_un un_neg pe_int) (fun _ _ => rfl)) rfl) set_list (by intros; rfl))))) (pss_one (ps_if (pt_cmpR op_eq (pv 1) pe_str (nomark _)) (pss_cons (ps_expr (pe_meth (pv 0) (cl_Reader e) (mm_Reader_end_group e) G_Reader_end_group (hr.mono (by decide)) b_Reader_end_group .nil pass0 (pa_cons (pv 2) (pa_cons (pe_op op_sub (pv 2) pe_int) pa_nil))))
      (pss_one (ps_fld (pv 0) pe_str rfl))) pss_nil))))))))))))))))))), ?_⟩)
  · obtain ⟨ks, cm, x, st, s, y, rfl, _⟩ := h
    rfl
  · obtain ⟨ks, cm, x, st, s, y, rfl, R, S, hc, hQ⟩ := h
    have hsz : (3000000 : Nat) < sizeLine := by rw [sizeLine_eq]; decide
    have hc1 : s.groups.length ≤ 3000000 := by unfold RS.count at hc; omega
    have hc2 : s.frames.length ≤ 3000000 := by unfold RS.count at hc; omega
    have hc3 : s.decls.length ≤ 3000000 := by unfold RS.count at hc; omega
    refine ⟨_, rfl, x.r, _, _, _, _, rfl, R.hr, cl_Reader e, na_Reader_told e, rfl, x.aT, _, rfl, .inl (.of R.hT), ?_⟩
    have hat : ((KS s.told).length : Int) = (s.at_ : Int) := by rw [KS_len]; rfl
    rw [hat]
    have hy := S.act_in
    unfold ACTS at hy
    simp only [List.mem_cons, List.not_mem_nil, or_false] at hy
    rcases hy with rfl | rfl | rfl | rfl | rfl | rfl | rfl | rfl | rfl
    · -- @decl
      refine ⟨_, rfl, rfl, _, rfl, ifT (actY rfl) ?_⟩
      refine ⟨_, rfl, x.r, _, _, _, _, rfl, R.hr, cl_Reader e, na_Reader_declarations e, rfl, .inl ⟨rfl, _, .of R.hE⟩, _, rfl, x.aE, _, _, rfl, rfl, R.hE, (by rw [NLs_len]; omega), ?_⟩
      have R1 := R.decls (s.decls ++ [s.at_])
      rw [NLs_app] at R1
      exact hQ x _ R1 rfl (Ext.upd (own_base (by simp)))
    · -- @in
      repeat (refine ⟨_, rfl, rfl, _, rfl, ifF (actN rfl (by decide)) ?_⟩)
      refine ⟨_, rfl, rfl, _, rfl, ifT (actY rfl) ?_⟩
      refine ⟨_, rfl, x.r, _, _, _, _, rfl, R.hr, cl_Reader e, na_Reader_blocks e, rfl, _, _, rfl, rfl, _, _, R.hr, (by show 10 < 1000; decide), ?_⟩
      exact hQ x _ (R.blocks (s.blocks + 1)) rfl (Ext.upd (own_base (by simp)))
    · -- @out
      repeat (refine ⟨_, rfl, rfl, _, rfl, ifF (actN rfl (by decide)) ?_⟩)
      refine ⟨_, rfl, rfl, _, rfl, ifT (actY rfl) ?_⟩
      refine ⟨_, rfl, x.r, _, _, _, _, rfl, R.hr, cl_Reader e, na_Reader_blocks e, rfl, _, _, rfl, rfl, _, _, R.hr, (by show 10 < 1000; decide), ?_⟩
      have R1 := R.blocks (s.blocks - 1)
      have x1 : Ext H (upd H x.r (.ins (He.ga K "Reader") x.dx (putF "blocks" (.int (s.blocks - 1)) (x.fs s)))) x.own x.own := Ext.upd (own_base (by simp))
      generalize hH1 : upd H x.r (.ins (He.ga K "Reader") x.dx (putF "blocks" (.int (s.blocks - 1)) (x.fs s))) = H1 at *
      have h1 := S.out_at
      have hle := S.at_le
      have hcm := S.cml
      have hk : ks[s.at_ - 1]? = some (ks[s.at_ - 1]'(by omega)) := List.getElem?_eq_getElem _
      have hcm2 : cm[s.at_]? = some (cm[s.at_]'(by omega)) := List.getElem?_eq_getElem _
      have fin : ∀ t : List Nat, t = outTell ks cm s.at_ → Q .non (upd H1 x.r (.ins (He.ga K "Reader") x.dx (putF "telling" (.str (strL t)) (x.fs { s with blocks := s.blocks - 1 })))) := fun t ht => by
        subst ht
        exact hQ x _ (R1.telling (outTell ks cm s.at_)) rfl (x1.trans (Ext.upd (own_base (by simp))))
      have e1 : (s.at_ : Int) - 1 = ((s.at_ - 1 : Nat) : Int) := by omega
      have hatK : atI (KS ks) ((s.at_ : Int) - 1) = some (V.str (strL (ks[s.at_ - 1]'(by omega)))) := by
        rw [e1]
        exact atI_nat (KS_get hk)
      have hatC : atI (BL cm) (s.at_ : Int) = some (V.bl (cm[s.at_]'(by omega))) := atI_nat (by unfold BL; rw [List.getElem?_map, hcm2]; rfl)
      refine ⟨_, rfl, x.r, _, _, _, _, rfl, R1.hr, cl_Reader e, na_Reader_kinds e, rfl, _, rfl, _, _, rfl, rfl, x.aK, _, _, _, rfl, rfl, .of R1.hK, hatK, rfl, _, rfl, ?_⟩
      have eb : decide (V.str (strL (ks[s.at_ - 1]'(by omega))) = V.str (Str.ofString "{")) = decide (ks[s.at_ - 1]'(by omega) = signs "{") := by
        apply decide_eq_decide.mpr
        constructor
        · intro h
          exact SX.S_inj (V.str.inj h)
        · intro h
          rw [h]
          rfl
      by_cases c : ks[s.at_ - 1]'(by omega) = signs "{"
      · refine ifT (eb.trans (decide_eq_true c)) ?_
        refine ⟨_, rfl, x.r, _, _, _, _, rfl, R1.hr, cl_Reader e, na_Reader_commented e, rfl, _, rfl, x.aC, _, _, _, rfl, rfl, .of R1.hC, hatC, _, rfl, ?_⟩
        cases d : cm[s.at_]'(by omega) with
        | true =>
          refine ifF rfl ⟨_, rfl, x.r, _, _, _, rfl, R1.hr, cl_Reader e, na_Reader_telling e, (by show 10 < 1000; decide), fin (signs "line") ?_⟩
          unfold outTell
          rw [hcm2, d, if_neg (by intro h; cases h.2)]
        | false =>
          refine ifT rfl ⟨_, rfl, x.r, _, _, _, rfl, R1.hr, cl_Reader e, na_Reader_telling e, (by show 10 < 1000; decide), fin (signs "none") ?_⟩
          unfold outTell
          rw [hcm2, d, hk, c, if_pos ⟨rfl, rfl⟩]
      · refine ifF (eb.trans (decide_eq_false c)) ?_
        refine ifF rfl ⟨_, rfl, x.r, _, _, _, rfl, R1.hr, cl_Reader e, na_Reader_telling e, (by show 10 < 1000; decide), fin (signs "line") ?_⟩
        unfold outTell
        rw [hk, if_neg (by intro h; exact c (Option.some.inj h.1))]
    · -- @start
      repeat (refine ⟨_, rfl, rfl, _, rfl, ifF (actN rfl (by decide)) ?_⟩)
      refine ⟨_, rfl, rfl, _, rfl, ifT (actY rfl) ?_⟩
      refine ⟨_, rfl, x.r, _, _, _, _, rfl, R.hr, cl_Reader e, na_Reader_frames e, rfl, .inl ⟨rfl, _, .of R.hF⟩, _, rfl, ?_⟩
      intro q dq nq nd ne
      refine ⟨q, dq, s.at_, rfl, upd_same, rfl, ?_⟩
      rw [upd_upd]
      have hF := R.hF
      have gq : x.aF ≠ q := fun z => by rw [z, nq] at hF; cases hF
      have gd : x.aF ≠ dq := fun z => by rw [z, nd] at hF; cases hF
      refine ⟨x.aF, _, _, rfl, rfl, (by rw [upd_ne gq, upd_ne gd]; exact hF), (by rw [AR_len, List.length_reverse, R.lf]; omega), ?_⟩
      exact hQ _ _ (R.push nq nd ne) rfl (ext_push R nq nd)
    · -- @may
      repeat (refine ⟨_, rfl, rfl, _, rfl, ifF (actN rfl (by decide)) ?_⟩)
      refine ⟨_, rfl, rfl, _, rfl, ifT (actY rfl) ?_⟩
      have hf : 1 ≤ s.frames.length := List.length_pos_iff.mpr S.may_fr
      refine ⟨_, rfl, x.r, _, _, rfl, R.hr, rfl, ks, cm, x, st, s, 1, rfl, R, hf, by omega, S.grp, fun x' H' R' er ex => ?_⟩
      have hr' := R'.hr
      rw [er] at hr'
      refine ⟨_, rfl, x.r, _, _, _, rfl, hr', cl_Reader e, na_Reader_telling e, (by show 10 < 1000; decide), ?_⟩
      have R2 := R'.telling (signs "may-one")
      rw [er] at R2
      refine hQ x' _ R2 er (ex.trans ?_)
      rw [← er]
      exact Ext.upd (own_base (by simp))
    · -- @end
      repeat (refine ⟨_, rfl, rfl, _, rfl, ifF (actN rfl (by decide)) ?_⟩)
      refine ⟨_, rfl, rfl, _, rfl, ifT (actY rfl) ?_⟩
      have hf : 1 ≤ s.frames.length := List.length_pos_iff.mpr S.end_fr
      refine ⟨_, rfl, x.r, _, _, rfl, R.hr, rfl, _, rfl, _, _, rfl, rfl, _, rfl, _, _, rfl, rfl, ks, cm, x, st, s, _, _, rfl, R, hf, S.grp, fun x' H' R' er ex => ?_⟩
      exact hQ x' _ R' er ex
    · -- @first
      repeat (refine ⟨_, rfl, rfl, _, rfl, ifF (actN rfl (by decide)) ?_⟩)
      refine ⟨_, rfl, rfl, _, rfl, ifT (actY rfl) ?_⟩
      refine ⟨_, rfl, x.r, _, _, _, _, rfl, R.hr, cl_Reader e, na_Reader_frames e, rfl, .inl ⟨rfl, _, .of R.hF⟩, _, rfl, ?_⟩
      intro q dq nq nd ne
      refine ⟨q, dq, s.at_, rfl, upd_same, rfl, ?_⟩
      rw [upd_upd]
      have hF := R.hF
      have gq : x.aF ≠ q := fun z => by rw [z, nq] at hF; cases hF
      have gd : x.aF ≠ dq := fun z => by rw [z, nd] at hF; cases hF
      refine ⟨x.aF, _, _, rfl, rfl, (by rw [upd_ne gq, upd_ne gd]; exact hF), (by rw [AR_len, List.length_reverse, R.lf]; omega), ?_⟩
      have R1 := R.push nq nd ne
      have x1 := ext_push R (l := AR x.fr.reverse ++ [.ref q]) (o := .ins (He.ga K "Frame") dq (frF [] ⟨s.at_, none⟩)) nq nd
      generalize upd (upd (upd H dq (.own q)) q (.ins (He.ga K "Frame") dq (frF [] ⟨s.at_, none⟩))) x.aF (.lst (AR x.fr.reverse ++ [.ref q])) = H1 at *
      have hg1 : ∀ f ∈ s.push.frames, ∀ i, f.group = some i → i < s.push.groups.length := fun f hf i hi => by
        rcases List.mem_cons.mp hf with rfl | m
        · cases hi
        · exact S.grp f m i hi
      refine ⟨_, rfl, x.r, _, _, rfl, R1.hr, rfl, ks, cm, { x with fr := (q, dq) :: x.fr }, st, s.push, 0, rfl, R1, Nat.le_add_left 1 _, (by show s.groups.length ≤ _; omega), hg1, fun x' H' R' er ex => ?_⟩
      replace er : x'.r = x.r := er
      have hr' := R'.hr
      rw [er] at hr'
      refine ⟨_, rfl, x.r, _, _, _, rfl, hr', cl_Reader e, na_Reader_telling e, (by show 10 < 1000; decide), ?_⟩
      have R2 := R'.telling (signs "may-none")
      rw [er] at R2
      refine hQ x' _ R2 er ((x1.trans ex).trans ?_)
      rw [← er]
      exact Ext.upd (own_base (by simp))
    · -- @late
      repeat (refine ⟨_, rfl, rfl, _, rfl, ifF (actN rfl (by decide)) ?_⟩)
      refine ⟨_, rfl, rfl, _, rfl, ifT (actY rfl) ?_⟩
      obtain ⟨f0, r0, hf0, hlt⟩ := S.late_fr
      have hf : 1 ≤ s.frames.length := by rw [hf0]; exact Nat.le_add_left 1 _
      refine ⟨_, rfl, x.r, _, _, rfl, R.hr, rfl, ks, cm, x, st, s, 0, rfl, R, hf, by omega, S.grp, fun x' H' R' er ex => ?_⟩
      have hr' := R'.hr
      rw [er] at hr'
      have m1 := (make_fr 0 S.grp).1
      obtain ⟨f', r', hf'⟩ : ∃ f' r', (s.make 0).frames = f' :: r' := by
        cases q : (s.make 0).frames with
        | nil =>
          rw [q, hf0] at m1
          cases m1
        | cons a t => exact ⟨a, t, rfl⟩
      have hb' : f'.begin = f0.begin := by
        rw [hf', hf0] at m1
        exact (List.cons.inj m1).1
      obtain ⟨p, rp, hx⟩ : ∃ p rp, x'.fr = p :: rp := by
        cases e1 : x'.fr with
        | nil =>
          have := R'.lf
          rw [e1, hf'] at this
          simp only [List.length_nil, List.length_cons] at this
          omega
        | cons p rp => exact ⟨p, rp, rfl⟩
      have hfr := R'.frm (i := 0) (p := p) (g := f') (by rw [hx]; rfl) (by rw [hf']; rfl)
      have hF : H' x'.aF = some (.lst (AR (p :: rp).reverse)) := by rw [← hx]; exact R'.hF
      have hlt2 : f'.begin < (KS (s.make 0).told).length := by
        rw [KS_len, make_told, hb']
        exact hlt
      refine ⟨_, rfl, x.r, _, _, _, _, rfl, hr', cl_Reader e, na_Reader_told e, rfl, _, rfl, x.r, _, _, _, _, rfl, hr', cl_Reader e, na_Reader_frames e, rfl, _, rfl, x'.aF, _, _, _, rfl, rfl, .of hF, AR_last, p.1, _, _, _, _, rfl, hfr, cl_Frame e, na_Frame_begin e, rfl, x'.aT, _, _, _, rfl, rfl, R'.hT, ixN_nat hlt2, ?_⟩
      have R2 := R'.told ((s.make 0).told.set f'.begin (signs "may-none"))
      rw [KS_set] at R2
      rw [act_late hf'] at hQ
      exact hQ x' _ R2 er (ex.trans (Ext.upd (own_base (by simp))))
    · -- @last
      repeat (refine ⟨_, rfl, rfl, _, rfl, ifF (actN rfl (by decide)) ?_⟩)
      refine ⟨_, rfl, rfl, _, rfl, ifT (actY rfl) ?_⟩
      have hf : 1 ≤ s.frames.length := List.length_pos_iff.mpr S.last_fr
      refine ⟨_, rfl, x.r, _, _, rfl, R.hr, rfl, _, rfl, _, rfl, _, _, rfl, rfl, ks, cm, x, st, s, _, _, rfl, R, hf, S.grp, fun x' H' R' er ex => ?_⟩
      have hr' := R'.hr
      rw [er] at hr'
      refine ⟨_, rfl, x.r, _, _, _, rfl, hr', cl_Reader e, na_Reader_telling e, (by show 10 < 1000; decide), ?_⟩
      have R2 := R'.telling (signs "may-none")
      rw [er] at R2
      refine hQ x' _ R2 er (ex.trans ?_)
      rw [← er]
      exact Ext.upd (own_base (by simp))
theorem c_Reader_act (e : Env w K mg) : CalleeM P w K mg base 5 "Reader" "act" ["self", "item"] (spAct K) := by
  obtain ⟨fd, F⟩ := e.d.def_ 28 (d := d_Reader_act) rfl
  exact ⟨fd, ok_Reader_act e F, F.bindsN fun _ _ _ _ _ _ us hl => match us, hl with | [_, _], _ => rfl⟩
end
end La
set_option maxHeartbeats 4000000
namespace La
open PySem PySem.Spec PyProof.Rows L2
theorem IS_app (b st : List Item) : IS (b ++ st) = IS st ++ (b.map SI).reverse.map V.str := by
  unfold IS
  rw [List.reverse_append, List.map_append, ← List.map_reverse, List.map_map]
  rfl
theorem IS_len (st : List Item) : (IS st).length = st.length := by
  unfold IS
  rw [List.length_map, List.length_reverse]
theorem IS_last (i : Item) (st : List Item) : (IS (i :: st))[(IS (i :: st)).length - 1]? = some (.str (SI i)) ∧ (IS (i :: st)).dropLast = IS st := by
  have e : IS (i :: st) = IS st ++ [.str (SI i)] := IS_app [i] st
  rw [e]
  constructor
  · simp
  · simp
theorem rowsAt_len {K : PySem.W.Frag} : ∀ {rs : List Addr} {xs : List RowT}, RowsAt K rs xs → rs.length = xs.length
  | [], [], _ => rfl
  | [], _ :: _, h => h.elim
  | _ :: _, [], h => h.elim
  | _ :: rs, _ :: xs, h => congrArg (· + 1) (rowsAt_len h.2)
theorem rowsAt_get {K : PySem.W.Frag} : ∀ {rs : List Addr} {xs : List RowT} {i : Nat} {r : Addr} {x : RowT}, RowsAt K rs xs → rs[i]? = some r → xs[i]? = some x → RowAt K r x
  | [], [], i, _, _, _, h, _ => by cases h
  | [], _ :: _, _, _, _, h, _, _ => h.elim
  | _ :: _, [], _, _, _, h, _, _ => h.elim
  | _ :: rs, _ :: xs, 0, _, _, h, h1, h2 => by cases h1; cases h2; exact h.1
  | _ :: rs, _ :: xs, i + 1, _, _, h, h1, h2 => rowsAt_get h.2 (by simpa using h1) (by simpa using h2)
section
variable {P : Program} {w : World} {K : PySem.W.Frag} {mg : Str → Option Value} {base : Heap} {f : Addr} {fd : FuncData}
/-! unfold -/
def spUnfold (K : PySem.W.Frag) : Sp := fun vs H Q _ => ∃ (ks : List (List Nat)) (cm : List Bool) (x : RX) (st : List Item) (s : RS) (y : String) (rows : List Row), vs = [.ref x.r, .str (SI (.form y))] ∧ RA K ks cm x st s H ∧
  forms.lookup y = some rows ∧ st.length ≤ 3000000 ∧
  (∀ b, rowOf (nk ks s) rows = some b → Post K ks cm H x (b ++ st) s Q (.bl true)) ∧ (rowOf (nk ks s) rows = none → Q (.bl false) H)
theorem sc_Reader_unfold : FnScope ["self", "form", "kind", "heads", "body"] ["self", "form"] (defScope s_Reader_unfold) := ⟨rfl, rfl, rfl, by decide +kernel, rfl, by decide +kernel, by decide +kernel⟩
abbrev F_Reader_unfold (K : PySem.W.Frag) (f : Addr) (fd : FuncData) : Prop := FunD K "unfold" "Reader.unfold" (defArgs s_Reader_unfold) (defBody s_Reader_unfold) (defScope s_Reader_unfold) [] [] f fd
theorem ok_Reader_unfold (e : Env w K mg) (F : F_Reader_unfold K f fd) : FnOk P w K mg base CX0 2 f fd ["self", "form"] (spUnfold K) := by
  obtain ⟨fd_Reader_next_kind, G_Reader_next_kind, b_Reader_next_kind⟩ := c_Reader_next_kind (P := P) (w := w) (base := base) e
  have m_FORMS : mg "FORMS" = some (.ref (He.ga K "FORMS")) := e.glo (List.mem_of_getElem? (i := 99) rfl)
  have m_list : mg "list" = none := e.free (List.mem_of_getElem? (i := 106) rfl)
  have m_reversed : mg "reversed" = none := e.free (List.mem_of_getElem? (i := 112) rfl)
  obtain ⟨esF, nF, KF⟩ := e.kf
  refine F.ok sc_Reader_unfold (fun vs H Q E h => ?_) (fun cdv A outer s H vs Q E hr h => ⟨_, PSs.nox
    (pss_cons (ps_set (i := 2) sc_Reader_unfold.nd rfl (Or.inl rfl) (pe_meth0 (pv 0) (cl_Reader e) (mm_Reader_next_kind e) G_Reader_next_kind (hr.mono (by decide)) b_Reader_next_kind .nil pass0))
      (pss_cons (ps_for PassesOwn.never rfl (pi_tup (pe_ix ix_kdict (pe_glob (v := V.ref (He.ga K "FORMS")) rfl m_FORMS rfl) (pv 1) (fun _ _ => rfl))) (pg_tup rfl (pgs_cons (pg_name (i := 3) sc_Reader_unfold.nd rfl (Or.inl rfl)) (pgs_cons (pg_name (i := 4) sc_Reader_unfold.nd rfl (Or.inl rfl)) pgs_nil)))
      (pss_one (ps_if (PW.pt (pw_or (pt_not (pt_truth (pv 3) (fun _ => rfl))) (pw_or1 (pt_cmpR op_in_seq (pv 2) (pv 3) rfl)))) (pss_cons (ps_expr (pe_bm PySem.F.plainAttrs_list PySem.F.slot_list_extend PySem.F.type_list_extend mt_extend (pe_fld (pv 0) rfl) (pa_cons (pe_listRev rfl (by rfl) m_list (by rfl) m_reversed (pe_words (pv 4))) pa_nil)))
      (pss_one (ps_ret pe_bl))) pss_nil)))
      (pss_one (ps_ret pe_bl)))), ?_⟩)
  · obtain ⟨ks, cm, x, st, s, y, rows, rfl, _⟩ := h
    rfl
  · obtain ⟨ks, cm, x, st, s, y, rows, rfl, R, hl, hst, hY, hN⟩ := h
    have hsz : (3001000 : Nat) < sizeLine := by rw [sizeLine_eq]; decide
    obtain ⟨rt, hm, hrl, hrok⟩ := form_row hl
    obtain ⟨fa, rs, hns, hfa, hrs⟩ := forms_ok e.forms hm
    have hlen := rowsAt_len hrs
    refine ⟨_, rfl, x.r, _, _, rfl, R.hr, rfl, ks, cm, x, st, s, rfl, R, ?_⟩
    refine ⟨_, rfl, He.ga K "FORMS", SI (.form y), .ref fa, rfl, rfl, kdct_of KF hns rfl, ?_⟩
    refine ⟨fa, rfl, ⟨_, hfa H⟩, for_tup (K := K) (a := fa) (xs := rs.map V.ref) (fun i σ H' => ∃ z1 z2 : Option V, σ = [some (.ref x.r), some (.str (SI (.form y))), some (.str (strL (nk ks s))), z1, z2] ∧ H' = H ∧ rowOf (nk ks s) rows = rowOf (nk ks s) (rows.drop i))
      ⟨none, none, rfl, rfl, rfl⟩ (fun i σ H' _ _ => hfa H') ?_ ?_⟩
    · rintro i v σ H' hi ⟨z1, z2, rfl, rfl, eq⟩
      obtain ⟨r, hri, rfl⟩ : ∃ r, rs[i]? = some r ∧ v = V.ref r := by
        rw [List.getElem?_map] at hi
        cases e0 : rs[i]? with
        | none => rw [e0] at hi; cases hi
        | some k => rw [e0] at hi; exact ⟨k, rfl, (Option.some.inj hi).symm⟩
      have hi1 : i < rs.length := (List.getElem?_eq_some_iff.mp hri).1
      have hi2 : i < rt.length := by omega
      have hi3 : i < rows.length := by omega
      obtain ⟨hh, ha1, ha2⟩ := rowsAt_get hrs hri (List.getElem?_eq_getElem hi2)
      have hz : (rt[i], rows[i]) ∈ rt.zip rows := by
        have : (rt.zip rows)[i]? = some (rt[i], rows[i]) := by
          rw [List.getElem?_zip_eq_some]
          exact ⟨List.getElem?_eq_getElem hi2, List.getElem?_eq_getElem hi3⟩
        exact List.mem_of_getElem? this
      obtain ⟨hok1, hok3⟩ := He.ba (show (decide (rt[i].1 = rows[i].1.map fun h => strL (signs h)) && decide (Txt.words rt[i].2 = rows[i].2.map SI) && decide (rt[i].2.length + 2 ≤ 1000)) = true from hrok _ hz)
      obtain ⟨hok1, hok2⟩ := He.ba hok1
      replace hok1 := of_decide_eq_true hok1
      replace hok2 := of_decide_eq_true hok2
      replace hok3 := of_decide_eq_true hok3
      have hheads : rt[i].1.map V.str = (rows[i].1.map signs).map fun l => V.str (strL l) := by
        rw [hok1, List.map_map, List.map_map]
        rfl
      have ha2' : ∀ H, SqT K H hh ((rows[i].1.map signs).map fun l => V.str (strL l)) := fun H => hheads ▸ ha2 H
      have hdrop : rows.drop i = rows[i] :: rows.drop (i + 1) := List.drop_eq_getElem_cons hi3
      have hrow : rowOf (nk ks s) (rows[i] :: rows.drop (i + 1)) = if rows[i].1 = [] ∨ nk ks s ∈ rows[i].1.map signs then some rows[i].2 else rowOf (nk ks s) (rows.drop (i + 1)) := rfl
      rw [hdrop, hrow] at eq
      refine ⟨r, _, rfl, ha1 H', rfl, _, _, rfl, _, _, rfl, rfl, ?_⟩
      refine if_by (decide (rows[i].1 = [] ∨ nk ks s ∈ rows[i].1.map signs)) (fun Q2 q2 => ?_) (fun hb => ?_) (fun hb => ?_)
      · refine ⟨_, rfl, _, .inr (.inl ⟨_, ha2' H', rfl⟩), ?_⟩
        by_cases c : rows[i].1 = []
        · rw [c]
          refine ifT rfl ?_
          rw [decide_eq_true (.inl c)] at q2
          exact q2
        · have c2 : ((rows[i].1.map signs).map fun l => V.str (strL l)).isEmpty = false := by
            rw [List.isEmpty_eq_false_iff]
            intro z
            exact c (List.map_eq_nil_iff.mp (List.map_eq_nil_iff.mp z))
          refine ifF (by rw [c2]; rfl) ?_
          refine ⟨_, rfl, _, rfl, _, _, rfl, .inr (ha2' H'), rfl, flat_strs _, _, rfl, ?_⟩
          rw [in_strs]
          by_cases d : nk ks s ∈ rows[i].1.map signs
          · rw [decide_eq_true (.inr d)] at q2
            rw [decide_eq_true d]
            exact q2
          · rw [decide_eq_false (fun h => h.elim c d)] at q2
            rw [decide_eq_false d]
            exact q2
      · rw [if_pos (of_decide_eq_true hb)] at eq
        have k1 := hY _ eq
        refine ⟨_, rfl, x.r, _, _, _, _, rfl, R.hr, cl_Reader e, na_Reader_awaited e, rfl, .inl ⟨rfl, _, .of R.hA⟩, _, rfl, ⟨_, rfl⟩, _, rfl, rfl, (by omega), fun p hp => ?_⟩
        have hp1 : SqL K (upd H' p (.lst ((Txt.words rt[i].2).map V.str))) p ((Txt.words rt[i].2).map V.str) := .of upd_same
        refine ⟨p, _, rfl, hp1, fun q hq => ?_⟩
        rw [← List.map_reverse]
        have s1 := same_upd (o := .lst ((Txt.words rt[i].2).map V.str)) hp
        have s2 := same_upd (o := .lst ((Txt.words rt[i].2).reverse.map V.str)) hq
        have s12 := s1.trans s2
        have hwl : (Txt.words rt[i].2).length ≤ 1000 := by
          have := L2.words_le rt[i].2
          omega
        refine ⟨x.aA, q, _, _, rfl, rfl, s12 _ _ R.hA, upd_same, ?_, ?_⟩
        · rw [IS_len, List.length_map, List.length_reverse]
          omega
        · have R1 : RA K ks cm x st s _ := ⟨R.pts.same s12, R.lg, R.lf⟩
          have R2 := R1.awaited (rows[i].2 ++ st)
          rw [IS_app, ← hok2] at R2
          exact k1 x _ R2 rfl ((Ext.same s12).trans (Ext.upd (own_base (x := x) (by simp))))
      · rw [if_neg (of_decide_eq_false hb)] at eq
        exact ⟨_, _, rfl, rfl, eq⟩
    · rintro σ H' ⟨z1, z2, rfl, rfl, eq⟩
      rw [List.length_map, List.drop_eq_nil_of_le (by omega)] at eq
      exact hN eq
theorem c_Reader_unfold (e : Env w K mg) : CalleeM P w K mg base 2 "Reader" "unfold" ["self", "form"] (spUnfold K) := by
  obtain ⟨fd, F⟩ := e.d.def_ 26 (d := d_Reader_unfold) rfl
  exact ⟨fd, ok_Reader_unfold e F, F.bindsN fun _ _ _ _ _ _ us hl => match us, hl with | [_, _], _ => rfl⟩
end
end La
set_option maxHeartbeats 4000000
namespace La
open PySem PySem.Spec PyProof.Rows L2
theorem IS_ne (i : Item) (st : List Item) : (!(IS (i :: st)).isEmpty) = true := by
  have e : IS (i :: st) = IS st ++ [.str (SI i)] := IS_app [i] st
  rw [e]
  simp
theorem noForm_of {st : List Item} {i : Item} (h : Known (i :: st)) (hf : ∀ y, i ≠ .form y) : SI i ∈ noForm := by
  have t := List.all_eq_true.mp plain_all i (h i List.mem_cons_self)
  cases i with
  | form y => exact absurd rfl (hf y)
  | _ => exact of_decide_eq_true t
theorem noTold_of {st : List Item} {i : Item} (h : Known (i :: st)) (hf : ∀ y, i ≠ .form y) (hg : ∀ y, i ≠ .tell y) : SI i ∈ noTold := by
  have t := List.all_eq_true.mp tell_all i (h i List.mem_cons_self)
  cases i with
  | form y => exact absurd rfl (hf y)
  | tell y => exact absurd rfl (hg y)
  | _ => exact of_decide_eq_true t
theorem tell_of {st : List Item} {y : String} (h : Known (.tell y :: st)) : (SI (.tell y), strL (toldOf y)) ∈ toldT := of_decide_eq_true (List.all_eq_true.mp tell_all _ (h _ List.mem_cons_self))
theorem at_of_act {st : List Item} {y : String} (h : Known (.act y :: st)) : Txt.startswith (SI (.act y)) "@" = true := List.all_eq_true.mp at_all _ (h _ List.mem_cons_self)
theorem at_of_tok {st : List Item} {y : String} (h : Known (.tok y :: st)) : Txt.startswith (SI (.tok y)) "@" = false ∧ SI (.tok y) ≠ "!" := by
  obtain ⟨h1, h2⟩ := He.ba (show (!(Txt.startswith (SI (.tok y)) "@") && decide (SI (.tok y) ≠ "!")) = true from List.all_eq_true.mp at_all _ (h _ List.mem_cons_self))
  exact ⟨by simpa using h1, of_decide_eq_true h2⟩
theorem at_of_any {st : List Item} (h : Known (.any :: st)) : Txt.startswith (SI .any) "@" = false := by
  have h1 : (!(Txt.startswith (SI .any) "@")) = true := List.all_eq_true.mp at_all _ (h _ List.mem_cons_self)
  simpa using h1
/-- the reader's own objects while they are made -/
structure RI (K : PySem.W.Frag) (H : Hp) (a dx aK aC : Addr) (fs : List (Str × V)) (l : List (Addr × HO)) (G : Hp) : Prop where
  pts : Pts G ((a, .ins (He.ga K "Reader") dx fs) :: l)
  keep : ∀ b o, H b = some o → b ≠ a → G b = some o
  new : ∀ y ∈ l, y.1 = aK ∨ y.1 = aC ∨ H y.1 = none
section
variable {K : PySem.W.Frag} {H G : Hp} {a dx aK aC : Addr} {fs : List (Str × V)} {l : List (Addr × HO)}
theorem RI.self (h : RI K H a dx aK aC fs l G) : G a = some (.ins (He.ga K "Reader") dx fs) := h.pts.2 _ List.mem_cons_self
theorem RI.ne (h : RI K H a dx aK aC fs l G) {p : Addr} (n : G p = none) : a ≠ p := fun z => by have := h.self; rw [z, n] at this; cases this
theorem RI.get (h : RI K H a dx aK aC fs l G) {p : Addr} {o : HO} (n : G p = none) : L2.upd G p o a = some (.ins (He.ga K "Reader") dx fs) := (upd_ne (h.ne n)).trans h.self
theorem RI.own (h : RI K H a dx aK aC fs l G) (fs' : List (Str × V)) : RI K H a dx aK aC fs' l (L2.upd G a (.ins (He.ga K "Reader") dx fs')) :=
  ⟨h.pts.set 0 rfl, fun b o hb hn => (upd_ne hn).trans (h.keep b o hb hn), h.new⟩
theorem RI.step (h : RI K H a dx aK aC fs l G) {p : Addr} {o : HO} (n : G p = none) (fs' : List (Str × V)) : RI K H a dx aK aC fs' (l ++ [(p, o)]) (L2.upd (L2.upd G p o) a (.ins (He.ga K "Reader") dx fs')) := by
  have hp : p ∉ ((a, HO.ins (He.ga K "Reader") dx fs) :: l).map (·.1) := h.pts.new n
  have h1 : Pts (L2.upd G p o) ((a, .ins (He.ga K "Reader") dx fs) :: (l ++ [(p, o)])) := by
    have h2 := (h.pts.same (same_upd (o := o) n)).cons (p := p) (o := o) upd_same hp
    refine h2.perm ?_
    exact (List.perm_append_singleton (p, o) ((a, HO.ins (He.ga K "Reader") dx fs) :: l)).symm
  have h3 : RI K H a dx aK aC fs (l ++ [(p, o)]) (L2.upd G p o) := by
    refine ⟨h1, fun b o' hb hn => ?_, fun y hy => ?_⟩
    · have hb2 := h.keep b o' hb hn
      rw [upd_ne (fun z => by rw [z, n] at hb2; cases hb2)]
      exact hb2
    · rcases List.mem_append.mp hy with m | m
      · exact h.new y m
      · rw [List.mem_singleton.mp m]
        refine .inr (.inr ?_)
        show H p = none
        cases e : H p with
        | none => rfl
        | some z =>
          have := h.keep p z e (Ne.symm (h.ne n))
          rw [n] at this
          cases this
  exact h3.own fs'
end
section
variable {P : Program} {w : World} {K : PySem.W.Frag} {mg : Str → Option Value} {base : Heap} {f : Addr} {fd : FuncData}
/-! read -/
def spRead (K : PySem.W.Frag) : Sp := fun vs H Q _ => ∃ (ks : List (List Nat)) (cm : List Bool) (x : RX) (n : Nat) (ok : Bool) (s' : RS), vs = [.ref x.r] ∧ RA K ks cm x [.form "Program"] .first H ∧
  cm.length = ks.length + 1 ∧ ks.length ≤ 4096 ∧ runX ks cm n [.form "Program"] .first = some (ok, s') ∧
  ∀ x' H' st', RA K ks cm x' st' s' H' → x'.r = x.r → Ext H H' x.own x'.own → Q (.bl ok) H'
theorem sc_Reader_read : FnScope ["self", "item", "fit"] ["self"] (defScope s_Reader_read) := ⟨rfl, rfl, rfl, by decide +kernel, rfl, by decide +kernel, by decide +kernel⟩
abbrev F_Reader_read (K : PySem.W.Frag) (f : Addr) (fd : FuncData) : Prop := FunD K "read" "Reader.read" (defArgs s_Reader_read) (defBody s_Reader_read) (defScope s_Reader_read) [] [] f fd
theorem ok_Reader_read (e : Env w K mg) (F : F_Reader_read K f fd) : FnOk P w K mg base CX0 6 f fd ["self"] (spRead K) := by
  obtain ⟨fd_Reader_unfold, G_Reader_unfold, b_Reader_unfold⟩ := c_Reader_unfold (P := P) (w := w) (base := base) e
  obtain ⟨fd_Reader_act, G_Reader_act, b_Reader_act⟩ := c_Reader_act (P := P) (w := w) (base := base) e
  obtain ⟨fd_Reader_take, G_Reader_take, b_Reader_take⟩ := c_Reader_take (P := P) (w := w) (base := base) e
  have m_FORMS : mg "FORMS" = some (.ref (He.ga K "FORMS")) := e.glo (List.mem_of_getElem? (i := 99) rfl)
  have m_TOLD : mg "TOLD" = some (.ref (He.ga K "TOLD")) := e.glo (List.mem_of_getElem? (i := 98) rfl)
  obtain ⟨esF, nF, KF⟩ := e.kf
  obtain ⟨esT, nT, KT⟩ := e.kt
  refine F.ok sc_Reader_read (fun vs H Q E h => ?_) (fun cdv A outer s H vs Q E hr h => ⟨_, PSs.nox
    (pss_cons (ps_while PassesOwn.never (pt_truth (pe_fld (pv 0) rfl) (fun _ => rfl)) (pss_cons (ps_set (i := 1) sc_Reader_read.nd rfl (Or.inl rfl) (pe_bm0 PySem.F.plainAttrs_list PySem.F.slot_list_pop PySem.F.type_list_pop mt_pop (pe_fld (pv 0) rfl)))
      (pss_cons (ps_if (pt_cmpR (op_in_kd KF) (pv 1) (pe_glob (v := V.ref (He.ga K "FORMS")) rfl m_FORMS rfl) rfl) (pss_one (ps_set (i := 2) sc_Reader_read.nd rfl (Or.inl rfl) (pe_meth (pv 0) (cl_Reader e) (mm_Reader_unfold e) G_Reader_unfold (hr.mono (by decide)) b_Reader_unfold .nil pass0 (pa_cons (pv 1) pa_nil)))) (pss_one (ps_if (pt_cmpR (op_in_kd KT) (pv 1) (pe_glob (v := V.ref (He.ga K "TOLD")) rfl m_TOLD rfl) rfl) (pss_cons (ps_fld (pv 0) (pe_ix ix_kdict (pe_glob (v := V.ref (He.ga K "TOLD")) rfl m_TOLD rfl) (pv 1) (fun _ _ => rfl)) rfl)
      (pss_one (ps_set (i := 2) sc_Reader_read.nd rfl (Or.inl rfl) pe_bl))) (pss_one (ps_if (pt_val (pe_m1 PySem.F.slot_str_startswith PySem.F.type_str_startswith mt_startswith (pv 1) pe_str)) (pss_cons (ps_expr (pe_meth (pv 0) (cl_Reader e) (mm_Reader_act e) G_Reader_act (hr.mono (by decide)) b_Reader_act .nil pass0 (pa_cons (pv 1) pa_nil)))
      (pss_one (ps_set (i := 2) sc_Reader_read.nd rfl (Or.inl rfl) pe_bl))) (pss_one (ps_set (i := 2) sc_Reader_read.nd rfl (Or.inl rfl) (pe_meth (pv 0) (cl_Reader e) (mm_Reader_take e) G_Reader_take (hr.mono (by decide)) b_Reader_take .nil pass0 (pa_cons (pv 1) pa_nil)))))))))
      (pss_one (ps_if (pt_not (pt_val (pv 2))) (pss_one (ps_ret pe_bl)) pss_nil)))))
      (pss_one (ps_ret pe_bl))), ?_⟩)
  · obtain ⟨ks, cm, x, n, ok, s', rfl, _⟩ := h
    rfl
  · obtain ⟨ks, cm, x0, n, ok, s', rfl, R0, hcm, hks, hrun, hQ⟩ := h
    refine ⟨fun m σ H' => ∃ (x : RX) (st : List Item) (s : RS) (z1 z2 : Option V), σ = [some (.ref x.r), z1, z2] ∧ RA K ks cm x st s H' ∧ x.r = x0.r ∧ Ext H H' x0.own x.own ∧ Safe ks cm st s ∧ Fits st s ∧ runX ks cm m st s = some (ok, s'),
      ⟨n, x0, _, _, none, none, rfl, R0, rfl, Ext.refl _ _, Safe.start hcm, Fits.start, hrun⟩, ?_⟩
    rintro m σ H' ⟨x, st, s, z1, z2, rfl, R, er, ex, S, Ft, hrun⟩
    obtain ⟨m, rfl⟩ : ∃ m0, m = m0 + 1 := by
      cases m with
      | zero => cases hrun
      | succ m => exact ⟨m, rfl⟩
    have hbnd := Ft.bnd.len
    have hat := S.at_le
    refine ⟨_, rfl, x.r, _, _, _, _, rfl, R.hr, cl_Reader e, na_Reader_awaited e, rfl, _, .inl ⟨_, .of R.hA, rfl⟩, ?_⟩
    cases st with
    | nil =>
      refine ifF rfl ?_
      have h0 : some (true, s) = some (ok, s') := hrun
      cases h0
      exact hQ x H' [] R er ex
    | cons i st =>
      refine ifT (IS_ne i st) ⟨_, fun _ _ h => h, ?_⟩
      obtain ⟨il1, il2⟩ := IS_last i st
      refine ⟨_, rfl, x.r, _, _, _, _, rfl, R.hr, cl_Reader e, na_Reader_awaited e, rfl, .inl ⟨rfl, _, .of R.hA⟩, x.aA, _, _, rfl, rfl, R.hA, il1, ?_⟩
      have R1 := R.awaited st
      rw [il2]
      have x1 : Ext H (upd H' x.aA (.lst (IS st))) x0.own x.own := ex.trans (Ext.upd (own_base (by simp)))
      generalize upd H' x.aA (.lst (IS st)) = H1 at *
      rw [List.length_cons] at hbnd
      have hrun2 : (match stepX ks cm (i :: st) s with
        | .done s => some (true, s)
        | .fail s => some (false, s)
        | .go st s => runX ks cm m st s) = some (ok, s') := hrun
      -- what a step that goes on leaves
      have next : ∀ (st2 : List Item) (s2 : RS) (x2 : RX) (H2 : Hp) (u1 u2 : Option V), stepX ks cm (i :: st) s = .go st2 s2 → RA K ks cm x2 st2 s2 H2 → x2.r = x.r → Ext H1 H2 x.own x2.own →
          ∃ m', m' < m + 1 ∧ ∃ (x : RX) (st : List Item) (s : RS) (z1 z2 : Option V), [some (V.ref x2.r), u1, u2] = [some (.ref x.r), z1, z2] ∧ RA K ks cm x st s H2 ∧ x.r = x0.r ∧ Ext H H2 x0.own x.own ∧ Safe ks cm st s ∧ Fits st s ∧ runX ks cm m' st s = some (ok, s') := by
        intro st2 s2 x2 H2 u1 u2 hs R2 er2 ex2
        rw [hs] at hrun2
        exact ⟨m, Nat.lt_succ_self m, x2, st2, s2, u1, u2, rfl, R2, er2.trans er, x1.trans ex2, S.go hs, Ft.go hs, hrun2⟩
      cases i with
      | form y =>
        have hfs := S.form_some
        obtain ⟨rows, hl⟩ := Option.isSome_iff_exists.mp hfs
        obtain ⟨rt, hm, _, _⟩ := form_row hl
        obtain ⟨fa, rs, hns, _, _⟩ := forms_ok e.forms hm
        refine ⟨_, rfl, SI (.form y), _, rfl, rfl, hns, _, rfl, ifT rfl ?_⟩
        refine ⟨_, rfl, x.r, _, _, rfl, R1.hr, rfl, _, rfl, ks, cm, x, st, s, y, rows, rfl, R1, hl, by omega, fun b hb x' H2 R2 er2 ex2 => ?_, fun hb => ?_⟩
        · have hs : stepX ks cm (.form y :: st) s = .go (b ++ st) s := by
            rw [stepX_form, hl]
            show (match rowOf (nk ks s) rows with | some b => OutX.go (b ++ st) s | none => .fail s) = _
            rw [hb]
          refine ⟨_, rfl, _, rfl, ifF rfl ?_⟩
          rw [← er2]
          exact next _ _ x' H2 _ _ hs R2 er2 ex2
        · have hs : stepX ks cm (.form y :: st) s = .fail s := by
            rw [stepX_form, hl]
            show (match rowOf (nk ks s) rows with | some b => OutX.go (b ++ st) s | none => .fail s) = _
            rw [hb]
          rw [hs] at hrun2
          cases hrun2
          refine ⟨_, rfl, _, rfl, ifT rfl ?_⟩
          exact hQ x H1 st R1 er x1
      | tell y =>
        have n1 := none_ok e.noForm (noForm_of Ft.known (by intro y h; cases h))
        obtain ⟨t, n2⟩ := told_ok e.told (tell_of Ft.known)
        refine ⟨_, rfl, SI (.tell y), _, rfl, rfl, n1, _, rfl, ifF rfl ?_⟩
        refine ⟨_, rfl, SI (.tell y), _, rfl, rfl, n2, _, rfl, ifT rfl ?_⟩
        refine ⟨_, rfl, He.ga K "TOLD", SI (.tell y), _, rfl, rfl, kdct_of (v := .str (strL (toldOf y))) KT n2 ⟨t, rfl⟩, ?_⟩
        refine ⟨_, rfl, x.r, _, _, _, rfl, R1.hr, cl_Reader e, na_Reader_telling e, (by show 10 < 1000; decide), ?_⟩
        refine ⟨_, rfl, _, rfl, ifF rfl ?_⟩
        exact next _ _ x _ _ _ rfl (R1.telling (toldOf y)) rfl (Ext.upd (own_base (by simp)))
      | act y =>
        have n1 := none_ok e.noForm (noForm_of Ft.known (by intro y h; cases h))
        have n2 := none_ok e.noTold (noTold_of Ft.known (by intro y h; cases h) (by intro y h; cases h))
        refine ⟨_, rfl, SI (.act y), _, rfl, rfl, n1, _, rfl, ifF rfl ?_⟩
        refine ⟨_, rfl, SI (.act y), _, rfl, rfl, n2, _, rfl, ifF rfl ?_⟩
        refine ⟨_, rfl, ⟨_, rfl⟩, _, _, rfl, rfl, _, rfl, ifT (at_of_act Ft.known) ?_⟩
        refine ⟨_, rfl, x.r, _, _, rfl, R1.hr, rfl, _, rfl, ks, cm, x, st, s, y, rfl, R1, S, by omega, fun x' H2 R2 er2 ex2 => ?_⟩
        refine ⟨_, rfl, _, rfl, ifF rfl ?_⟩
        rw [← er2]
        exact next _ _ x' _ _ _ rfl R2 er2 ex2
      | any =>
        have n1 := none_ok e.noForm (noForm_of Ft.known (by intro y h; cases h))
        have n2 := none_ok e.noTold (noTold_of Ft.known (by intro y h; cases h) (by intro y h; cases h))
        have hlt := S.any_lt
        refine ⟨_, rfl, SI .any, _, rfl, rfl, n1, _, rfl, ifF rfl ?_⟩
        refine ⟨_, rfl, SI .any, _, rfl, rfl, n2, _, rfl, ifF rfl ?_⟩
        refine ⟨_, rfl, ⟨_, rfl⟩, _, _, rfl, rfl, _, rfl, ifF (at_of_any Ft.known) ?_⟩
        have hdep := S.dep
        unfold RS.at_ at hlt
        refine ⟨_, rfl, x.r, _, _, rfl, R1.hr, rfl, _, rfl, ks, cm, x, .any, st, s, rfl, R1, by omega, by omega, .inl rfl, fun _ x' H2 R2 er2 ex2 => ?_, fun h => absurd rfl h⟩
        refine ⟨_, rfl, _, rfl, ifF rfl ?_⟩
        rw [← er2]
        exact next _ _ x' _ _ _ rfl R2 er2 ex2
      | tok y =>
        have n1 := none_ok e.noForm (noForm_of Ft.known (by intro y h; cases h))
        have n2 := none_ok e.noTold (noTold_of Ft.known (by intro y h; cases h) (by intro y h; cases h))
        obtain ⟨a1, a2⟩ := at_of_tok Ft.known
        refine ⟨_, rfl, SI (.tok y), _, rfl, rfl, n1, _, rfl, ifF rfl ?_⟩
        refine ⟨_, rfl, SI (.tok y), _, rfl, rfl, n2, _, rfl, ifF rfl ?_⟩
        refine ⟨_, rfl, ⟨_, rfl⟩, _, _, rfl, rfl, _, rfl, ifF a1 ?_⟩
        have hdep := S.dep
        unfold RS.at_ at hat
        refine ⟨_, rfl, x.r, _, _, rfl, R1.hr, rfl, _, rfl, ks, cm, x, .tok y, st, s, rfl, R1, by omega, by omega, .inr ⟨y, rfl, a2⟩, fun hk x' H2 R2 er2 ex2 => ?_, fun _ hk => ?_⟩
        · have hk2 : nk ks s = signs y := by
            rcases hk with hk | hk
            · cases hk
            · exact (SX.S_inj (show SX.S (signs y) = SX.S (nk ks s) from hk)).symm
          have hs : stepX ks cm (.tok y :: st) s = .go st s.taken := by
            rw [stepX_tok, if_pos hk2]
          refine ⟨_, rfl, _, rfl, ifF rfl ?_⟩
          rw [← er2]
          exact next _ _ x' _ _ _ hs R2 er2 ex2
        · have hk2 : nk ks s ≠ signs y := fun h => hk (by rw [h]; rfl)
          have hs : stepX ks cm (.tok y :: st) s = .fail s := by
            rw [stepX_tok, if_neg hk2]
          rw [hs] at hrun2
          cases hrun2
          refine ⟨_, rfl, _, rfl, ifT rfl ?_⟩
          exact hQ x H1 st R1 er x1
theorem c_Reader_read (e : Env w K mg) : CalleeM P w K mg base 6 "Reader" "read" ["self"] (spRead K) := by
  obtain ⟨fd, F⟩ := e.d.def_ 25 (d := d_Reader_read) rfl
  exact ⟨fd, ok_Reader_read e F, F.bindsN fun _ _ _ _ _ _ us hl => match us, hl with | [_], _ => rfl⟩
/-! __init__ -/
def spReader (K : PySem.W.Frag) : Sp := fun vs H Q _ => ∃ (a dx aK aC : Addr) (ks : List (List Nat)) (cm : List Bool), vs = [.ref a, .ref aK, .ref aC] ∧ H a = some (.ins (He.ga K "Reader") dx []) ∧ H aK = some (.lst (KS ks)) ∧ H aC = some (.lst (BL cm)) ∧ aK ≠ aC ∧
  ∀ x H', RA K ks cm x [.form "Program"] .first H' → x.r = a → x.aK = aK → x.aC = aC → (∀ b o, H b = some o → b ≠ a → H' b = some o) → (∀ b ∈ x.own, b = a ∨ b = aK ∨ b = aC ∨ H b = none) → Q .non H'
theorem sc_Reader___init__ : FnScope ["self", "kinds", "commented"] ["self", "kinds", "commented"] (defScope s_Reader___init__) := ⟨rfl, rfl, rfl, by decide +kernel, rfl, by decide +kernel, by decide +kernel⟩
abbrev F_Reader___init__ (K : PySem.W.Frag) (f : Addr) (fd : FuncData) : Prop := FunD K "__init__" "Reader.__init__" (defArgs s_Reader___init__) (defBody s_Reader___init__) (defScope s_Reader___init__) [] [] f fd
theorem ok_Reader___init__ (e : Env w K mg) (F : F_Reader___init__ K f fd) : FnOk P w K mg base CX0 1 f fd ["self", "kinds", "commented"] (spReader K) := by
  refine F.ok sc_Reader___init__ (fun vs H Q E h => ?_) (fun cdv A outer s H vs Q E hr h => ⟨_, PSs.nox
    (pss_cons (ps_fld (pv 0) (pv 1) rfl)
      (pss_cons (ps_fld (pv 0) (pv 2) rfl)
      (pss_cons (ps_fld (pv 0) (pe_lst pa_nil) rfl)
      (pss_cons (ps_fld (pv 0) (pe_lst pa_nil) rfl)
      (pss_cons (ps_fld (pv 0) (pe_lst pa_nil) rfl)
      (pss_cons (ps_fld (pv 0) (pe_lst pa_nil) rfl)
      (pss_cons (ps_fld (pv 0) (pe_lst (pa_cons pe_str pa_nil)) rfl)
      (pss_cons (ps_fld (pv 0) (pe_lst pa_nil) rfl)
      (pss_cons (ps_fld (pv 0) pe_str rfl)
      (pss_one (ps_fld (pv 0) pe_int rfl))))))))))), ?_⟩)
  · obtain ⟨a, dx, aK, aC, ks, cm, rfl, _⟩ := h
    rfl
  · obtain ⟨a, dx, aK, aC, ks, cm, rfl, ha, hK, hC, hne, hQ⟩ := h
    have aK0 : aK ≠ a := ne_of hK ha (by intro z; cases z)
    have aC0 : aC ≠ a := ne_of hC ha (by intro z; cases z)
    refine ⟨_, rfl, _, rfl, a, _, _, _, rfl, ha, cl_Reader e, na_Reader_kinds e, (by show 0 < 1000; decide), ?_⟩
    refine ⟨_, rfl, _, rfl, a, _, _, _, rfl, upd_same, cl_Reader e, na_Reader_commented e, (by show 1 < 1000; decide), ?_⟩
    rw [upd_upd]
    have I0 : RI K H a dx aK aC [("kinds", .ref aK), ("commented", .ref aC)] [(aK, .lst (KS ks)), (aC, .lst (BL cm))] (upd H a (.ins (He.ga K "Reader") dx [("kinds", .ref aK), ("commented", .ref aC)])) := by
      refine ⟨⟨?_, fun y hy => ?_⟩, fun b o hb hn => by rw [upd_ne hn]; exact hb, fun y hy => ?_⟩
      · simp only [List.map_cons, List.map_nil, List.nodup_cons, List.mem_cons, List.not_mem_nil, or_false, not_or, List.nodup_nil, not_false_eq_true, and_true]
        exact ⟨⟨Ne.symm aK0, Ne.symm aC0⟩, hne⟩
      · rcases List.mem_cons.mp hy with rfl | hy
        · exact upd_same
        · rcases List.mem_cons.mp hy with rfl | hy
          · exact (upd_ne aK0).trans hK
          · rw [List.mem_singleton.mp hy]
            exact (upd_ne aC0).trans hC
      · rcases List.mem_cons.mp hy with rfl | hy
        · exact .inl rfl
        · rw [List.mem_singleton.mp hy]
          exact .inr (.inl rfl)
    have hsz0 : 0 ≤ sizeLine := Nat.zero_le _
    have hsz1 : 1 ≤ sizeLine := by decide
    refine ⟨hsz0, fun p1 n1 => ⟨_, rfl, a, _, _, _, rfl, I0.get n1, cl_Reader e, na_Reader_told e, (by show 2 < 1000; decide), ?_⟩⟩
    have I1 := I0.step (o := .lst []) n1 [("kinds", .ref aK), ("commented", .ref aC), ("told", .ref p1)]
    refine ⟨hsz0, fun p2 n2 => ⟨_, rfl, a, _, _, _, rfl, I1.get n2, cl_Reader e, na_Reader_depths e, (by show 3 < 1000; decide), ?_⟩⟩
    have I2 := I1.step (o := .lst []) n2 [("kinds", .ref aK), ("commented", .ref aC), ("told", .ref p1), ("depths", .ref p2)]
    refine ⟨hsz0, fun p3 n3 => ⟨_, rfl, a, _, _, _, rfl, I2.get n3, cl_Reader e, na_Reader_groups e, (by show 4 < 1000; decide), ?_⟩⟩
    have I3 := I2.step (o := .lst []) n3 [("kinds", .ref aK), ("commented", .ref aC), ("told", .ref p1), ("depths", .ref p2), ("groups", .ref p3)]
    refine ⟨hsz0, fun p4 n4 => ⟨_, rfl, a, _, _, _, rfl, I3.get n4, cl_Reader e, na_Reader_declarations e, (by show 5 < 1000; decide), ?_⟩⟩
    have I4 := I3.step (o := .lst []) n4 [("kinds", .ref aK), ("commented", .ref aC), ("told", .ref p1), ("depths", .ref p2), ("groups", .ref p3), ("declarations", .ref p4)]
    refine ⟨hsz1, fun p5 n5 => ⟨_, rfl, a, _, _, _, rfl, I4.get n5, cl_Reader e, na_Reader_awaited e, (by show 6 < 1000; decide), ?_⟩⟩
    have I5 := I4.step (o := .lst [.str "Program"]) n5 [("kinds", .ref aK), ("commented", .ref aC), ("told", .ref p1), ("depths", .ref p2), ("groups", .ref p3), ("declarations", .ref p4), ("awaited", .ref p5)]
    refine ⟨hsz0, fun p6 n6 => ⟨_, rfl, a, _, _, _, rfl, I5.get n6, cl_Reader e, na_Reader_frames e, (by show 7 < 1000; decide), ?_⟩⟩
    have I6 := I5.step (o := .lst []) n6 [("kinds", .ref aK), ("commented", .ref aC), ("told", .ref p1), ("depths", .ref p2), ("groups", .ref p3), ("declarations", .ref p4), ("awaited", .ref p5), ("frames", .ref p6)]
    refine ⟨_, rfl, a, _, _, _, rfl, I6.self, cl_Reader e, na_Reader_telling e, (by show 8 < 1000; decide), ?_⟩
    have I7 := I6.own [("kinds", .ref aK), ("commented", .ref aC), ("told", .ref p1), ("depths", .ref p2), ("groups", .ref p3), ("declarations", .ref p4), ("awaited", .ref p5), ("frames", .ref p6), ("telling", .str "none")]
    refine ⟨_, rfl, a, _, _, _, rfl, I7.self, cl_Reader e, na_Reader_blocks e, (by show 9 < 1000; decide), ?_⟩
    have I8 := I7.own [("kinds", .ref aK), ("commented", .ref aC), ("told", .ref p1), ("depths", .ref p2), ("groups", .ref p3), ("declarations", .ref p4), ("awaited", .ref p5), ("frames", .ref p6), ("telling", .str "none"), ("blocks", .int 0)]
    refine hQ ⟨a, dx, aK, aC, p1, p2, p3, p4, p5, p6, [], []⟩ _ ⟨?_, rfl, rfl⟩ rfl rfl rfl I8.keep fun b hb => ?_
    · exact I8.pts
    · have hb2 : b ∈ [a, aK, aC, p1, p2, p3, p4, p5, p6] := by
        have : b ∈ [a, aK, aC, p1, p2, p3, p4, p5, p6] ++ [] ++ [] := hb
        simpa using this
      rcases List.mem_cons.mp hb2 with rfl | hb2
      · exact .inl rfl
      · refine .inr ?_
        obtain ⟨y, hy, rfl⟩ : ∃ y ∈ [(aK, HO.lst (KS ks)), (aC, HO.lst (BL cm))] ++ [(p1, .lst [])] ++ [(p2, .lst [])] ++ [(p3, .lst [])] ++ [(p4, .lst [])] ++ [(p5, .lst [.str "Program"])] ++ [(p6, .lst [])], y.1 = b := List.mem_map.mp hb2
        exact I8.new y hy
theorem c_Reader___init__ (e : Env w K mg) : CalleeM P w K mg base 1 "Reader" "__init__" ["self", "kinds", "commented"] (spReader K) := by
  obtain ⟨fd, F⟩ := e.d.def_ 23 (d := d_Reader___init__) rfl
  exact ⟨fd, ok_Reader___init__ e F, F.bindsN fun _ _ _ _ _ _ us hl => match us, hl with | [_, _, _], _ => rfl⟩
end
end La
set_option maxHeartbeats 4000000
/-! No line ends within a text's parts; parts in order; no library. -/
namespace La
open EwTree
def Clear (bs : Bytes) (a b : Nat) : Prop := ∀ t, a ≤ t → t < b → bs[t]? ≠ some 10
theorem Clear.app {bs : Bytes} {a b c : Nat} (h : Clear bs a b) (g : Clear bs b c) : Clear bs a c := fun t h1 h2 => by
  by_cases q : t < b
  · exact h t h1 q
  · exact g t (by omega) h2
theorem Clear.nil {bs : Bytes} {a b : Nat} (h : b ≤ a) : Clear bs a b := fun t h1 h2 => absurd h2 (by omega)
theorem Clear.one {bs : Bytes} {a : Nat} {c : UInt8} (h : bs[a]? = some c) (hc : c ≠ 10) : Clear bs a (a + 1) := fun t h1 h2 => by
  have : t = a := by omega
  subst this
  rw [h]
  intro z
  exact hc (Option.some.inj z)
theorem run_clear {bs : Bytes} {p : UInt8 → Bool} {i : Nat} (hp : p 10 = false) : Clear bs i (runTo p bs i) := fun t h1 h2 z => by
  unfold runTo at h2
  have h3 : ((bs.drop i).takeWhile p)[t - i]? = some 10 := by
    have h4 : t - i < ((bs.drop i).takeWhile p).length := by omega
    have h5 : ((bs.drop i).takeWhile p) <+: bs.drop i := List.takeWhile_prefix p
    rw [List.prefix_iff_eq_take.mp h5, List.getElem?_take_of_lt h4, List.getElem?_drop, show i + (t - i) = t by omega]
    exact z
  have h6 : p 10 = true := by
    have hm := List.mem_of_getElem? h3
    have := List.all_takeWhile (p := p) (l := bs.drop i)
    exact List.all_eq_true.mp this _ hm
  rw [hp] at h6
  cases h6
theorem byteAt_ex {bs : Bytes} {i : Nat} {n : Int} (h : byteAt bs i = n) (h0 : 0 ≤ n) : ∃ c, bs[i]? = some c ∧ (c.toNat : Int) = n := by
  unfold byteAt at h
  split at h
  · rename_i b e
    exact ⟨b, e, h⟩
  · omega
theorem ne10 {c : UInt8} (h : (c.toNat : Int) ≠ 10) : c ≠ 10 := fun z => h (by rw [z]; rfl)
theorem digitAt_ex {bs : Bytes} {i : Nat} (h : digitAt bs i = true) : ∃ c, bs[i]? = some c ∧ sg c = 48 := by
  unfold digitAt at h
  split at h
  · rename_i b e
    exact ⟨b, e, of_decide_eq_true h⟩
  · cases h
theorem sg10 : sg 10 = 63 := rfl
theorem number_clear {bs : Bytes} {i e : Nat} {k : List Nat} (hr : readNumber bs i = .ok k e) : Clear bs i e := by
  unfold readNumber at hr
  dsimp only at hr
  have d10 : inL (signs "0") 10 = false := by decide
  have m10 : inL (signs "aA0_") 10 = false := by decide
  refine (run_clear d10).app (b := runTo (inL (signs "0")) bs i) ?_
  generalize runTo (inL (signs "0")) bs i = whole at hr ⊢
  have h2 : Clear bs whole (if byteAt bs whole = 46 ∧ digitAt bs (whole + 1) = true then runTo (inL (signs "0")) bs (whole + 1) else whole) := by
    by_cases c : byteAt bs whole = 46 ∧ digitAt bs (whole + 1) = true
    · rw [if_pos c]
      obtain ⟨b, hb, hn⟩ := byteAt_ex c.1 (by omega)
      exact (Clear.one hb (ne10 (by omega))).app (run_clear d10)
    · rw [if_neg c]
      exact Clear.nil (Nat.le_refl _)
  refine h2.app ?_
  generalize (if byteAt bs whole = 46 ∧ digitAt bs (whole + 1) = true then runTo (inL (signs "0")) bs (whole + 1) else whole) = broken at hr ⊢
  have h3 : Clear bs broken (expAt bs broken) := by
    unfold expAt
    split
    · exact Clear.nil (Nat.le_refl _)
    · rename_i c
      have c : byteAt bs broken = 101 := by simpa using c
      obtain ⟨b, hb, hn⟩ := byteAt_ex c (by omega)
      have h4 := Clear.one hb (ne10 (by omega))
      split
      · exact h4
      · split
        · rename_i c2
          obtain ⟨b2, hb2, hn2⟩ := byteAt_ex c2.1 (by omega)
          exact h4.app (Clear.one hb2 (ne10 (by omega)))
        · exact Clear.nil (Nat.le_refl _)
  split at hr
  · cases hr
    exact h3.app ((run_clear d10).app (run_clear m10))
  · cases hr
theorem item_clear {bs : Bytes} {p : Nat} {c : UInt8} (h : bs[p]? = some c) (h10 : itemEnd bs p ≠ p) : Clear bs p (itemEnd bs p) := by
  unfold itemEnd at h10 ⊢
  rw [h] at h10 ⊢
  simp only at h10 ⊢
  split at h10
  · rename_i c1
    rw [if_pos c1]
    have q := Clear.one h (by rw [c1]; decide)
    split at h10
    · rename_i c2
      rw [if_pos c2]
      have : ∃ n : Int, byteAt bs (p + 1) = n ∧ n ≠ 10 ∧ 0 ≤ n := by
        rcases c2 with c2 | c2 | c2
        · exact ⟨34, c2, by omega, by omega⟩
        · exact ⟨92, c2, by omega, by omega⟩
        · exact ⟨110, c2, by omega, by omega⟩
      obtain ⟨n, e, n10, n0⟩ := this
      obtain ⟨b, hb, hn⟩ := byteAt_ex e n0
      exact q.app (Clear.one hb (ne10 (by rw [hn]; exact n10)))
    · exact absurd rfl h10
  · rename_i c1
    rw [if_neg c1]
    split at h10
    · rename_i c2
      rw [if_pos c2]
      refine Clear.one h fun z => ?_
      rw [z] at c2
      cases c2
    · exact absurd rfl h10
theorem text_clear {bs : Bytes} {k : List Nat} {e : Nat} : ∀ (f p c : Nat), textAt bs f p c = .ok k e → Clear bs p e
  | 0, p, c, h => by cases h
  | f + 1, p, c, h => by
    unfold textAt at h
    split at h
    · cases h
    · rename_i b hb
      split at h
      · rename_i c1
        cases h
        exact Clear.one hb (by rw [c1]; decide)
      · split at h
        · cases h
        · split at h
          · cases h
          · split at h
            · cases h
            · rename_i c4
              exact (item_clear hb c4).app (text_clear f _ _ h)
theorem sgM_plain : (sgM.all fun p => decide (10 ∉ p.1)) = true := by decide +kernel
theorem slice_clear {bs : Bytes} {i n : Nat} {z : List Nat} (h : sgM.lookup (codes ((bs.take (i + n)).drop i)) = some z) : Clear bs i (i + n) := fun t h1 h2 q => by
  have hm := of_decide_eq_true (List.all_eq_true.mp sgM_plain _ (lookup_mem h))
  refine hm ?_
  have h3 : ((bs.take (i + n)).drop i)[t - i]? = some 10 := by
    rw [List.getElem?_drop, show i + (t - i) = t by omega, List.getElem?_take_of_lt h2]
    exact q
  exact List.mem_map.mpr ⟨10, List.mem_of_getElem? h3, rfl⟩
theorem sign_clear {bs : Bytes} {i e : Nat} {k : List Nat} (hr : readSign bs i = .ok k e) : Clear bs i e := by
  unfold readSign at hr
  split at hr
  · rename_i z e1 e2
    cases hr
    exact slice_clear e1
  · split at hr
    · rename_i z e1 e2
      cases hr
      exact slice_clear e1
    · cases hr
theorem cEnd_clear {bs : Bytes} : ∀ (l : Bytes) (j : Nat), bs.drop j = l → Clear bs j (cEnd j l).2
  | [], j, _ => Clear.nil (Nat.le_refl _)
  | c :: r, j, h => by
    have hc : bs[j]? = some c := by
      have : (bs.drop j)[0]? = some c := by rw [h]; rfl
      rwa [List.getElem?_drop] at this
    unfold cEnd
    split
    · exact Clear.nil (Nat.le_refl _)
    · rename_i c1
      split
      · refine (Clear.one hc c1).app (cEnd_clear r (j + 1) ?_)
        have : bs.drop (j + 1) = (bs.drop j).drop 1 := by rw [List.drop_drop]
        rw [this, h]
        rfl
      · exact Clear.nil (Nat.le_refl _)
theorem Clear.sub {bs : Bytes} {a b c : Nat} (h : Clear bs a b) (hc : c ≤ b) : Clear bs a c := fun t h1 h2 => h t h1 (by omega)
theorem comment_clear {bs : Bytes} {i e : Nat} {k : List Nat} (h : bs[i]? = some 35) (hr : readComment bs i = .ok k e) : Clear bs i e := by
  unfold readComment at hr
  simp only at hr
  split at hr
  · cases hr
    have h1 := cEnd_clear (bs := bs) (bs.drop i) i rfl
    have h2 := (cEnd_bd i (bs.drop i)).1
    have h3 : cBack bs (cEnd i (bs.drop i)).2 ≤ (cEnd i (bs.drop i)).2 := by
      have : ∀ j, cBack bs j ≤ j := by
        intro j
        induction j with
        | zero => exact Nat.le_refl _
        | succ j ih =>
          unfold cBack
          split
          · omega
          · exact Nat.le_refl _
      exact this _
    exact h1.sub h3
  · cases hr
theorem part_clear {bs : Bytes} {i e : Nat} {k : List Nat} (hr : readPart bs i = .ok k e) : Clear bs i e := by
  unfold readPart at hr
  split at hr
  · cases hr
  · rename_i c hc
    split at hr
    · rename_i c1
      rw [c1] at hc
      exact comment_clear hc hr
    · split at hr
      · unfold readWord at hr
        simp only at hr
        have h1 : Clear bs i (runTo (inL (signs "a0_")) bs i) := run_clear (by decide)
        split at hr
        · cases hr
          exact h1
        · split at hr
          · cases hr
            exact h1
          · cases hr
      · split at hr
        · unfold readCode at hr
          simp only at hr
          split at hr
          · cases hr
            exact run_clear (by decide)
          · cases hr
        · split at hr
          · exact number_clear hr
          · split at hr
            · rename_i c5
              exact (Clear.one hc (by rw [c5]; decide)).app (text_clear _ _ _ hr)
            · exact sign_clear hr
/-- **a text's parts**: in order, without line ends -/
def InOrder (bs : Bytes) : Nat → List Part → Prop
  | _, [] => True
  | a, p :: r => a ≤ p.lo ∧ p.lo < p.hi ∧ p.hi ≤ bs.length ∧ Clear bs p.lo p.hi ∧ InOrder bs p.hi r
theorem InOrder.mono {bs : Bytes} {a b : Nat} (h : a ≤ b) : ∀ {ps : List Part}, InOrder bs b ps → InOrder bs a ps
  | [], _ => trivial
  | p :: r, g => ⟨Nat.le_trans h g.1, g.2⟩
theorem scan_order {bs : Bytes} : ∀ (f i : Nat), InOrder bs i (scanAt bs f i).1
  | 0, _ => trivial
  | f + 1, i => by
    cases e : bs[i]? with
    | none =>
      rw [scan_none e]
      trivial
    | some c =>
      by_cases c1 : c.toNat ∈ BLANK
      · rw [scan_blank e c1]
        exact (scan_order f (i + 1)).mono (Nat.le_succ i)
      · cases r : readPart bs i with
        | bad a b =>
          rw [scan_bad e c1 r]
          trivial
        | ok k en =>
          rw [scan_ok e c1 r]
          have hb := readPart_bd r
          exact ⟨Nat.le_refl _, hb.1, hb.2, part_clear r, scan_order f en⟩
theorem parts_order (bs : Bytes) : InOrder bs 0 (scan bs).1 := scan_order _ 0
end La
set_option maxHeartbeats 200000
/-! Gaps between parts, and lines, as total functions; no library. -/
namespace La
open EwTree
def gapLo (ps : List Part) (i : Nat) : Nat := if i = 0 then 0 else (ps[i - 1]?.map (·.hi)).getD 0
def gapHi (bs : Bytes) (ps : List Part) (i : Nat) : Nat := match ps[i]? with
  | some p => p.lo
  | none => bs.length
def gapOf (bs : Bytes) (ps : List Part) (i : Nat) : Bytes := (bs.take (gapHi bs ps i)).drop (gapLo ps i)
def brk (bs : Bytes) (ps : List Part) (i : Nat) : Nat := EwNeat.ends (gapOf bs ps i)
def byIt (bs : Bytes) (ps : List Part) (i : Nat) : Bool := ps[i]?.any isCom && (decide (i = 0) || decide (0 < brk bs ps i))
def partB (bs : Bytes) (p : Part) : Bytes := (bs.take p.hi).drop p.lo
def lineAt (bs : Bytes) (ps : List Part) (i : Nat) : Nat := ((List.range (i + 1)).map (brk bs ps)).sum
def linesL (bs : Bytes) (ps : List Part) : List Nat := (List.range ps.length).map (lineAt bs ps)
theorem line_succ (bs : Bytes) (ps : List Part) (i : Nat) : ((List.range (i + 1)).map (brk bs ps)).sum = ((List.range i).map (brk bs ps)).sum + brk bs ps i := by
  rw [List.range_succ, List.map_append, List.sum_append_nat]
  simp
theorem lines_get {bs : Bytes} {ps : List Part} {i : Nat} (h : i < ps.length) : (linesL bs ps)[i]? = some (lineAt bs ps i) := by
  unfold linesL
  rw [List.getElem?_map, List.getElem?_range h]
  rfl
theorem lines_len (bs : Bytes) (ps : List Part) : (linesL bs ps).length = ps.length := by
  unfold linesL
  rw [List.length_map, List.length_range]
/-! ### parts in order, by their numbers -/
theorem InOrder.get {bs : Bytes} : ∀ {ps : List Part} {a i : Nat} {p : Part}, InOrder bs a ps → ps[i]? = some p → a ≤ p.lo ∧ p.lo < p.hi ∧ p.hi ≤ bs.length ∧ Clear bs p.lo p.hi
  | [], _, _, _, _, h => by cases h
  | q :: r, a, 0, p, h, h1 => by
    cases h1
    exact ⟨h.1, h.2.1, h.2.2.1, h.2.2.2.1⟩
  | q :: r, a, i + 1, p, h, h1 => by
    obtain ⟨h2, h3, h4, h5, h6⟩ := h
    obtain ⟨g1, g2⟩ := InOrder.get (i := i) h6 (by simpa using h1)
    exact ⟨by omega, g2⟩
theorem InOrder.next {bs : Bytes} : ∀ {ps : List Part} {a i j : Nat} {p q : Part}, InOrder bs a ps → ps[i]? = some p → ps[j]? = some q → i < j → p.hi ≤ q.lo
  | [], _, _, _, _, _, _, h, _, _ => by cases h
  | x :: r, a, 0, 0, p, q, h, h1, h2, hij => absurd hij (Nat.lt_irrefl 0)
  | x :: r, a, 0, j + 1, p, q, h, h1, h2, hij => by
    cases h1
    exact (InOrder.get (i := j) h.2.2.2.2 (by simpa using h2)).1
  | x :: r, a, i + 1, 0, p, q, h, h1, h2, hij => absurd hij (Nat.not_lt_zero _)
  | x :: r, a, i + 1, j + 1, p, q, h, h1, h2, hij => InOrder.next (i := i) (j := j) h.2.2.2.2 (by simpa using h1) (by simpa using h2) (by omega)
theorem ends_app (a b : Bytes) : EwNeat.ends (a ++ b) = EwNeat.ends a + EwNeat.ends b := by
  unfold EwNeat.ends
  rw [List.filter_append, List.length_append]
theorem ends_clear {bs : Bytes} {a b : Nat} (h : Clear bs a b) : EwNeat.ends ((bs.take b).drop a) = 0 := by
  unfold EwNeat.ends
  rw [List.length_eq_zero_iff, List.filter_eq_nil_iff]
  intro c hc h2
  have e : c = 10 := by simpa using h2
  subst e
  obtain ⟨t, ht⟩ := List.getElem?_of_mem hc
  rw [List.getElem?_drop] at ht
  have hlt : a + t < b := by
    rcases Nat.lt_or_ge (a + t) b with q | q
    · exact q
    · rw [List.getElem?_eq_none (by rw [List.length_take]; omega)] at ht
      cases ht
  rw [List.getElem?_take_of_lt hlt] at ht
  exact h (a + t) (by omega) hlt ht
theorem take_split {bs : Bytes} {a b : Nat} (h : a ≤ b) : bs.take b = bs.take a ++ (bs.take b).drop a := by
  have e := List.take_append_drop a (bs.take b)
  rw [List.take_take, Nat.min_eq_left h] at e
  exact e.symm
/-- **a part's line** -/
theorem line_is {bs : Bytes} {ps : List Part} (h : InOrder bs 0 ps) : ∀ {i : Nat} {p : Part}, ps[i]? = some p → EwNeat.ends (bs.take p.lo) = lineAt bs ps i
  | 0, p, hp => by
    unfold lineAt
    rw [line_succ]
    have e : brk bs ps 0 = EwNeat.ends (bs.take p.lo) := by
      unfold brk gapOf gapHi gapLo
      rw [hp]
      rfl
    rw [e]
    show _ = 0 + _
    omega
  | i + 1, p, hp => by
    have hi : i < ps.length := by
      have := (List.getElem?_eq_some_iff.mp hp).1
      omega
    have hq : ps[i]? = some ps[i] := List.getElem?_eq_getElem hi
    have ih := line_is h hq
    obtain ⟨_, h2, h3, h4⟩ := h.get hq
    have h5 := h.next hq hp (Nat.lt_succ_self i)
    have e : brk bs ps (i + 1) = EwNeat.ends ((bs.take p.lo).drop ps[i].hi) := by
      unfold brk gapOf gapHi gapLo
      rw [hp, if_neg (Nat.succ_ne_zero i), Nat.add_sub_cancel, hq]
      rfl
    have e3 : EwNeat.ends (bs.take p.lo) = EwNeat.ends (bs.take ps[i].lo) + EwNeat.ends ((bs.take p.lo).drop ps[i].hi) := by
      rw [take_split h5, ends_app, ← take_split h5, take_split (Nat.le_of_lt h2), ends_app, ends_clear h4]
      omega
    unfold lineAt at ih ⊢
    rw [line_succ, ← ih, e, e3]
end La
set_option maxHeartbeats 4000000
/-! programs.py: the small methods. -/
namespace La
open PySem PySem.Spec PyProof.Rows L2
theorem count_ends : ∀ b : Bytes, (b.map fun (c : UInt8) => (c.toNat : Int)).count 10 = EwNeat.ends b
  | [] => rfl
  | c :: r => by
    have ih := count_ends r
    unfold EwNeat.ends at ih ⊢
    rw [List.map_cons, List.count_cons, ih, List.filter_cons]
    have e : ((c.toNat : Int) == 10) = (c == 10) := by
      rw [Bool.eq_iff_iff, beq_iff_eq, beq_iff_eq]
      constructor
      · intro h
        exact UInt8.toNat_inj.mp (by have : (10 : UInt8).toNat = 10 := rfl; omega)
      · intro h
        rw [h]
        rfl
    rw [e]
    cases c == 10 <;> simp
/-! ### lists of lists -/
def LsIn (H : Hp) : List V → List (List V) → Prop
  | [], [] => True
  | v :: r, l :: s => (∃ a, v = .ref a ∧ H a = some (.lst l)) ∧ LsIn H r s
  | _, _ => False
theorem LsIn.same {H H' : Hp} (s : Same H H') : ∀ {vs : List V} {ps : List (List V)}, LsIn H vs ps → LsIn H' vs ps
  | [], [], _ => trivial
  | [], _ :: _, h => h.elim
  | _ :: _, [], h => h.elim
  | v :: r, p :: t, ⟨⟨a, e, h1⟩, h2⟩ => ⟨⟨a, e, s _ _ h1⟩, LsIn.same s h2⟩
theorem LsIn.push {H : Hp} {a : Addr} {l : List V} (h : H a = some (.lst l)) : ∀ {vs : List V} {ps : List (List V)}, LsIn H vs ps → LsIn H (vs ++ [.ref a]) (ps ++ [l])
  | [], [], _ => ⟨⟨a, rfl, h⟩, trivial⟩
  | [], _ :: _, g => g.elim
  | _ :: _, [], g => g.elim
  | u :: r, q :: t, ⟨g1, g2⟩ => ⟨g1, LsIn.push h g2⟩
theorem LsIn.len {H : Hp} : ∀ {vs : List V} {ps : List (List V)}, LsIn H vs ps → vs.length = ps.length
  | [], [], _ => rfl
  | [], _ :: _, h => h.elim
  | _ :: _, [], h => h.elim
  | v :: r, p :: t, h => congrArg (· + 1) (LsIn.len h.2)
/-- kept where something else than D changes -/
theorem LsIn.off {H H' : Hp} {D : Addr} {acc : List V} (k : ∀ b, b ≠ D → H' b = H b) : ∀ {vs : List V} {ps : List (List V)}, (∀ v ∈ vs, v ≠ .ref D) → LsIn H vs ps → LsIn H' vs ps
  | [], [], _, _ => trivial
  | [], _ :: _, _, h => h.elim
  | _ :: _, [], _, h => h.elim
  | v :: r, p :: t, n, ⟨⟨a, e, h1⟩, h2⟩ => ⟨⟨a, e, by rw [k a (fun z => n v List.mem_cons_self (by rw [e, z]))]; exact h1⟩, LsIn.off (acc := acc) k (fun v hv => n v (List.mem_cons_of_mem _ hv)) h2⟩
theorem PartsIn.get {H : Hp} : ∀ {vs : List V} {ps : List Part} {i : Nat} {p : Part}, PartsIn H vs ps → ps[i]? = some p → ∃ v, vs[i]? = some v ∧ PartAt H v p
  | [], [], _, _, _, h => by cases h
  | [], _ :: _, _, _, h, _ => h.elim
  | _ :: _, [], _, _, h, _ => h.elim
  | v :: r, p :: t, 0, _, h, h1 => by cases h1; exact ⟨v, rfl, h.1⟩
  | v :: r, p :: t, i + 1, _, h, h1 => PartsIn.get (i := i) h.2 (by simpa using h1)
theorem PartsIn.get2 {H : Hp} {vs : List V} {ps : List Part} {i : Nat} {v : V} (h : PartsIn H vs ps) (hv : vs[i]? = some v) : ∃ p, ps[i]? = some p ∧ PartAt H v p := by
  have h1 : i < ps.length := by rw [← h.len]; exact (List.getElem?_eq_some_iff.mp hv).1
  obtain ⟨v', e1, e2⟩ := h.get (List.getElem?_eq_getElem h1)
  rw [hv] at e1
  cases e1
  exact ⟨_, List.getElem?_eq_getElem h1, e2⟩
/-! ### a program's text and parts, to be read -/
def pF (t aR aP aT aC : Addr) (rv : V) : List (Str × V) := [("text", .ref t), ("refused", .ref aR), ("parts", .ref aP), ("tokens", .ref aT), ("comments", .ref aC), ("reader", rv)]
def PV (K : PySem.W.Frag) (H : Hp) (p a : Addr) (bs : Bytes) (ps : List Part) : Prop := ∃ dx aR l aT aC rv us, H p = some (.ins (He.ga K "Program") dx (pF a aR l aT aC rv)) ∧ SqL K H a (B bs) ∧ H l = some (.lst us) ∧ PartsIn H us ps
theorem PV.same {K : PySem.W.Frag} {H H' : Hp} {p a : Addr} {bs : Bytes} {ps : List Part} (h : PV K H p a bs ps) (s : Same H H') : PV K H' p a bs ps := by
  obtain ⟨dx, aR, l, aT, aC, rv, us, h1, h4, h5, h6⟩ := h
  exact ⟨dx, aR, l, aT, aC, rv, us, s _ _ h1, s.seq h4, s _ _ h5, h6.same s⟩
section
variable {P : Program} {w : World} {K : PySem.W.Frag} {mg : Str → Option Value} {base : Heap} {f : Addr} {fd : FuncData}
/-! is_comment -/
def spIsCom (K : PySem.W.Frag) : Sp := fun vs H Q _ => ∃ (p a : Addr) (bs : Bytes) (ps : List Part) (i : Nat) (x : Part), vs = [.ref p, .int (i : Int)] ∧ PV K H p a bs ps ∧ ps[i]? = some x ∧ Q (.bl (isCom x)) H
theorem sc_Program_is_comment : FnScope ["self", "index"] ["self", "index"] (defScope s_Program_is_comment) := ⟨rfl, rfl, rfl, by decide +kernel, rfl, by decide +kernel, by decide +kernel⟩
abbrev F_Program_is_comment (K : PySem.W.Frag) (f : Addr) (fd : FuncData) : Prop := FunD K "is_comment" "Program.is_comment" (defArgs s_Program_is_comment) (defBody s_Program_is_comment) (defScope s_Program_is_comment) [] [] f fd
theorem ok_Program_is_comment (e : Env w K mg) (F : F_Program_is_comment K f fd) : FnOk P w K mg base CX0 1 f fd ["self", "index"] (spIsCom K) := by
  obtain ⟨t_COMMENT, m_COMMENT⟩ := e.str (x := "COMMENT") (z := "#") (List.mem_of_getElem? (i := 87) rfl)
  refine F.ok sc_Program_is_comment (fun vs H Q E h => ?_) (fun cdv A outer s H vs Q E hr h => ⟨_, PSs.nox
    (pss_one (ps_ret (pe_cmpR op_eq (pe_ix ix_tup (pe_ix ix_list (pe_fld (pv 0) rfl) (pv 1) (fun _ _ => rfl)) pe_int (fun _ _ => rfl)) (pe_glob (v := V.str "#") rfl m_COMMENT ⟨_, rfl⟩) (nomark _)))), ?_⟩)
  · obtain ⟨p, a, bs, ps, i, x, rfl, _⟩ := h
    rfl
  · obtain ⟨p, a, bs, ps, i, x, rfl, ⟨dx, aR, l, aT, aC, rv, us, h1, h4, h5, h6⟩, hx, hQ⟩ := h
    obtain ⟨v, hv, b, rfl, hb⟩ := h6.get hx
    refine ⟨_, rfl, p, _, _, _, _, rfl, h1, cl_Program e, na_Program_parts e, rfl, _, rfl, l, _, _, _, rfl, rfl, .of h5, atI_nat hv, b, _, 0, _, rfl, rfl, .of hb, rfl, rfl, ?_⟩
    have eb : decide (V.str (strL x.kind) = V.str "#") = isCom x := by
      unfold isCom
      apply decide_eq_decide.mpr
      constructor
      · intro h
        exact SX.S_inj (V.str.inj h)
      · intro h
        rw [h]
        rfl
    rw [eb]
    exact hQ
theorem c_Program_is_comment (e : Env w K mg) : CalleeM P w K mg base 1 "Program" "is_comment" ["self", "index"] (spIsCom K) := by
  obtain ⟨fd, F⟩ := e.d.def_ 33 (d := d_Program_is_comment) rfl
  exact ⟨fd, ok_Program_is_comment e F, F.bindsN fun _ _ _ _ _ _ us hl => match us, hl with | [_, _], _ => rfl⟩
/-! gap_begin -/
def spGapLo (K : PySem.W.Frag) : Sp := fun vs H Q _ => ∃ (p a : Addr) (bs : Bytes) (ps : List Part) (i : Nat), vs = [.ref p, .int (i : Int)] ∧ PV K H p a bs ps ∧ i ≤ ps.length ∧ Q (.int (gapLo ps i : Int)) H
theorem sc_Program_gap_begin : FnScope ["self", "index"] ["self", "index"] (defScope s_Program_gap_begin) := ⟨rfl, rfl, rfl, by decide +kernel, rfl, by decide +kernel, by decide +kernel⟩
abbrev F_Program_gap_begin (K : PySem.W.Frag) (f : Addr) (fd : FuncData) : Prop := FunD K "gap_begin" "Program.gap_begin" (defArgs s_Program_gap_begin) (defBody s_Program_gap_begin) (defScope s_Program_gap_begin) [] [] f fd
theorem ok_Program_gap_begin (e : Env w K mg) (F : F_Program_gap_begin K f fd) : FnOk P w K mg base CX0 1 f fd ["self", "index"] (spGapLo K) := by
  skip
  refine F.ok sc_Program_gap_begin (fun vs H Q E h => ?_) (fun cdv A outer s H vs Q E hr h => ⟨_, PSs.nox
    (pss_one (ps_ret (pe_ifExp (pt_cmpR op_gt (pv 1) pe_int (nomark _)) (pe_ix ix_tup (pe_ix ix_list (pe_fld (pv 0) rfl) (pe_op op_sub (pv 1) pe_int) (fun _ _ => rfl)) pe_int (fun _ _ => rfl)) pe_int))), ?_⟩)
  · obtain ⟨p, a, bs, ps, i, rfl, _⟩ := h
    rfl
  · obtain ⟨p, a, bs, ps, i, rfl, ⟨dx, aR, l, aT, aC, rv, us, h1, h4, h5, h6⟩, hi, hQ⟩ := h
    refine ⟨_, rfl, _, _, rfl, rfl, _, rfl, ?_⟩
    unfold gapLo at hQ
    by_cases c : i = 0
    · rw [if_pos c] at hQ
      exact ifF (decide_eq_false (by omega)) hQ
    · rw [if_neg c] at hQ
      have hx : ps[i - 1]? = some (ps[i - 1]'(by omega)) := List.getElem?_eq_getElem _
      obtain ⟨v, hv, b, rfl, hb⟩ := h6.get hx
      rw [hx] at hQ
      refine ifT (decide_eq_true (by omega)) ?_
      have e1 : (i : Int) - 1 = ((i - 1 : Nat) : Int) := by omega
      exact ⟨_, rfl, p, _, _, _, _, rfl, h1, cl_Program e, na_Program_parts e, rfl, _, rfl, _, _, rfl, rfl, l, _, _, _, rfl, rfl, .of h5, (by rw [e1]; exact atI_nat hv), b, _, 2, _, rfl, rfl, .of hb, rfl, hQ⟩
theorem c_Program_gap_begin (e : Env w K mg) : CalleeM P w K mg base 1 "Program" "gap_begin" ["self", "index"] (spGapLo K) := by
  obtain ⟨fd, F⟩ := e.d.def_ 35 (d := d_Program_gap_begin) rfl
  exact ⟨fd, ok_Program_gap_begin e F, F.bindsN fun _ _ _ _ _ _ us hl => match us, hl with | [_, _], _ => rfl⟩
/-! gap_bytes -/
def spGapB (K : PySem.W.Frag) : Sp := fun vs H Q _ => ∃ (p a : Addr) (bs : Bytes) (ps : List Part) (i : Nat), vs = [.ref p, .int (i : Int)] ∧ PV K H p a bs ps ∧ i ≤ ps.length ∧
  ∀ H' q, Same H H' → H q = none → H' q = some (.lst (B (gapOf bs ps i))) → Q (.ref q) H'
theorem sc_Program_gap_bytes : FnScope ["self", "index", "end"] ["self", "index"] (defScope s_Program_gap_bytes) := ⟨rfl, rfl, rfl, by decide +kernel, rfl, by decide +kernel, by decide +kernel⟩
abbrev F_Program_gap_bytes (K : PySem.W.Frag) (f : Addr) (fd : FuncData) : Prop := FunD K "gap_bytes" "Program.gap_bytes" (defArgs s_Program_gap_bytes) (defBody s_Program_gap_bytes) (defScope s_Program_gap_bytes) [] [] f fd
theorem ok_Program_gap_bytes (e : Env w K mg) (F : F_Program_gap_bytes K f fd) : FnOk P w K mg base CX0 2 f fd ["self", "index"] (spGapB K) := by
  obtain ⟨fd_Program_gap_begin, G_Program_gap_begin, b_Program_gap_begin⟩ := c_Program_gap_begin (P := P) (w := w) (base := base) e
  have m_len : mg "len" = none := e.free (List.mem_of_getElem? (i := 103) rfl)
  refine F.ok sc_Program_gap_bytes (fun vs H Q E h => ?_) (fun cdv A outer s H vs Q E hr h => ⟨_, PSs.nox
    (pss_cons (ps_set (i := 2) sc_Program_gap_bytes.nd rfl (Or.inl rfl) (pe_ifExp (pt_cmpR op_lt (pv 1) (pe_callB call_len_seq (by rfl) m_len PySem.boot_len (pa_cons (pe_fld (pv 0) rfl) pa_nil)) (nomark _)) (pe_ix ix_tup (pe_ix ix_list (pe_fld (pv 0) rfl) (pv 1) (fun _ _ => rfl)) pe_int (fun _ _ => rfl)) (pe_callB call_len_seq (by rfl) m_len PySem.boot_len (pa_cons (pe_fld (pv 0) rfl) pa_nil))))
      (pss_one (ps_ret (pe_slice sl_list (pe_fld (pv 0) rfl) (po_some (pe_meth (pv 0) (cl_Program e) (mm_Program_gap_begin e) G_Program_gap_begin (hr.mono (by decide)) b_Program_gap_begin .nil pass0 (pa_cons (pv 1) pa_nil))) (po_some (pv 2)))))), ?_⟩)
  · obtain ⟨p, a, bs, ps, i, rfl, _⟩ := h
    rfl
  · obtain ⟨p, a, bs, ps, i, rfl, Pv, hi, hQ⟩ := h
    obtain ⟨dx, aR, l, aT, aC, rv, us, h1, h4, h5, h6⟩ := id Pv
    refine ⟨_, rfl, _, rfl, p, _, _, _, _, rfl, h1, cl_Program e, na_Program_parts e, rfl, l, _, rfl, .inl (.of h5), _, _, rfl, rfl, _, rfl, ?_⟩
    rw [h6.len]
    have hQ2 : ∀ q, H q = none → Q (.ref q) (upd H q (.lst (B ((bs.take (gapHi bs ps i)).drop (gapLo ps i))))) := fun q hq => hQ _ q (same_upd hq) hq upd_same
    have tail : ∀ q, H q = none → Q (.ref q) (upd H q (.lst (cutV (B bs) (some (gapLo ps i : Int)) (some (gapHi bs ps i : Int))))) := fun q hq => by
      rw [cut_B]
      exact hQ2 q hq
    by_cases c : i < ps.length
    · have hx : ps[i]? = some ps[i] := List.getElem?_eq_getElem c
      obtain ⟨v, hv, b, rfl, hb⟩ := h6.get hx
      have eh : gapHi bs ps i = ps[i].lo := by
        unfold gapHi
        rw [hx]
      rw [eh] at tail
      refine ifT (decide_eq_true (by omega)) ?_
      refine ⟨_, rfl, p, _, _, _, _, rfl, h1, cl_Program e, na_Program_parts e, rfl, _, rfl, l, _, _, _, rfl, rfl, .of h5, atI_nat hv, b, _, 1, _, rfl, rfl, .of hb, rfl, ?_⟩
      refine ⟨_, rfl, p, _, _, _, _, rfl, h1, cl_Program e, na_Program_text e, rfl, _, rfl, p, _, _, rfl, h1, rfl, _, rfl, p, a, bs, ps, i, rfl, Pv, hi, _, rfl, _, rfl, _, rfl, a, _, rfl, h4, tail⟩
    · have eh : gapHi bs ps i = bs.length := by
        unfold gapHi
        rw [List.getElem?_eq_none (by omega)]
      rw [eh] at tail
      refine ifF (decide_eq_false (by omega)) ?_
      refine ⟨_, rfl, p, _, _, _, _, rfl, h1, cl_Program e, na_Program_text e, rfl, a, _, rfl, .inl h4, ?_⟩
      rw [B_len]
      refine ⟨_, rfl, p, _, _, _, _, rfl, h1, cl_Program e, na_Program_text e, rfl, _, rfl, p, _, _, rfl, h1, rfl, _, rfl, p, a, bs, ps, i, rfl, Pv, hi, _, rfl, _, rfl, _, rfl, a, _, rfl, h4, tail⟩
theorem c_Program_gap_bytes (e : Env w K mg) : CalleeM P w K mg base 2 "Program" "gap_bytes" ["self", "index"] (spGapB K) := by
  obtain ⟨fd, F⟩ := e.d.def_ 36 (d := d_Program_gap_bytes) rfl
  exact ⟨fd, ok_Program_gap_bytes e F, F.bindsN fun _ _ _ _ _ _ us hl => match us, hl with | [_, _], _ => rfl⟩
/-! gap_breaks -/
def spBrk (K : PySem.W.Frag) : Sp := fun vs H Q _ => ∃ (p a : Addr) (bs : Bytes) (ps : List Part) (i : Nat), vs = [.ref p, .int (i : Int)] ∧ PV K H p a bs ps ∧ i ≤ ps.length ∧
  ∀ H', Same H H' → Q (.int (brk bs ps i : Int)) H'
theorem sc_Program_gap_breaks : FnScope ["self", "index"] ["self", "index"] (defScope s_Program_gap_breaks) := ⟨rfl, rfl, rfl, by decide +kernel, rfl, by decide +kernel, by decide +kernel⟩
abbrev F_Program_gap_breaks (K : PySem.W.Frag) (f : Addr) (fd : FuncData) : Prop := FunD K "gap_breaks" "Program.gap_breaks" (defArgs s_Program_gap_breaks) (defBody s_Program_gap_breaks) (defScope s_Program_gap_breaks) [] [] f fd
theorem ok_Program_gap_breaks (e : Env w K mg) (F : F_Program_gap_breaks K f fd) : FnOk P w K mg base CX0 3 f fd ["self", "index"] (spBrk K) := by
  obtain ⟨fd_Program_gap_bytes, G_Program_gap_bytes, b_Program_gap_bytes⟩ := c_Program_gap_bytes (P := P) (w := w) (base := base) e
  skip
  refine F.ok sc_Program_gap_breaks (fun vs H Q E h => ?_) (fun cdv A outer s H vs Q E hr h => ⟨_, PSs.nox
    (pss_one (ps_ret (pe_bm PySem.F.plainAttrs_list PySem.F.slot_list_count PySem.F.type_list_count mt_lcount (pe_meth (pv 0) (cl_Program e) (mm_Program_gap_bytes e) G_Program_gap_bytes (hr.mono (by decide)) b_Program_gap_bytes .nil pass0 (pa_cons (pv 1) pa_nil)) (pa_cons pe_int pa_nil)))), ?_⟩)
  · obtain ⟨p, a, bs, ps, i, rfl, _⟩ := h
    rfl
  · obtain ⟨p, a, bs, ps, i, rfl, Pv, hi, hQ⟩ := h
    obtain ⟨dx, aR, l, aT, aC, rv, us, h1, h4, h5, h6⟩ := id Pv
    refine ⟨_, rfl, p, _, _, rfl, h1, rfl, _, rfl, p, a, bs, ps, i, rfl, Pv, hi, fun H' q s1 hq hq1 => ?_⟩
    refine ⟨.inl ⟨rfl, _, .of hq1⟩, q, (gapOf bs ps i).map (fun (c : UInt8) => (c.toNat : Int)), 10, rfl, rfl, .of (by rw [List.map_map]; exact hq1), ?_⟩
    rw [count_ends]
    exact hQ _ s1
theorem c_Program_gap_breaks (e : Env w K mg) : CalleeM P w K mg base 3 "Program" "gap_breaks" ["self", "index"] (spBrk K) := by
  obtain ⟨fd, F⟩ := e.d.def_ 37 (d := d_Program_gap_breaks) rfl
  exact ⟨fd, ok_Program_gap_breaks e F, F.bindsN fun _ _ _ _ _ _ us hl => match us, hl with | [_, _], _ => rfl⟩
/-! is_by_itself -/
def spByIt (K : PySem.W.Frag) : Sp := fun vs H Q _ => ∃ (p a : Addr) (bs : Bytes) (ps : List Part) (i : Nat), vs = [.ref p, .int (i : Int)] ∧ PV K H p a bs ps ∧ i < ps.length ∧
  ∀ H', Same H H' → Q (.bl (byIt bs ps i)) H'
theorem sc_Program_is_by_itself : FnScope ["self", "index"] ["self", "index"] (defScope s_Program_is_by_itself) := ⟨rfl, rfl, rfl, by decide +kernel, rfl, by decide +kernel, by decide +kernel⟩
abbrev F_Program_is_by_itself (K : PySem.W.Frag) (f : Addr) (fd : FuncData) : Prop := FunD K "is_by_itself" "Program.is_by_itself" (defArgs s_Program_is_by_itself) (defBody s_Program_is_by_itself) (defScope s_Program_is_by_itself) [] [] f fd
theorem ok_Program_is_by_itself (e : Env w K mg) (F : F_Program_is_by_itself K f fd) : FnOk P w K mg base CX0 4 f fd ["self", "index"] (spByIt K) := by
  obtain ⟨fd_Program_gap_breaks, G_Program_gap_breaks, b_Program_gap_breaks⟩ := c_Program_gap_breaks (P := P) (w := w) (base := base) e
  obtain ⟨fd_Program_is_comment, G_Program_is_comment, b_Program_is_comment⟩ := c_Program_is_comment (P := P) (w := w) (base := base) e
  skip
  refine F.ok sc_Program_is_by_itself (fun vs H Q E h => ?_) (fun cdv A outer s H vs Q E hr h => ⟨_, PSs.nox
    (pss_one (ps_ret (pe_and (pe_meth (pv 0) (cl_Program e) (mm_Program_is_comment e) G_Program_is_comment (hr.mono (by decide)) b_Program_is_comment .nil pass0 (pa_cons (pv 1) pa_nil)) (pe_one (pe_or (pe_cmpR op_eq (pv 1) pe_int (nomark _)) (pe_one (pe_cmpR op_gt (pe_meth (pv 0) (cl_Program e) (mm_Program_gap_breaks e) G_Program_gap_breaks (hr.mono (by decide)) b_Program_gap_breaks .nil pass0 (pa_cons (pv 1) pa_nil)) pe_int (nomark _)))))))), ?_⟩)
  · obtain ⟨p, a, bs, ps, i, rfl, _⟩ := h
    rfl
  · obtain ⟨p, a, bs, ps, i, rfl, Pv, hi, hQ⟩ := h
    obtain ⟨dx, aR, l, aT, aC, rv, us, h1, h4, h5, h6⟩ := id Pv
    have hx : ps[i]? = some ps[i] := List.getElem?_eq_getElem hi
    refine ⟨_, rfl, p, _, _, rfl, h1, rfl, _, rfl, p, a, bs, ps, i, ps[i], rfl, Pv, hx, _, rfl, ?_⟩
    unfold byIt at hQ
    rw [hx] at hQ
    cases c : isCom ps[i] with
    | false =>
      have e1 : (Option.any isCom (some ps[i]) && (decide (i = 0) || decide (0 < brk bs ps i))) = false := by
        rw [Option.any_some, c]
        rfl
      rw [e1] at hQ
      exact hQ H (Same.refl H)
    | true =>
      have e1 : (Option.any isCom (some ps[i]) && (decide (i = 0) || decide (0 < brk bs ps i))) = (decide (i = 0) || decide (0 < brk bs ps i)) := by
        rw [Option.any_some, c]
        rfl
      rw [e1] at hQ
      refine ⟨_, rfl, rfl, _, rfl, ?_⟩
      have e2 : decide (V.int (i : Int) = V.int 0) = decide (i = 0) := by
        apply decide_eq_decide.mpr
        constructor
        · intro h
          have := V.int.inj h
          omega
        · intro h
          rw [h]
          rfl
      rw [e2]
      cases d : decide (i = 0) with
      | true =>
        rw [d] at hQ
        exact hQ H (Same.refl H)
      | false =>
        rw [d] at hQ
        refine ⟨_, rfl, p, _, _, rfl, h1, rfl, _, rfl, p, a, bs, ps, i, rfl, Pv, Nat.le_of_lt hi, fun H' s1 => ?_⟩
        refine ⟨_, _, rfl, rfl, ?_⟩
        have e3 : decide ((brk bs ps i : Int) > 0) = (false || decide (0 < brk bs ps i)) := by
          rw [Bool.false_or]
          exact decide_eq_decide.mpr ⟨fun h => by omega, fun h => by omega⟩
        show Q (.bl (decide ((brk bs ps i : Int) > 0))) H'
        rw [e3]
        exact hQ H' s1
theorem c_Program_is_by_itself (e : Env w K mg) : CalleeM P w K mg base 4 "Program" "is_by_itself" ["self", "index"] (spByIt K) := by
  obtain ⟨fd, F⟩ := e.d.def_ 34 (d := d_Program_is_by_itself) rfl
  exact ⟨fd, ok_Program_is_by_itself e F, F.bindsN fun _ _ _ _ _ _ us hl => match us, hl with | [_, _], _ => rfl⟩
end
end La
set_option maxHeartbeats 4000000
/-! programs.py: element_bytes, token_kinds, Comment, Program. -/
namespace La
open PySem PySem.Spec PyProof.Rows L2
theorem keep_off {H H1 : Hp} {D : Addr} (hD : H D = none) (k : ∀ b, b ≠ D → H1 b = H b) : Same H H1 := fun b o hb => by
  rw [k b (fun z => by rw [z, hD] at hb; cases hb)]
  exact hb
section
variable {P : Program} {w : World} {K : PySem.W.Frag} {mg : Str → Option Value} {base : Heap} {f : Addr} {fd : FuncData}
/-! token_kinds -/
def spToK (K : PySem.W.Frag) : Sp := fun vs H Q _ => ∃ (p dx t aR aP aT aC : Addr) (rv : V) (us : List V) (ts : List Part), vs = [.ref p] ∧ H p = some (.ins (He.ga K "Program") dx (pF t aR aP aT aC rv)) ∧ H aT = some (.lst us) ∧ PartsIn H us ts ∧ ts.length ≤ 4096 ∧
  ∀ H' q, Same H H' → H q = none → H' q = some (.lst (KS (ts.map (·.kind)))) → Q (.ref q) H'
theorem sc_Program_token_kinds : FnScope ["self", "token"] ["self"] (defScope s_Program_token_kinds) := ⟨rfl, rfl, rfl, by decide +kernel, rfl, by decide +kernel, by decide +kernel⟩
abbrev F_Program_token_kinds (K : PySem.W.Frag) (f : Addr) (fd : FuncData) : Prop := FunD K "token_kinds" "Program.token_kinds" (defArgs s_Program_token_kinds) (defBody s_Program_token_kinds) (defScope s_Program_token_kinds) [] [] f fd
theorem ok_Program_token_kinds (e : Env w K mg) (F : F_Program_token_kinds K f fd) : FnOk P w K mg base CX0 1 f fd ["self"] (spToK K) := by
  skip
  refine F.ok sc_Program_token_kinds (fun vs H Q E h => ?_) (fun cdv A outer s H vs Q E hr h => ⟨_, PSs.nox
    (pss_one (ps_ret (pe_lc (own := [("token", 1)]) (g := (gName 1)) (tt := tYes) (by rfl) sc_Program_token_kinds.nd (pi_list (pe_fld (pv 0) rfl)) (blkOk_by (own := [("token", 1)]) (N := ["self", "token"]) (sc := defScope s_Program_token_kinds) (by decide +kernel)) (fun _ _ _ _ _ => (pg_name (i := 1) sc_Program_token_kinds.nd rfl (Or.inl rfl))) (fun _ _ _ _ _ => pts_nil) (fun _ _ _ _ _ => (pe_ix (ix_tupK (K := K) rfl) (pv 1) pe_int (fun _ _ => rfl)))))), ?_⟩)
  · obtain ⟨p, dx, t, aR, aP, aT, aC, rv, us, ts, rfl, _⟩ := h
    rfl
  · obtain ⟨p, dx, t, aR, aP, aT, aC, rv, us, ts, rfl, h1, h5, h6, hlen, hQ⟩ := h
    refine ⟨_, rfl, p, _, _, _, _, rfl, h1, cl_Program e, na_Program_tokens e, rfl, aT, rfl, ⟨_, .of h5⟩, fun D hD => ?_⟩
    refine lc_list (K := K) (a := aT) (xs := us) (fun k G => G D = some (.lst (KS ((ts.take k).map (·.kind)))) ∧ ∀ b, b ≠ D → G b = H b)
      ⟨upd_same, fun b hb => upd_ne hb⟩ ?_ ?_ ?_
    · rintro k G _ ⟨_, s1⟩
      exact .of (keep_off hD s1 _ _ h5)
    · rintro k x G hk ⟨ha, s1⟩
      obtain ⟨pt, hp1, b, rfl, hb⟩ := h6.get2 hk
      have hb1 := keep_off hD s1 _ _ hb
      have e1 : ts.take (k + 1) = ts.take k ++ [pt] := by
        rw [List.take_add_one, hp1]
        rfl
      refine ⟨rfl, _, rfl, b, _, 0, _, rfl, rfl, .of hb1, rfl, _, ha, ?_, upd_same.trans ?_, fun b' hb' => ?_⟩
      · rw [KS_len, List.length_map, List.length_take]
        have : (4096 : Nat) < sizeLine := by rw [sizeLine_eq]; decide
        omega
      · rw [e1, List.map_append, List.map_singleton, KS_app]
      · rw [upd_ne hb']
        exact s1 b' hb'
    · rintro G ⟨ha, s1⟩
      rw [h6.len, List.take_length] at ha
      exact hQ G D (keep_off hD s1) hD ha
theorem c_Program_token_kinds (e : Env w K mg) : CalleeM P w K mg base 1 "Program" "token_kinds" ["self"] (spToK K) := by
  obtain ⟨fd, F⟩ := e.d.def_ 39 (d := d_Program_token_kinds) rfl
  exact ⟨fd, ok_Program_token_kinds e F, F.bindsN fun _ _ _ _ _ _ us hl => match us, hl with | [_], _ => rfl⟩
/-! Comment -/
structure Com where
  size : Nat
  behind : Bool
  deriving DecidableEq
def coF (c : Com) : List (Str × V) := [("size", .int (c.size : Int)), ("behind", .bl c.behind)]
def spCom (K : PySem.W.Frag) : Sp := fun vs H Q _ => ∃ (a dx : Addr) (c : Com), vs = [.ref a, .int (c.size : Int), .bl c.behind] ∧ H a = some (.ins (He.ga K "Comment") dx []) ∧ Q .non (upd H a (.ins (He.ga K "Comment") dx (coF c)))
theorem sc_Comment___init__ : FnScope ["self", "size", "behind"] ["self", "size", "behind"] (defScope s_Comment___init__) := ⟨rfl, rfl, rfl, by decide +kernel, rfl, by decide +kernel, by decide +kernel⟩
abbrev F_Comment___init__ (K : PySem.W.Frag) (f : Addr) (fd : FuncData) : Prop := FunD K "__init__" "Comment.__init__" (defArgs s_Comment___init__) (defBody s_Comment___init__) (defScope s_Comment___init__) [] [] f fd
theorem ok_Comment___init__ (e : Env w K mg) (F : F_Comment___init__ K f fd) : FnOk P w K mg base CX0 1 f fd ["self", "size", "behind"] (spCom K) := by
  refine F.ok sc_Comment___init__ (fun vs H Q E h => ?_) (fun cdv A outer s H vs Q E hr h => ⟨_, PSs.nox
    (pss_cons (ps_fld (pv 0) (pv 1) rfl)
      (pss_one (ps_fld (pv 0) (pv 2) rfl))), ?_⟩)
  · obtain ⟨a, dx, c, rfl, _⟩ := h
    rfl
  · obtain ⟨a, dx, c, rfl, ha, hQ⟩ := h
    refine ⟨_, rfl, _, rfl, a, _, _, _, rfl, ha, cl_Comment e, na_Comment_size e, (by show 0 < 1000; decide), ?_⟩
    refine ⟨_, rfl, _, rfl, a, _, _, _, rfl, upd_same, cl_Comment e, na_Comment_behind e, (by show 1 < 1000; decide), ?_⟩
    rw [upd_upd]
    exact hQ
theorem c_Comment___init__ (e : Env w K mg) : CalleeM P w K mg base 1 "Comment" "__init__" ["self", "size", "behind"] (spCom K) := by
  obtain ⟨fd, F⟩ := e.d.def_ 31 (d := d_Comment___init__) rfl
  exact ⟨fd, ok_Comment___init__ e F, F.bindsN fun _ _ _ _ _ _ us hl => match us, hl with | [_, _, _], _ => rfl⟩
/-! Program -/
/-- an object's own objects while they are made -/
structure OI (C : Addr) (H : Hp) (a dx : Addr) (fs : List (Str × V)) (l : List (Addr × HO)) (G : Hp) : Prop where
  pts : Pts G ((a, .ins C dx fs) :: l)
  keep : ∀ b o, H b = some o → b ≠ a → G b = some o
  new : ∀ y ∈ l, H y.1 = none
section
variable {C : Addr} {H G : Hp} {a dx : Addr} {fs : List (Str × V)} {l : List (Addr × HO)}
theorem OI.self (h : OI C H a dx fs l G) : G a = some (.ins C dx fs) := h.pts.2 _ List.mem_cons_self
theorem OI.ne (h : OI C H a dx fs l G) {p : Addr} (n : G p = none) : a ≠ p := fun z => by have := h.self; rw [z, n] at this; cases this
theorem OI.get (h : OI C H a dx fs l G) {p : Addr} {o : HO} (n : G p = none) : L2.upd G p o a = some (.ins C dx fs) := (upd_ne (h.ne n)).trans h.self
theorem OI.own (h : OI C H a dx fs l G) (fs' : List (Str × V)) : OI C H a dx fs' l (L2.upd G a (.ins C dx fs')) :=
  ⟨h.pts.set 0 rfl, fun b o hb hn => (upd_ne hn).trans (h.keep b o hb hn), h.new⟩
theorem OI.step (h : OI C H a dx fs l G) {p : Addr} {o : HO} (n : G p = none) (fs' : List (Str × V)) : OI C H a dx fs' (l ++ [(p, o)]) (L2.upd (L2.upd G p o) a (.ins C dx fs')) := by
  have hp : p ∉ ((a, HO.ins C dx fs) :: l).map (·.1) := h.pts.new n
  have h1 : Pts (L2.upd G p o) ((a, .ins C dx fs) :: (l ++ [(p, o)])) := by
    have h2 := (h.pts.same (same_upd (o := o) n)).cons (p := p) (o := o) upd_same hp
    refine h2.perm ?_
    exact (List.perm_append_singleton (p, o) ((a, HO.ins C dx fs) :: l)).symm
  have h3 : OI C H a dx fs (l ++ [(p, o)]) (L2.upd G p o) := by
    refine ⟨h1, fun b o' hb hn => ?_, fun y hy => ?_⟩
    · have hb2 := h.keep b o' hb hn
      rw [upd_ne (fun z => by rw [z, n] at hb2; cases hb2)]
      exact hb2
    · rcases List.mem_append.mp hy with m | m
      · exact h.new y m
      · rw [List.mem_singleton.mp m]
        show H p = none
        cases e : H p with
        | none => rfl
        | some z =>
          have := h.keep p z e (Ne.symm (h.ne n))
          rw [n] at this
          cases this
  exact h3.own fs'
theorem OI.start (ha : H a = some (.ins C dx fs)) (fs' : List (Str × V)) : OI C H a dx fs' [] (L2.upd H a (.ins C dx fs')) :=
  ⟨⟨by simp, fun y hy => by rw [List.mem_singleton.mp hy]; exact upd_same⟩, fun b o hb hn => (upd_ne hn).trans hb, fun y hy => by cases hy⟩
end
def spProgram (K : PySem.W.Frag) : Sp := fun vs H Q _ => ∃ (a dx t : Addr), vs = [.ref a, .ref t] ∧ H a = some (.ins (He.ga K "Program") dx []) ∧
  ∀ H' p1 p2 p3 p4, OI (He.ga K "Program") H a dx (pF t p1 p2 p3 p4 .non) [(p1, .lst []), (p2, .lst []), (p3, .lst []), (p4, .lst [])] H' → Q .non H'
theorem sc_Program___init__ : FnScope ["self", "text"] ["self", "text"] (defScope s_Program___init__) := ⟨rfl, rfl, rfl, by decide +kernel, rfl, by decide +kernel, by decide +kernel⟩
abbrev F_Program___init__ (K : PySem.W.Frag) (f : Addr) (fd : FuncData) : Prop := FunD K "__init__" "Program.__init__" (defArgs s_Program___init__) (defBody s_Program___init__) (defScope s_Program___init__) [] [] f fd
theorem ok_Program___init__ (e : Env w K mg) (F : F_Program___init__ K f fd) : FnOk P w K mg base CX0 1 f fd ["self", "text"] (spProgram K) := by
  refine F.ok sc_Program___init__ (fun vs H Q E h => ?_) (fun cdv A outer s H vs Q E hr h => ⟨_, PSs.nox
    (pss_cons (ps_fld (pv 0) (pv 1) rfl)
      (pss_cons (ps_fld (pv 0) (pe_lst pa_nil) rfl)
      (pss_cons (ps_fld (pv 0) (pe_lst pa_nil) rfl)
      (pss_cons (ps_fld (pv 0) (pe_lst pa_nil) rfl)
      (pss_cons (ps_fld (pv 0) (pe_lst pa_nil) rfl)
      (pss_one (ps_fld (pv 0) pe_non rfl))))))), ?_⟩)
  · obtain ⟨a, dx, t, rfl, _⟩ := h
    rfl
  · obtain ⟨a, dx, t, rfl, ha, hQ⟩ := h
    have hsz0 : 0 ≤ sizeLine := Nat.zero_le _
    refine ⟨_, rfl, _, rfl, a, _, _, _, rfl, ha, cl_Program e, na_Program_text e, (by show 0 < 1000; decide), ?_⟩
    have I0 := OI.start ha [("text", .ref t)]
    refine ⟨hsz0, fun p1 n1 => ⟨_, rfl, a, _, _, _, rfl, I0.get n1, cl_Program e, na_Program_refused e, (by show 1 < 1000; decide), ?_⟩⟩
    have I1 := I0.step (o := .lst []) n1 [("text", .ref t), ("refused", .ref p1)]
    refine ⟨hsz0, fun p2 n2 => ⟨_, rfl, a, _, _, _, rfl, I1.get n2, cl_Program e, na_Program_parts e, (by show 2 < 1000; decide), ?_⟩⟩
    have I2 := I1.step (o := .lst []) n2 [("text", .ref t), ("refused", .ref p1), ("parts", .ref p2)]
    refine ⟨hsz0, fun p3 n3 => ⟨_, rfl, a, _, _, _, rfl, I2.get n3, cl_Program e, na_Program_tokens e, (by show 3 < 1000; decide), ?_⟩⟩
    have I3 := I2.step (o := .lst []) n3 [("text", .ref t), ("refused", .ref p1), ("parts", .ref p2), ("tokens", .ref p3)]
    refine ⟨hsz0, fun p4 n4 => ⟨_, rfl, a, _, _, _, rfl, I3.get n4, cl_Program e, na_Program_comments e, (by show 4 < 1000; decide), ?_⟩⟩
    have I4 := I3.step (o := .lst []) n4 [("text", .ref t), ("refused", .ref p1), ("parts", .ref p2), ("tokens", .ref p3), ("comments", .ref p4)]
    refine ⟨_, rfl, a, _, _, _, rfl, I4.self, cl_Program e, na_Program_reader e, (by show 5 < 1000; decide), ?_⟩
    exact hQ _ p1 p2 p3 p4 (I4.own (pF t p1 p2 p3 p4 .non))
theorem c_Program___init__ (e : Env w K mg) : CalleeM P w K mg base 1 "Program" "__init__" ["self", "text"] (spProgram K) := by
  obtain ⟨fd, F⟩ := e.d.def_ 32 (d := d_Program___init__) rfl
  exact ⟨fd, ok_Program___init__ e F, F.bindsN fun _ _ _ _ _ _ us hl => match us, hl with | [_, _], _ => rfl⟩
end
end La
set_option maxHeartbeats 4000000
/-! programs.py: split_parts. -/
namespace La
open PySem PySem.Spec PyProof.Rows L2
def comOf (bs : Bytes) (ps : List Part) (i : Nat) (p : Part) : Com := ⟨p.hi - p.lo, !byIt bs ps i⟩
def splitFrom (bs : Bytes) (ps : List Part) : Nat → List Part → List Com → List (List Com)
  | _, [], cur => [cur]
  | i, p :: r, cur => if isCom p = true then splitFrom bs ps (i + 1) r (cur ++ [comOf bs ps i p]) else cur :: splitFrom bs ps (i + 1) r []
def comsOf (bs : Bytes) (ps : List Part) : List (List Com) := splitFrom bs ps 0 ps []
def toksOf (ps : List Part) : List Part := ps.filter fun p => !isCom p
/-! ### comments in the heap -/
def CsIn (C : Addr) (N : Addr → Prop) (H : Hp) : List V → List Com → Prop
  | [], [] => True
  | v :: r, c :: s => (∃ b dx, v = .ref b ∧ N b ∧ H b = some (.ins C dx (coF c))) ∧ CsIn C N H r s
  | _, _ => False
def ComsIn (C : Addr) (N : Addr → Prop) (H : Hp) : List V → List (List Com) → Prop
  | [], [] => True
  | v :: r, c :: s => (∃ b us, v = .ref b ∧ N b ∧ H b = some (.lst us) ∧ CsIn C N H us c) ∧ ComsIn C N H r s
  | _, _ => False
section
variable {C : Addr} {N N' : Addr → Prop} {H H' : Hp}
theorem CsIn.keep (k : ∀ b o, N b → H b = some o → N' b ∧ H' b = some o) : ∀ {vs : List V} {cs : List Com}, CsIn C N H vs cs → CsIn C N' H' vs cs
  | [], [], _ => trivial
  | [], _ :: _, h => h.elim
  | _ :: _, [], h => h.elim
  | v :: r, c :: t, ⟨⟨b, dx, e, n, h1⟩, h2⟩ => ⟨⟨b, dx, e, (k _ _ n h1).1, (k _ _ n h1).2⟩, CsIn.keep k h2⟩
theorem ComsIn.keep (k : ∀ b o, N b → H b = some o → N' b ∧ H' b = some o) : ∀ {vs : List V} {cs : List (List Com)}, ComsIn C N H vs cs → ComsIn C N' H' vs cs
  | [], [], _ => trivial
  | [], _ :: _, h => h.elim
  | _ :: _, [], h => h.elim
  | v :: r, c :: t, ⟨⟨b, us, e, n, h1, h3⟩, h2⟩ => ⟨⟨b, us, e, (k _ _ n h1).1, (k _ _ n h1).2, h3.keep k⟩, ComsIn.keep k h2⟩
theorem CsIn.push {c : Com} {b dx : Addr} (h : N b) (h1 : H b = some (.ins C dx (coF c))) : ∀ {vs : List V} {cs : List Com}, CsIn C N H vs cs → CsIn C N H (vs ++ [.ref b]) (cs ++ [c])
  | [], [], _ => ⟨⟨b, dx, rfl, h, h1⟩, trivial⟩
  | [], _ :: _, g => g.elim
  | _ :: _, [], g => g.elim
  | v :: r, d :: t, ⟨g1, g2⟩ => ⟨g1, CsIn.push h h1 g2⟩
theorem ComsIn.push {c : List Com} {b : Addr} {us : List V} (h : N b) (h1 : H b = some (.lst us)) (h3 : CsIn C N H us c) : ∀ {vs : List V} {cs : List (List Com)}, ComsIn C N H vs cs → ComsIn C N H (vs ++ [.ref b]) (cs ++ [c])
  | [], [], _ => ⟨⟨b, us, rfl, h, h1, h3⟩, trivial⟩
  | [], _ :: _, g => g.elim
  | _ :: _, [], g => g.elim
  | v :: r, d :: t, ⟨g1, g2⟩ => ⟨g1, ComsIn.push h h1 h3 g2⟩
theorem CsIn.len : ∀ {vs : List V} {cs : List Com}, CsIn C N H vs cs → vs.length = cs.length
  | [], [], _ => rfl
  | [], _ :: _, g => g.elim
  | _ :: _, [], g => g.elim
  | v :: r, d :: t, g => congrArg (· + 1) (CsIn.len g.2)
theorem ComsIn.len : ∀ {vs : List V} {cs : List (List Com)}, ComsIn C N H vs cs → vs.length = cs.length
  | [], [], _ => rfl
  | [], _ :: _, g => g.elim
  | _ :: _, [], g => g.elim
  | v :: r, d :: t, g => congrArg (· + 1) (ComsIn.len g.2)
theorem CsIn.get {v : V} : ∀ {vs : List V} {cs : List Com} {i : Nat}, CsIn C N H vs cs → vs[i]? = some v → ∃ c b dx, cs[i]? = some c ∧ v = .ref b ∧ N b ∧ H b = some (.ins C dx (coF c))
  | [], [], _, _, h => by cases h
  | [], _ :: _, _, g, _ => g.elim
  | _ :: _, [], _, g, _ => g.elim
  | u :: r, d :: t, 0, g, h => by
    cases h
    obtain ⟨⟨b, dx, e, n, h1⟩, _⟩ := g
    exact ⟨d, b, dx, rfl, e, n, h1⟩
  | u :: r, d :: t, i + 1, g, h => CsIn.get (i := i) g.2 (by simpa using h)
theorem ComsIn.get {v : V} : ∀ {vs : List V} {cs : List (List Com)} {i : Nat}, ComsIn C N H vs cs → vs[i]? = some v → ∃ c b us, cs[i]? = some c ∧ v = .ref b ∧ N b ∧ H b = some (.lst us) ∧ CsIn C N H us c
  | [], [], _, _, h => by cases h
  | [], _ :: _, _, g, _ => g.elim
  | _ :: _, [], _, g, _ => g.elim
  | u :: r, d :: t, 0, g, h => by
    cases h
    obtain ⟨⟨b, us, e, n, h1, h2⟩, _⟩ := g
    exact ⟨d, b, us, rfl, e, n, h1, h2⟩
  | u :: r, d :: t, i + 1, g, h => ComsIn.get (i := i) g.2 (by simpa using h)
end
theorem PartsIn.off {H H' : Hp} (k : ∀ b o, H b = some (.tup o) → H' b = some (.tup o)) : ∀ {vs : List V} {ps : List Part}, PartsIn H vs ps → PartsIn H' vs ps
  | [], [], _ => trivial
  | [], _ :: _, h => h.elim
  | _ :: _, [], h => h.elim
  | v :: r, p :: t, ⟨⟨a, e, h1⟩, h2⟩ => ⟨⟨a, e, k _ _ h1⟩, PartsIn.off k h2⟩
theorem split_len {bs : Bytes} {ps : List Part} : ∀ {i : Nat} {r : List Part} {cur : List Com}, (splitFrom bs ps i r cur).length ≤ r.length + 1
  | _, [], _ => Nat.le_refl _
  | i, p :: r, cur => by
    unfold splitFrom
    have h1 := split_len (bs := bs) (ps := ps) (i := i + 1) (r := r) (cur := cur ++ [comOf bs ps i p])
    have h2 := split_len (bs := bs) (ps := ps) (i := i + 1) (r := r) (cur := [])
    split
    · rw [List.length_cons]
      omega
    · rw [List.length_cons, List.length_cons]
      omega
section
variable {P : Program} {w : World} {K : PySem.W.Frag} {mg : Str → Option Value} {base : Heap} {f : Addr} {fd : FuncData}
def spSplit (K : PySem.W.Frag) : Sp := fun vs H Q _ => ∃ (p dx t aR l aT aC : Addr) (bs : Bytes) (us : List V) (ps : List Part), vs = [.ref p] ∧ H p = some (.ins (He.ga K "Program") dx (pF t aR l aT aC .non)) ∧ (∀ G : Hp, (∀ b o, H b = some o → b ≠ aT → b ≠ aC → G b = some o) → SqL K G t (B bs)) ∧ H l = some (.lst us) ∧ PartsIn H us ps ∧
  H aT = some (.lst []) ∧ H aC = some (.lst []) ∧ aT ≠ aC ∧ l ≠ aT ∧ l ≠ aC ∧ ps.length ≤ 4096 ∧ (∀ p ∈ ps, p.lo ≤ p.hi) ∧
  ∀ H' ts cs, (∀ b o, H b = some o → b ≠ aT → b ≠ aC → H' b = some o) → H' aT = some (.lst ts) → PartsIn H' ts (toksOf ps) → H' aC = some (.lst cs) → ComsIn (He.ga K "Comment") (fun b => H b = none) H' cs (comsOf bs ps) → Q .non H'
theorem sc_split_parts : FnScope ["program", "comments", "index", "part"] ["program"] (defScope s_split_parts) := ⟨rfl, rfl, rfl, by decide +kernel, rfl, by decide +kernel, by decide +kernel⟩
abbrev F_split_parts (K : PySem.W.Frag) (f : Addr) (fd : FuncData) : Prop := FunD K "split_parts" "split_parts" (defArgs s_split_parts) (defBody s_split_parts) (defScope s_split_parts) [] [] f fd
theorem ok_split_parts (e : Env w K mg) (F : F_split_parts K f fd) : FnOk P w K mg base CX0 5 f fd ["program"] (spSplit K) := by
  obtain ⟨fd_Program_is_comment, G_Program_is_comment, b_Program_is_comment⟩ := c_Program_is_comment (P := P) (w := w) (base := base) e
  obtain ⟨fd_Comment___init__, G_Comment___init__, b_Comment___init__⟩ := c_Comment___init__ (P := P) (w := w) (base := base) e
  obtain ⟨fd_Program_is_by_itself, G_Program_is_by_itself, b_Program_is_by_itself⟩ := c_Program_is_by_itself (P := P) (w := w) (base := base) e
  have m_enumerate : mg "enumerate" = none := e.free (List.mem_of_getElem? (i := 105) rfl)
  have m_Comment : mg "Comment" = some (.ref (He.ga K "Comment")) := e.glo (List.mem_of_getElem? (i := 63) rfl)
  refine F.ok sc_split_parts (fun vs H Q E h => ?_) (fun cdv A outer s H vs Q E hr h => ⟨_, PSs.nox
    (pss_cons (ps_set (i := 1) sc_split_parts.nd rfl (Or.inl rfl) (pe_lst pa_nil))
      (pss_cons (ps_for PassesOwn.never rfl (pi_enum (by rfl) m_enumerate (pa_cons (pe_fld (pv 0) rfl) pa_nil)) (pg_tup rfl (pgs_cons (pg_name (i := 2) sc_split_parts.nd rfl (Or.inl rfl)) (pgs_cons (pg_name (i := 3) sc_split_parts.nd rfl (Or.inl rfl)) pgs_nil)))
      (pss_one (ps_if (pt_truth (pe_meth (pv 0) (cl_Program e) (mm_Program_is_comment e) G_Program_is_comment (hr.mono (by decide)) b_Program_is_comment .nil pass0 (pa_cons (pv 2) pa_nil)) (fun _ => rfl)) (pss_one (ps_expr (pe_bm PySem.F.plainAttrs_list PySem.F.slot_list_append PySem.F.type_list_append mt_append (pv 1) (pa_cons (pe_make (mk_Comment e) G_Comment___init__ (hr.mono (by decide)) rfl m_Comment b_Comment___init__ .nil pass0 (pa_cons (pe_op op_sub (pe_ix ix_tup (pv 3) pe_int (fun _ _ => rfl)) (pe_ix ix_tup (pv 3) pe_int (fun _ _ => rfl))) (pa_cons (pe_not (pe_meth (pv 0) (cl_Program e) (mm_Program_is_by_itself e) G_Program_is_by_itself (hr.mono (by decide)) b_Program_is_by_itself .nil pass0 (pa_cons (pv 2) pa_nil))) pa_nil))) pa_nil)))) (pss_cons (ps_expr (pe_bm PySem.F.plainAttrs_list PySem.F.slot_list_append PySem.F.type_list_append mt_append (pe_fld (pv 0) rfl) (pa_cons (pv 3) pa_nil)))
      (pss_cons (ps_expr (pe_bm PySem.F.plainAttrs_list PySem.F.slot_list_append PySem.F.type_list_append mt_append (pe_fld (pv 0) rfl) (pa_cons (pv 1) pa_nil)))
      (pss_one (ps_set (i := 1) sc_split_parts.nd rfl (Or.inl rfl) (pe_lst pa_nil))))))))
      (pss_one (ps_expr (pe_bm PySem.F.plainAttrs_list PySem.F.slot_list_append PySem.F.type_list_append mt_append (pe_fld (pv 0) rfl) (pa_cons (pv 1) pa_nil)))))), ?_⟩)
  · obtain ⟨p, dx, t, aR, l, aT, aC, bs, us, ps, rfl, _⟩ := h
    rfl
  · obtain ⟨p, dx, t, aR, l, aT, aC, bs, us, ps, rfl, h1, h4, h5, h6, hT, hC, nTC, nlT, nlC, hlen, hlo, hQ⟩ := h
    have hsz : (5000 : Nat) < sizeLine := by rw [sizeLine_eq]; decide
    have npT : p ≠ aT := ne_of h1 hT (by intro z; cases z)
    have npC : p ≠ aC := ne_of h1 hC (by intro z; cases z)
    refine ⟨Nat.zero_le _, fun c0 hc0 => ?_⟩
    have hul := h6.len
    -- what a heap on the way keeps for reading
    have pv : ∀ G : Hp, (∀ b o, H b = some o → b ≠ aT → b ≠ aC → G b = some o) → PV K G p t bs ps ∧ G l = some (.lst us) ∧ PartsIn G us ps := fun G k => by
      have e1 := k _ _ h1 npT npC
      have e2 := k _ _ h5 nlT nlC
      have e3 : PartsIn G us ps := h6.off fun b o hb => k b _ hb (fun z => by rw [z, hT] at hb; cases hb) (fun z => by rw [z, hC] at hb; cases hb)
      exact ⟨⟨dx, aR, l, aT, aC, .non, us, e1, h4 G k, e2, e3⟩, e2, e3⟩
    refine ⟨_, rfl, p, _, _, _, _, rfl, (by rw [upd_ne (fun z => by rw [z, hc0] at h1; cases h1)]; exact h1), cl_Program e, na_Program_parts e, rfl, l, _, rfl, .of (by rw [upd_ne (fun z => by rw [z, hc0] at h5; cases h5)]; exact h5), ?_⟩
    refine for_it (walk_enum (K := K) (a := l) (xs := us)) (fun i σ G => ∃ (c : Addr) (z1 z2 : Option V) (ts cs cu : List V) (curC : List Com) (done : List (List Com)), σ = [some (.ref p), some (.ref c), z1, z2] ∧
        (∀ b o, H b = some o → b ≠ aT → b ≠ aC → G b = some o) ∧ H c = none ∧ G aT = some (.lst ts) ∧ PartsIn G ts (toksOf (ps.take i)) ∧ G aC = some (.lst cs) ∧ ComsIn (He.ga K "Comment") (fun b => H b = none ∧ b ≠ c) G cs done ∧
        G c = some (.lst cu) ∧ CsIn (He.ga K "Comment") (fun b => H b = none ∧ b ≠ c) G cu curC ∧ done.length ≤ i ∧ curC.length ≤ i ∧ comsOf bs ps = done ++ splitFrom bs ps i (ps.drop i) curC)
      ⟨c0, none, none, [], [], [], [], [], rfl, fun b o hb _ _ => same_upd hc0 _ _ hb, hc0, (by rw [upd_ne (fun z => by rw [z, hc0] at hT; cases hT)]; exact hT), trivial, (by rw [upd_ne (fun z => by rw [z, hc0] at hC; cases hC)]; exact hC), trivial, upd_same, trivial, Nat.le_refl _, Nat.le_refl _, rfl⟩ ?_ ?_ ?_
    · rintro i σ G _ ⟨c, z1, z2, ts, cs, cu, curC, done, _, k, _⟩
      exact .of (pv G k).2.1
    · rintro i x σ G G1 hi ⟨c, z1, z2, ts, cs, cu, curC, done, rfl, k, hc, gT, gTs, gC, gCs, gc, gcu, dl, cl, eq⟩ ⟨T, x1, x2, rfl, nT, rfl, e1, e2⟩
      cases e1
      obtain ⟨pt, hp1, b, rfl, hb⟩ := h6.get2 e2
      have hip : i < ps.length := (List.getElem?_eq_some_iff.mp hp1).1
      have s1 := same_upd (o := .tup [.int (i : Nat), .ref b]) nT
      have gT1 := s1 _ _ gT
      have gC1 := s1 _ _ gC
      have gc1 := s1 _ _ gc
      have gTs1 := gTs.same s1
      have gCs1 : ComsIn (He.ga K "Comment") (fun b => H b = none ∧ b ≠ c) (upd G T (.tup [.int (i : Nat), .ref b])) cs done := gCs.keep fun b o n h => ⟨n, s1 _ _ h⟩
      have gcu1 : CsIn (He.ga K "Comment") (fun b => H b = none ∧ b ≠ c) (upd G T (.tup [.int (i : Nat), .ref b])) cu curC := gcu.keep fun b o n h => ⟨n, s1 _ _ h⟩
      refine ⟨T, _, rfl, .of upd_same, rfl, _, _, rfl, _, _, rfl, rfl, ?_⟩
      have k1' : ∀ b' o, H b' = some o → b' ≠ aT → b' ≠ aC → (upd G T (.tup [.int (i : Nat), .ref b])) b' = some o := fun b' o hb n1 n2 => s1 _ _ (k b' o hb n1 n2)
      generalize upd G T (.tup [.int (i : Nat), .ref b]) = G1 at *
      obtain ⟨pv1, pl1, pp1⟩ := pv G1 k1'
      have hp := k1' _ _ h1 npT npC
      have hb1 : G1 b = some (.tup [.str (strL pt.kind), .int (pt.lo : Int), .int (pt.hi : Int)]) := k1' _ _ hb (fun z => by rw [z, hT] at hb; cases hb) (fun z => by rw [z, hC] at hb; cases hb)
      have hdrop : ps.drop i = pt :: ps.drop (i + 1) := by
        rw [List.drop_eq_getElem_cons hip]
        rw [List.getElem?_eq_getElem hip] at hp1
        rw [Option.some.inj hp1]
      have htake : ps.take (i + 1) = ps.take i ++ [pt] := by
        rw [List.take_add_one, hp1]
        rfl
      rw [hdrop] at eq
      have nTc : aT ≠ c := fun z => by rw [z, hc] at hT; cases hT
      have nCc : aC ≠ c := fun z => by rw [z, hc] at hC; cases hC
      refine ⟨_, rfl, p, _, _, rfl, hp, rfl, _, rfl, p, t, bs, ps, i, pt, rfl, pv1, hp1, _, rfl, ?_⟩
      cases hcm : isCom pt with
      | true =>
        have eq2 : splitFrom bs ps i (pt :: ps.drop (i + 1)) curC = splitFrom bs ps (i + 1) (ps.drop (i + 1)) (curC ++ [comOf bs ps i pt]) := if_pos hcm
        rw [eq2] at eq
        refine ifT rfl ?_
        refine ⟨_, rfl, .inl ⟨rfl, _, .of gc1⟩, _, rfl, b, _, 2, _, rfl, rfl, .of hb1, rfl, _, rfl, b, _, 1, _, rfl, rfl, .of hb1, rfl, _, _, rfl, rfl, _, rfl, p, _, _, rfl, hp, rfl, _, rfl, p, t, bs, ps, i, rfl, pv1, hip, fun H2 s2 => ?_⟩
        refine ⟨_, rfl, ?_⟩
        intro q dq nq nd ne
        have hlo1 := hlo pt (List.mem_of_getElem? hp1)
        refine ⟨q, dq, comOf bs ps i pt, ?_, upd_same, rfl, ?_⟩
        · show [V.ref q, V.int ((pt.hi : Int) - (pt.lo : Int)), V.bl (!byIt bs ps i)] = [V.ref q, V.int ((pt.hi - pt.lo : Nat) : Int), V.bl (!byIt bs ps i)]
          rw [Int.ofNat_sub hlo1]
        rw [upd_upd]
        have s3 : Same H2 (upd (upd H2 dq (.own q)) q (.ins (He.ga K "Comment") dq (coF (comOf bs ps i pt)))) := fun b' o hb' => by
          rw [upd_ne (fun z => by rw [z, nq] at hb'; cases hb'), upd_ne (fun z => by rw [z, nd] at hb'; cases hb')]
          exact hb'
        have s23 := s2.trans s3
        have gq : (upd (upd H2 dq (.own q)) q (.ins (He.ga K "Comment") dq (coF (comOf bs ps i pt)))) q = some (.ins (He.ga K "Comment") dq (coF (comOf bs ps i pt))) := upd_same
        have hq0 : H q = none := by
          cases z : H q with
          | none => rfl
          | some o =>
            by_cases w1 : q = aT
            · rw [w1, s2 _ _ gT1] at nq
              cases nq
            · by_cases w2 : q = aC
              · rw [w2, s2 _ _ gC1] at nq
                cases nq
              · rw [s2 _ _ (k1' _ _ z w1 w2)] at nq
                cases nq
        have nqc : q ≠ c := fun z => by rw [z, s2 _ _ gc1] at nq; cases nq
        generalize upd (upd H2 dq (.own q)) q (.ins (He.ga K "Comment") dq (coF (comOf bs ps i pt))) = G3 at *
        have gc3 := s23 _ _ gc1
        refine ⟨c, _, _, rfl, rfl, gc3, (by rw [gcu1.len]; omega), ?_⟩
        have kp : ∀ b' o, G3 b' = some o → b' ≠ c → (upd G3 c (.lst (cu ++ [.ref q]))) b' = some o := fun b' o hb' n => (upd_ne n).trans hb'
        refine ⟨c, _, _, ts, cs, cu ++ [.ref q], curC ++ [comOf bs ps i pt], done, rfl, fun b' o hb' n1 n2 => kp _ _ (s23 _ _ (k1' _ _ hb' n1 n2)) (fun z => by rw [z, hc] at hb'; cases hb'), hc, kp _ _ (s23 _ _ gT1) nTc, ?_, kp _ _ (s23 _ _ gC1) nCc, ?_, upd_same, ?_, by omega, ?_, eq⟩
        · have e3 : toksOf (ps.take (i + 1)) = toksOf (ps.take i) := by
            unfold toksOf
            rw [htake, List.filter_append]
            simp [hcm]
          rw [e3]
          exact (gTs1.same s23).off fun b' o hb' => kp _ _ hb' (fun z => by rw [z, gc3] at hb'; cases hb')
        · exact gCs1.keep fun b' o n h => ⟨n, kp _ _ (s23 _ _ h) n.2⟩
        · exact CsIn.push ⟨hq0, nqc⟩ (kp _ _ gq nqc) (gcu1.keep fun b' o n h => ⟨n, kp _ _ (s23 _ _ h) n.2⟩)
        · rw [List.length_append]
          show _ + 1 ≤ _
          omega
      | false =>
        have eq2 : splitFrom bs ps i (pt :: ps.drop (i + 1)) curC = curC :: splitFrom bs ps (i + 1) (ps.drop (i + 1)) [] := if_neg (by rw [hcm]; simp)
        rw [eq2] at eq
        refine ifF rfl ?_
        have tl : ts.length ≤ i := by
          rw [gTs1.len]
          unfold toksOf
          refine Nat.le_trans (List.length_filter_le _ _) ?_
          rw [List.length_take]
          omega
        refine ⟨_, rfl, p, _, _, _, _, rfl, hp, cl_Program e, na_Program_tokens e, rfl, .inl ⟨rfl, _, .of gT1⟩, _, rfl, aT, _, _, rfl, rfl, gT1, by omega, ?_⟩
        have kp2 : ∀ b' o, G1 b' = some o → b' ≠ aT → (upd G1 aT (.lst (ts ++ [.ref b]))) b' = some o := fun b' o hb' n => (upd_ne n).trans hb'
        have gT2 : (upd G1 aT (.lst (ts ++ [.ref b]))) aT = some (.lst (ts ++ [.ref b])) := upd_same
        generalize upd G1 aT (.lst (ts ++ [.ref b])) = G2 at *
        have gC2 := kp2 _ _ gC1 (Ne.symm nTC)
        have gc2 := kp2 _ _ gc1 (Ne.symm nTc)
        have hp2 := kp2 _ _ hp npT
        refine ⟨_, rfl, p, _, _, _, _, rfl, hp2, cl_Program e, na_Program_comments e, rfl, .inl ⟨rfl, _, .of gC2⟩, _, rfl, aC, _, _, rfl, rfl, gC2, (by rw [gCs1.len]; omega), ?_⟩
        have kp3 : ∀ b' o, G2 b' = some o → b' ≠ aC → (upd G2 aC (.lst (cs ++ [.ref c]))) b' = some o := fun b' o hb' n => (upd_ne n).trans hb'
        have gC3 : (upd G2 aC (.lst (cs ++ [.ref c]))) aC = some (.lst (cs ++ [.ref c])) := upd_same
        generalize upd G2 aC (.lst (cs ++ [.ref c])) = G3 at *
        refine ⟨Nat.zero_le _, fun c2 hc2 => ?_⟩
        have s4 := same_upd (o := .lst []) hc2
        have kp4 : ∀ b' o, G1 b' = some o → b' ≠ aT → b' ≠ aC → (upd G3 c2 (.lst [])) b' = some o := fun b' o hb' n1 n2 => s4 _ _ (kp3 _ _ (kp2 _ _ hb' n1) n2)
        have gT3 := kp3 _ _ gT2 nTC
        have hc20 : H c2 = none := by
          cases z : H c2 with
          | none => rfl
          | some o =>
            by_cases w1 : c2 = aT
            · rw [w1, gT3] at hc2
              cases hc2
            · by_cases w2 : c2 = aC
              · rw [w2, gC3] at hc2
                cases hc2
              · rw [kp3 _ _ (kp2 _ _ (k1' _ _ z w1 w2) w1) w2] at hc2
                cases hc2
        have new2 : ∀ b' o, (H b' = none ∧ b' ≠ c) → G1 b' = some o → (H b' = none ∧ b' ≠ c2) ∧ (upd G3 c2 (.lst [])) b' = some o := fun b' o n h => by
          have w1 : b' ≠ aT := fun z => by rw [z, hT] at n; cases n.1
          have w2 : b' ≠ aC := fun z => by rw [z, hC] at n; cases n.1
          exact ⟨⟨n.1, fun z => by rw [← z, kp3 _ _ (kp2 _ _ h w1) w2] at hc2; cases hc2⟩, kp4 _ _ h w1 w2⟩
        have ncc2 : c ≠ c2 := fun z => by rw [← z, kp3 _ _ gc2 (Ne.symm nCc)] at hc2; cases hc2
        refine ⟨c2, _, _, ts ++ [.ref b], cs ++ [.ref c], [], [], done ++ [curC], rfl, fun b' o hb' n1 n2 => kp4 _ _ (k1' _ _ hb' n1 n2) n1 n2, hc20, s4 _ _ gT3, ?_, s4 _ _ gC3, ?_, upd_same, trivial, ?_, Nat.zero_le _, ?_⟩
        · have e3 : toksOf (ps.take (i + 1)) = toksOf (ps.take i) ++ [pt] := by
            unfold toksOf
            rw [htake, List.filter_append]
            simp [hcm]
          rw [e3]
          refine PartsIn.push ⟨b, rfl, kp4 _ _ hb1 (fun z => by rw [z, gT1] at hb1; cases hb1) (fun z => by rw [z, gC1] at hb1; cases hb1)⟩ (gTs1.off fun b' o hb' => kp4 _ _ hb' (fun z => by rw [z, gT1] at hb'; cases hb') (fun z => by rw [z, gC1] at hb'; cases hb'))
        · exact ComsIn.push ⟨hc, ncc2⟩ (s4 _ _ (kp3 _ _ gc2 (Ne.symm nCc))) (gcu1.keep new2) (gCs1.keep new2)
        · rw [List.length_append]
          show _ + 1 ≤ _
          omega
        · rw [eq, List.append_assoc]
          rfl
    · rintro σ G ⟨c, z1, z2, ts, cs, cu, curC, done, rfl, k, hc, gT, gTs, gC, gCs, gc, gcu, dl, cl, eq⟩
      have hp := k _ _ h1 npT npC
      rw [hul, List.drop_length] at eq
      rw [hul, List.take_length] at gTs
      refine ⟨_, rfl, p, _, _, _, _, rfl, hp, cl_Program e, na_Program_comments e, rfl, .inl ⟨rfl, _, .of gC⟩, _, rfl, aC, _, _, rfl, rfl, gC, (by rw [gCs.len]; omega), ?_⟩
      have kp3 : ∀ b' o, G b' = some o → b' ≠ aC → (upd G aC (.lst (cs ++ [.ref c]))) b' = some o := fun b' o hb' n => (upd_ne n).trans hb'
      have gC3 : (upd G aC (.lst (cs ++ [.ref c]))) aC = some (.lst (cs ++ [.ref c])) := upd_same
      have nCc : aC ≠ c := fun z => by rw [z, hc] at hC; cases hC
      refine hQ _ ts (cs ++ [.ref c]) (fun b' o hb' n1 n2 => kp3 _ _ (k _ _ hb' n1 n2) n2) (kp3 _ _ gT nTC) (gTs.off fun b' o hb' => kp3 _ _ hb' (fun z => by rw [z, gC] at hb'; cases hb')) gC3 ?_
      rw [eq]
      have new : ∀ b' o, (H b' = none ∧ b' ≠ c) → G b' = some o → H b' = none ∧ (upd G aC (.lst (cs ++ [.ref c]))) b' = some o := fun b' o n h => ⟨n.1, kp3 _ _ h (fun z => by rw [z, hC] at n; cases n.1)⟩
      exact ComsIn.push hc (kp3 _ _ gc (Ne.symm nCc)) (gcu.keep new) (gCs.keep new)
theorem c_split_parts (e : Env w K mg) : Callee P w K mg base 5 "split_parts" ["program"] (spSplit K) := by
  obtain ⟨fd, F⟩ := e.d.def_ 40 (d := d_split_parts) rfl
  exact ⟨_, fd, ok_split_parts e F, e.glo (x := "split_parts") (List.mem_of_getElem? (i := 21) rfl), F.kp, F.bindsN fun _ _ _ _ _ _ us hl => match us, hl with | [_], _ => rfl⟩
end
end La
set_option maxHeartbeats 4000000
/-! programs.py: fault_of, read_program. -/
namespace La
open PySem PySem.Spec PyProof.Rows L2
def faultM (ok : Bool) (s : RS) (ts : List Part) (n : Nat) (flt : Option (Nat × Nat)) : Option (Nat × Nat) := if ok = true then flt else match ts[s.at_]? with
  | some t => some (2, t.lo)
  | none => some (flt.getD (3, n))
theorem scan_bd {bs : Bytes} : ∀ (f i : Nat), ∀ p ∈ (scanAt bs f i).1, p.lo < p.hi ∧ p.hi ≤ bs.length
  | 0, i, p, h => by cases h
  | f + 1, i, p, h => by
    cases e : bs[i]? with
    | none =>
      rw [scan_none e] at h
      cases h
    | some c =>
      by_cases c1 : c.toNat ∈ BLANK
      · rw [scan_blank e c1] at h
        exact scan_bd f (i + 1) p h
      · cases r : readPart bs i with
        | bad a b =>
          rw [scan_bad e c1 r] at h
          cases h
        | ok k en =>
          rw [scan_ok e c1 r] at h
          rcases List.mem_cons.mp h with rfl | h
          · exact readPart_bd r
          · exact scan_bd f en p h
theorem scan_count {bs : Bytes} : ∀ (f i : Nat), i ≤ bs.length → (scanAt bs f i).1.length + i ≤ bs.length
  | 0, i, h => by
    show 0 + i ≤ _
    omega
  | f + 1, i, h => by
    cases e : bs[i]? with
    | none =>
      rw [scan_none e]
      show 0 + i ≤ _
      omega
    | some c =>
      have hi : i < bs.length := (List.getElem?_eq_some_iff.mp e).1
      by_cases c1 : c.toNat ∈ BLANK
      · rw [scan_blank e c1]
        have := scan_count (bs := bs) f (i + 1) hi
        omega
      · cases r : readPart bs i with
        | bad a b =>
          rw [scan_bad e c1 r]
          show 0 + i ≤ _
          omega
        | ok k en =>
          rw [scan_ok e c1 r]
          obtain ⟨b1, b2⟩ := readPart_bd r
          have := scan_count (bs := bs) f en b2
          show (scanAt bs f en).1.length + 1 + i ≤ _
          omega
theorem split_count {bs : Bytes} {ps : List Part} : ∀ {i : Nat} {r : List Part} {cur : List Com}, (splitFrom bs ps i r cur).length = (toksOf r).length + 1
  | _, [], _ => rfl
  | i, p :: r, cur => by
    unfold splitFrom toksOf
    cases c : isCom p with
    | true =>
      rw [if_pos rfl, split_count, List.filter_cons_of_neg (by rw [c]; simp)]
      rfl
    | false =>
      rw [if_neg (by simp), List.length_cons, split_count, List.filter_cons_of_pos (by rw [c]; rfl)]
      rfl
/-- a reader's own objects are no tuples -/
theorem zw_kind {α : Type} {f : Addr × Addr → α → Addr × HO} {R : HO → Prop} (hf : ∀ p a, R (f p a).2) : ∀ {l : List (Addr × Addr)} {m : List α}, ∀ y ∈ List.zipWith f l m, R y.2
  | [], _, y, h => by cases h
  | _ :: _, [], y, h => by cases h
  | p :: l, a :: m, y, h => by
    rcases List.mem_cons.mp h with rfl | h
    · exact hf p a
    · exact zw_kind hf y h
theorem RA.not_tup {K : PySem.W.Frag} {ks : List (List Nat)} {cm : List Bool} {x : RX} {st : List Item} {s : RS} {H : Hp} (h : RA K ks cm x st s H) {b : Addr} {xs : List V} (hb : H b = some (.tup xs)) : b ∉ x.own := by
  intro hm
  rw [← h.own] at hm
  obtain ⟨y, hy, rfl⟩ := List.mem_map.mp hm
  have e := h.pts.2 y hy
  rw [hb] at e
  have k : ∀ zs, y.2 ≠ .tup zs := by
    unfold RX.pts at hy
    rcases List.mem_append.mp hy with m | m
    · rcases List.mem_append.mp m with m | m
      · unfold RX.base at m
        simp only [List.mem_cons, List.not_mem_nil, or_false] at m
        rcases m with rfl | rfl | rfl | rfl | rfl | rfl | rfl | rfl | rfl <;> intro zs z <;> cases z
      · exact zw_kind (R := fun o => ∀ zs, o ≠ .tup zs) (fun p a zs z => by cases z) y m
    · exact zw_kind (R := fun o => ∀ zs, o ≠ .tup zs) (fun p a zs z => by cases z) y m
  exact k xs (Option.some.inj e).symm
theorem FaultAt.off {H H' : Hp} {v : V} {f : Option (Nat × Nat)} (h : FaultAt H v f) (k : ∀ b o, H b = some (.tup o) → H' b = some (.tup o)) : FaultAt H' v f := by
  cases f with
  | none => exact h
  | some x =>
    obtain ⟨q, h1, h2⟩ := h
    exact ⟨q, h1, k _ _ h2⟩
section
variable {P : Program} {w : World} {K : PySem.W.Frag} {mg : Str → Option Value} {base : Heap} {f : Addr} {fd : FuncData}
def spFault (K : PySem.W.Frag) : Sp := fun vs H Q _ => ∃ (p dx t aR l aT aC : Addr) (fv : V) (flt : Option (Nat × Nat)) (bs : Bytes) (us : List V) (ts : List Part) (ks : List (List Nat)) (cm : List Bool) (x : RX) (n : Nat) (ok : Bool) (s' : RS), vs = [.ref p, fv] ∧
  H p = some (.ins (He.ga K "Program") dx (pF t aR l aT aC (.ref x.r))) ∧ (∀ G : Hp, (∀ b o, H b = some o → b ∉ x.own → G b = some o) → SqL K G t (B bs)) ∧ H aT = some (.lst us) ∧ PartsIn H us ts ∧ FaultAt H fv flt ∧ p ∉ x.own ∧ aT ∉ x.own ∧
  RA K ks cm x [.form "Program"] .first H ∧ cm.length = ks.length + 1 ∧ ks.length ≤ 4096 ∧ runX ks cm n [.form "Program"] .first = some (ok, s') ∧
  ∀ x' H' st' v, RA K ks cm x' st' s' H' → x'.r = x.r → Ext H H' x.own x'.own → FaultAt H' v (faultM ok s' ts bs.length flt) → Q v H'
theorem sc_fault_of : FnScope ["program", "fault", "at"] ["program", "fault"] (defScope s_fault_of) := ⟨rfl, rfl, rfl, by decide +kernel, rfl, by decide +kernel, by decide +kernel⟩
abbrev F_fault_of (K : PySem.W.Frag) (f : Addr) (fd : FuncData) : Prop := FunD K "fault_of" "fault_of" (defArgs s_fault_of) (defBody s_fault_of) (defScope s_fault_of) [] [] f fd
theorem ok_fault_of (e : Env w K mg) (F : F_fault_of K f fd) : FnOk P w K mg base CX0 7 f fd ["program", "fault"] (spFault K) := by
  obtain ⟨fd_Reader_read, G_Reader_read, b_Reader_read⟩ := c_Reader_read (P := P) (w := w) (base := base) e
  have m_len : mg "len" = none := e.free (List.mem_of_getElem? (i := 103) rfl)
  refine F.ok sc_fault_of (fun vs H Q E h => ?_) (fun cdv A outer s H vs Q E hr h => ⟨_, PSs.nox
    (pss_cons (ps_if (pt_truth (pe_meth0 (pe_fld (pv 0) rfl) (cl_Reader e) (mm_Reader_read e) G_Reader_read (hr.mono (by decide)) b_Reader_read .nil pass0) (fun _ => rfl)) (pss_one (ps_ret (pv 1))) pss_nil)
      (pss_cons (ps_set (i := 2) sc_fault_of.nd rfl (Or.inl rfl) (pe_callB call_len_seq (by rfl) m_len PySem.boot_len (pa_cons (pe_fld (pe_fld (pv 0) rfl) rfl) pa_nil)))
      (pss_cons (ps_if (pt_cmpR op_lt (pv 2) (pe_callB call_len_seq (by rfl) m_len PySem.boot_len (pa_cons (pe_fld (pv 0) rfl) pa_nil)) (nomark _)) (pss_one (ps_ret (pe_tup (pa_cons pe_int (pa_cons (pe_ix ix_tup (pe_ix ix_list (pe_fld (pv 0) rfl) (pv 2) (fun _ _ => rfl)) pe_int (fun _ _ => rfl)) pa_nil))))) pss_nil)
      (pss_one (ps_ret (pe_ifExp (pt_cmpR op_isN (pv 1) pe_non (nomark _)) (pe_tup (pa_cons pe_int (pa_cons (pe_callB call_len_seq (by rfl) m_len PySem.boot_len (pa_cons (pe_fld (pv 0) rfl) pa_nil)) pa_nil))) (pv 1))))))), ?_⟩)
  · obtain ⟨p, dx, t, aR, l, aT, aC, fv, flt, bs, us, ts, ks, cm, x, n, ok, s', rfl, _⟩ := h
    rfl
  · obtain ⟨p, dx, t, aR, l, aT, aC, fv, flt, bs, us, ts, ks, cm, x, n, ok, s', rfl, h1, h4, hT, hTs, hf, np, nT, R, hcm, hks, hrun, hQ⟩ := h
    refine ⟨_, rfl, p, _, _, _, _, rfl, h1, cl_Program e, na_Program_reader e, rfl, x.r, _, _, rfl, R.hr, rfl, ks, cm, x, n, ok, s', rfl, R, hcm, hks, hrun, fun x' H' st' R' er ex => ⟨_, rfl, ?_⟩⟩
    have kt : ∀ b o, H b = some (.tup o) → H' b = some (.tup o) := fun b o hb => ex.keep _ _ hb (R.not_tup hb)
    have hp1 := ex.keep _ _ h1 np
    have hT1 := ex.keep _ _ hT nT
    have hTs1 := hTs.off kt
    have hf1 := hf.off kt
    have h41 := h4 H' ex.keep
    have hr1 := R'.hr
    rw [er] at hr1
    cases ok with
    | true =>
      refine ifT rfl ⟨_, rfl, ?_⟩
      exact hQ x' H' st' fv R' er ex hf1
    | false =>
      refine ifF rfl ?_
      refine ⟨_, rfl, p, _, _, _, _, rfl, hp1, cl_Program e, na_Program_reader e, rfl, x.r, _, _, _, _, rfl, hr1, cl_Reader e, na_Reader_told e, rfl, x'.aT, _, rfl, .inl (.of R'.hT), ?_⟩
      refine ⟨_, rfl, _, rfl, p, _, _, _, _, rfl, hp1, cl_Program e, na_Program_tokens e, rfl, aT, _, rfl, .inl (.of hT1), _, _, rfl, rfl, _, rfl, ?_⟩
      rw [KS_len, hTs1.len]
      have hfm : faultM false s' ts bs.length flt = match ts[s'.at_]? with
        | some t => some (2, t.lo)
        | none => some (flt.getD (3, bs.length)) := rfl
      -- a new pair is handed back
      have fin : ∀ (r x0 : Nat), faultM false s' ts bs.length flt = some (r, x0) → ∀ q, H' q = none → Q (.ref q) (upd H' q (.tup [.int (r : Int), .int (x0 : Int)])) := fun r x0 hv q hq => by
        have s1 := same_upd (o := .tup [.int (r : Int), .int (x0 : Int)]) hq
        refine hQ x' _ st' _ ⟨R'.pts.same s1, R'.lg, R'.lf⟩ er (ex.trans (Ext.same s1)) ?_
        rw [hv]
        exact ⟨q, rfl, upd_same⟩
      by_cases c : s'.told.length < ts.length
      · refine ifT (decide_eq_true (by omega)) ?_
        have hx : ts[s'.at_]? = some (ts[s'.told.length]) := List.getElem?_eq_getElem c
        obtain ⟨v, hv, b, rfl, hb⟩ := hTs1.get hx
        rw [hx] at hfm
        refine ⟨_, rfl, p, _, _, _, _, rfl, hp1, cl_Program e, na_Program_tokens e, rfl, _, rfl, aT, _, _, _, rfl, rfl, .of hT1, (atI_nat hv), b, _, 1, _, rfl, rfl, .of hb, rfl, (by show 2 ≤ sizeLine; decide), ?_⟩
        exact fin 2 _ hfm
      · refine ifF (decide_eq_false (by omega)) ?_
        have hx : ts[s'.at_]? = none := List.getElem?_eq_none (Nat.le_of_not_lt c)
        rw [hx] at hfm
        cases flt with
        | none =>
          have hv : fv = .non := hf
          subst hv
          refine ⟨_, rfl, rfl, _, rfl, ifT rfl ?_⟩
          refine ⟨_, rfl, p, _, _, _, _, rfl, hp1, cl_Program e, na_Program_text e, rfl, t, _, rfl, .inl h41, (by show 2 ≤ sizeLine; decide), ?_⟩
          rw [B_len]
          exact fin 3 _ hfm
        | some y =>
          obtain ⟨q, rfl, hq⟩ := hf1
          refine ⟨_, rfl, rfl, _, rfl, ifF rfl ⟨_, rfl, ?_⟩⟩
          refine hQ x' H' st' _ R' er ex ?_
          rw [hfm]
          exact ⟨q, rfl, hq⟩
theorem c_fault_of (e : Env w K mg) : Callee P w K mg base 7 "fault_of" ["program", "fault"] (spFault K) := by
  obtain ⟨fd, F⟩ := e.d.def_ 41 (d := d_fault_of) rfl
  exact ⟨_, fd, ok_fault_of e F, e.glo (x := "fault_of") (List.mem_of_getElem? (i := 22) rfl), F.kp, F.bindsN fun _ _ _ _ _ _ us hl => match us, hl with | [_, _], _ => rfl⟩
end
end La
set_option maxHeartbeats 4000000
/-! programs.py: read_program. -/
namespace La
open PySem PySem.Spec PyProof.Rows L2
/-- a program's refusal -/
def refusedOf (bs : Bytes) : List Int := if 4096 < bs.length then [-1] else if withinM 100 [0] (kindsOf bs) = false then [-6] else match EwTree.read bs with
  | .error e => [-2, (e.1 : Int), (e.2 : Int)]
  | .ok _ => []
def cmOf (bs : Bytes) : List Bool := (comsOf bs (scan bs).1).map fun c => decide (0 < c.length)
theorem cm_len (bs : Bytes) : (cmOf bs).length = (kindsOf bs).length + 1 := by
  unfold cmOf comsOf kindsOf
  rw [List.length_map, split_count, List.length_map]
  rfl
theorem run_same {ks : List (List Nat)} {cm : List Bool} : ∀ {n m : Nat} {st : List Item} {s : RS} {a b : Bool × RS}, runX ks cm n st s = some a → runX ks cm m st s = some b → a = b
  | 0, _, _, _, _, _, h, _ => by cases h
  | _ + 1, 0, _, _, _, _, _, h => by cases h
  | n + 1, m + 1, st, s, a, b, h1, h2 => by
    unfold runX at h1 h2
    cases e : stepX ks cm st s with
    | done s' =>
      rw [e] at h1 h2
      exact Option.some.inj (h1.symm.trans h2)
    | fail s' =>
      rw [e] at h1 h2
      exact Option.some.inj (h1.symm.trans h2)
    | go st' s' =>
      rw [e] at h1 h2
      exact run_same (n := n) (m := m) h1 h2
theorem fault_is {bs : Bytes} {n : Nat} {ok : Bool} {s : RS} (h : runX (kindsOf bs) (cmOf bs) n [.form "Program"] .first = some (ok, s)) :
    (match faultM ok s (toksOf (scan bs).1) bs.length (scan bs).2 with
      | some e => EwTree.read bs = .error e
      | none => ok = true ∧ (scan bs).2 = none ∧ (∃ x, EwTree.read bs = .ok x) ∧ (EwTree.tokens bs).1.drop s.at_ = []) := by
  obtain ⟨n2, ok2, s2, h2, q⟩ := run_ends bs (cmOf bs)
  rw [← kinds_is] at h2
  have e := run_same h h2
  cases e
  have et := tokens_is bs
  have et2 : (EwTree.tokens bs).2 = (scan bs).2 := by rw [et]; rfl
  have et1 : (EwTree.tokens bs).1 = (toksOf (scan bs).1).map (toTok bs) := by rw [et]; rfl
  unfold faultM
  cases ok with
  | true =>
    rw [if_pos rfl] at q ⊢
    obtain ⟨q1, q2⟩ := q
    rw [et2] at q2
    cases hf : (scan bs).2 with
    | none =>
      rw [hf] at q2
      exact ⟨rfl, rfl, q2, q1⟩
    | some z =>
      rw [hf] at q2
      exact q2
  | false =>
    rw [if_neg Bool.false_ne_true] at q ⊢
    rw [et1, et2] at q
    cases hx : (toksOf (scan bs).1)[s.at_]? with
    | some t =>
      obtain ⟨h1, h2⟩ := List.getElem?_eq_some_iff.mp hx
      rw [← List.map_drop, List.drop_eq_getElem_cons h1, h2] at q
      exact q
    | none =>
      rw [← List.map_drop, List.drop_eq_nil_of_le (List.getElem?_eq_none_iff.mp hx)] at q
      exact q
/-- all that is known of a program that's none refused -/
structure PD (K : PySem.W.Frag) (H : Hp) (p dx a aR l aT aC : Addr) (rv : V) (bs : Bytes) (us ts cs : List V) (x : RX) (st : List Item) (s : RS) (n : Nat) : Prop where
  obj : H p = some (.ins (He.ga K "Program") dx (pF a aR l aT aC rv))
  text : SqL K H a (B bs)
  hl : H l = some (.lst us)
  parts : PartsIn H us (scan bs).1
  hT : H aT = some (.lst ts)
  toks : PartsIn H ts (toksOf (scan bs).1)
  hC : H aC = some (.lst cs)
  coms : ComsIn (He.ga K "Comment") (fun _ => True) H cs (comsOf bs (scan bs).1)
  rv : rv = .ref x.r
  rd : RA K (kindsOf bs) (cmOf bs) x st s H
  run : runX (kindsOf bs) (cmOf bs) n [.form "Program"] .first = some (true, s)
  len : bs.length ≤ 4096
  within : withinM 100 [0] (kindsOf bs) = true
  nof : (scan bs).2 = none
  all : (EwTree.tokens bs).1.drop s.at_ = []
  ok : ∃ y, EwTree.read bs = .ok y
def PRes (K : PySem.W.Frag) (H : Hp) (p a : Addr) (bs : Bytes) : Prop := ∃ dx aR l aT aC rv, H p = some (.ins (He.ga K "Program") dx (pF a aR l aT aC rv)) ∧ H aR = some (.lst (IL (refusedOf bs))) ∧
  (refusedOf bs = [] → ∃ us ts cs x st s n, PD K H p dx a aR l aT aC rv bs us ts cs x st s n)
theorem PD.same {K : PySem.W.Frag} {H H' : Hp} {p dx a aR l aT aC : Addr} {rv : V} {bs : Bytes} {us ts cs : List V} {x : RX} {st : List Item} {s : RS} {n : Nat} (h : PD K H p dx a aR l aT aC rv bs us ts cs x st s n) (q : Same H H') : PD K H' p dx a aR l aT aC rv bs us ts cs x st s n :=
  ⟨q _ _ h.obj, q.seq h.text, q _ _ h.hl, h.parts.same q, q _ _ h.hT, h.toks.same q, q _ _ h.hC, h.coms.keep (fun _ _ _ e => ⟨trivial, q _ _ e⟩), h.rv, ⟨h.rd.pts.same q, h.rd.lg, h.rd.lf⟩, h.run, h.len, h.within, h.nof, h.all, h.ok⟩
theorem PRes.same {K : PySem.W.Frag} {H H' : Hp} {p a : Addr} {bs : Bytes} (h : PRes K H p a bs) (s : Same H H') : PRes K H' p a bs := by
  obtain ⟨dx, aR, l, aT, aC, rv, h1, h2, h3⟩ := h
  refine ⟨dx, aR, l, aT, aC, rv, s _ _ h1, s _ _ h2, fun z => ?_⟩
  obtain ⟨us, ts, cs, x, st, s', n, h⟩ := h3 z
  exact ⟨us, ts, cs, x, st, s', n, h.same s⟩
theorem same_own {H H1 : Hp} {p : Addr} {o : HO} (s : Same H H1) (hp : H p = none) : Same H (upd H1 p o) := fun b o' hb => by
  rw [upd_ne (fun z => by rw [z, hp] at hb; cases hb)]
  exact s _ _ hb
section
variable {P : Program} {w : World} {K : PySem.W.Frag} {mg : Str → Option Value} {base : Heap} {f : Addr} {fd : FuncData}
def spReadP (K : PySem.W.Frag) : Sp := fun vs H Q _ => ∃ (a : Addr) (bs : Bytes), vs = [.ref a] ∧ SqL K H a (B bs) ∧ bs.length ≤ 5000 ∧
  ∀ H' p, Same H H' → H p = none → PRes K H' p a bs → Q (.ref p) H'
theorem sc_read_program : FnScope ["text", "program", "parts", "fault", "found", "comments"] ["text"] (defScope s_read_program) := ⟨rfl, rfl, rfl, by decide +kernel, rfl, by decide +kernel, by decide +kernel⟩
abbrev F_read_program (K : PySem.W.Frag) (f : Addr) (fd : FuncData) : Prop := FunD K "read_program" "read_program" (defArgs s_read_program) (defBody s_read_program) (defScope s_read_program) [] [] f fd
theorem ok_read_program (e : Env w K mg) (F : F_read_program K f fd) : FnOk P w K mg base CX0 8 f fd ["text"] (spReadP K) := by
  obtain ⟨fd_Program___init__, G_Program___init__, b_Program___init__⟩ := c_Program___init__ (P := P) (w := w) (base := base) e
  obtain ⟨f_scan, fd_scan, G_scan, m_scan, k_scan, b_scan⟩ := c_scan (P := P) (w := w) (base := base) e
  obtain ⟨f_split_parts, fd_split_parts, G_split_parts, m_split_parts, k_split_parts, b_split_parts⟩ := c_split_parts (P := P) (w := w) (base := base) e
  obtain ⟨f_depth_within, fd_depth_within, G_depth_within, m_depth_within, k_depth_within, b_depth_within⟩ := c_depth_within (P := P) (w := w) (base := base) e
  obtain ⟨fd_Program_token_kinds, G_Program_token_kinds, b_Program_token_kinds⟩ := c_Program_token_kinds (P := P) (w := w) (base := base) e
  obtain ⟨fd_Reader___init__, G_Reader___init__, b_Reader___init__⟩ := c_Reader___init__ (P := P) (w := w) (base := base) e
  obtain ⟨f_fault_of, fd_fault_of, G_fault_of, m_fault_of, k_fault_of, b_fault_of⟩ := c_fault_of (P := P) (w := w) (base := base) e
  have m_Program : mg "Program" = some (.ref (He.ga K "Program")) := e.glo (List.mem_of_getElem? (i := 68) rfl)
  obtain ⟨t_LONGEST, m_LONGEST⟩ := e.int (x := "LONGEST") (i := 4096) (List.mem_of_getElem? (i := 101) rfl)
  have m_Reader : mg "Reader" = some (.ref (He.ga K "Reader")) := e.glo (List.mem_of_getElem? (i := 43) rfl)
  have m_len : mg "len" = none := e.free (List.mem_of_getElem? (i := 103) rfl)
  obtain ⟨t_DEEPEST, m_DEEPEST⟩ := e.int (x := "DEEPEST") (i := 100) (List.mem_of_getElem? (i := 102) rfl)
  refine F.ok sc_read_program (fun vs H Q E h => ?_) (fun cdv A outer s H vs Q E hr h => ⟨_, PSs.nox
    (pss_cons (ps_set (i := 1) sc_read_program.nd rfl (Or.inl rfl) (pe_make (mk_Program e) G_Program___init__ (hr.mono (by decide)) rfl m_Program b_Program___init__ .nil pass0 (pa_cons (pv 0) pa_nil)))
      (pss_cons (ps_if (pt_cmpR op_gt (pe_callB call_len_seq (by rfl) m_len PySem.boot_len (pa_cons (pv 0) pa_nil)) (pe_glob (v := V.int 4096) rfl m_LONGEST ⟨_, rfl⟩) (nomark _)) (pss_cons (ps_fld (pv 1) (pe_lst (pa_cons (pe_un un_neg pe_int) pa_nil)) rfl)
      (pss_one (ps_ret (pv 1)))) pss_nil)
      (pss_cons (ps_asg (pe_call G_scan (hr.mono (by decide)) rfl m_scan k_scan b_scan .nil pass0 (pa_cons (pv 0) pa_nil)) (pg_tup rfl (pgs_cons (pg_name (i := 2) sc_read_program.nd rfl (Or.inl rfl)) (pgs_cons (pg_name (i := 3) sc_read_program.nd rfl (Or.inl rfl)) pgs_nil))))
      (pss_cons (ps_fld (pv 1) (pv 2) rfl)
      (pss_cons (ps_expr (pe_call G_split_parts (hr.mono (by decide)) rfl m_split_parts k_split_parts b_split_parts .nil pass0 (pa_cons (pv 1) pa_nil)))
      (pss_cons (ps_if (pt_not (pt_truth (pe_call G_depth_within (hr.mono (by decide)) rfl m_depth_within k_depth_within b_depth_within .nil pass0 (pa_cons (pe_meth0 (pv 1) (cl_Program e) (mm_Program_token_kinds e) G_Program_token_kinds (hr.mono (by decide)) b_Program_token_kinds .nil pass0) (pa_cons (pe_glob (v := V.int 100) rfl m_DEEPEST ⟨_, rfl⟩) pa_nil))) (fun _ => rfl))) (pss_cons (ps_fld (pv 1) (pe_lst (pa_cons (pe_un un_neg pe_int) pa_nil)) rfl)
      (pss_one (ps_ret (pv 1)))) pss_nil)
      (pss_cons (ps_fld (pv 1) (pe_make (mk_Reader e) G_Reader___init__ (hr.mono (by decide)) rfl m_Reader b_Reader___init__ .nil pass0 (pa_cons (pe_meth0 (pv 1) (cl_Program e) (mm_Program_token_kinds e) G_Program_token_kinds (hr.mono (by decide)) b_Program_token_kinds .nil pass0) (pa_cons (pe_lc (own := [("comments", 5)]) (g := (gName 5)) (tt := tYes) (by rfl) sc_read_program.nd (pi_list (pe_fld (pv 1) rfl)) (blkOk_by (own := [("comments", 5)]) (N := ["text", "program", "parts", "fault", "found", "comments"]) (sc := defScope s_read_program) (by decide +kernel)) (fun _ _ _ _ _ => (pg_name (i := 5) sc_read_program.nd rfl (Or.inl rfl))) (fun _ _ _ _ _ => pts_nil) (fun _ _ _ _ _ => (pe_cmpR op_gt (pe_callB (call_len_seqK (K := K) rfl) (by rfl) m_len PySem.boot_len (pa_cons (pv 5) pa_nil)) pe_int (nomark _)))) pa_nil))) rfl)
      (pss_cons (ps_set (i := 4) sc_read_program.nd rfl (Or.inl rfl) (pe_call G_fault_of (hr.mono (by decide)) rfl m_fault_of k_fault_of b_fault_of .nil pass0 (pa_cons (pv 1) (pa_cons (pv 3) pa_nil))))
      (pss_cons (ps_if (pt_cmpR op_notN (pv 4) pe_non (nomark _)) (pss_one (ps_fld (pv 1) (pe_lst (pa_cons (pe_un un_neg pe_int) (pa_cons (pe_ix ix_tup (pv 4) pe_int (fun _ _ => rfl)) (pa_cons (pe_ix ix_tup (pv 4) pe_int (fun _ _ => rfl)) pa_nil)))) rfl)) pss_nil)
      (pss_one (ps_ret (pv 1)))))))))))), ?_⟩)
  · obtain ⟨a, bs, rfl, _⟩ := h
    rfl
  · obtain ⟨a, bs, rfl, hS, hlen, hQ⟩ := h
    have hsz : (5000 : Nat) < sizeLine := by rw [sizeLine_eq]; decide
    refine ⟨_, rfl, ?_⟩
    intro p dx np ndx ne
    refine ⟨p, dx, a, rfl, upd_same, fun H1 p1 p2 p3 p4 I => ⟨rfl, ?_⟩⟩
    have s0 : Same H (upd (upd H dx (.own p)) p (.ins (He.ga K "Program") dx [])) := same_own (same_upd ndx) np
    have s1 : Same H H1 := fun b o hb => I.keep b o (s0 _ _ hb) (fun z => by rw [z, np] at hb; cases hb)
    have hp1 := I.self
    have hR1 : H1 p1 = some (.lst []) := I.pts.2 (p1, .lst []) (by simp)
    have hT1 : H1 p3 = some (.lst []) := I.pts.2 (p3, .lst []) (by simp)
    have hC1 : H1 p4 = some (.lst []) := I.pts.2 (p4, .lst []) (by simp)
    have nd := I.pts.1
    simp only [List.map_cons, List.map_nil, List.nodup_cons, List.mem_cons, List.not_mem_nil, or_false, not_or, List.nodup_nil, not_false_eq_true, and_true] at nd
    have hp3n : H p3 = none := s0.free (I.new (p3, .lst []) (by simp))
    have hp4n : H p4 = none := s0.free (I.new (p4, .lst []) (by simp))
    have hp1n : H p1 = none := s0.free (I.new (p1, .lst []) (by simp))
    have hS1 := s1.seq hS
    clear I
    -- a refusal's list is written
    have refuse : ∀ (G : Hp) (l aT aC : Addr) (rv : V) (xs : List Int), Same H G → G p = some (.ins (He.ga K "Program") dx (pF a p1 l aT aC rv)) → refusedOf bs = xs → xs ≠ [] → ∀ q, G q = none →
        Q (.ref p) (upd (upd G q (.lst (IL xs))) p (.ins (He.ga K "Program") dx (pF a q l aT aC rv))) := fun G l aT aC rv xs sG hG hx hne q hq => by
      refine hQ _ p (same_own (sG.trans (same_upd hq)) np) np ⟨dx, q, l, aT, aC, rv, upd_same, ?_, fun z => absurd (hx.symm.trans z) hne⟩
      rw [upd_ne (fun z => by rw [z, hG] at hq; cases hq), hx]
      exact upd_same
    refine ⟨_, rfl, a, _, rfl, .inl hS1, _, _, rfl, rfl, _, rfl, ?_⟩
    rw [B_len]
    by_cases c1 : 4096 < bs.length
    · refine ifT (decide_eq_true (by show (4096 : Int) < _; omega)) ?_
      refine ⟨_, rfl, (by show 1 ≤ sizeLine; decide), fun q hq => ⟨_, rfl, p, _, _, _, rfl, (by rw [upd_ne (fun z => by rw [z, hq] at hp1; cases hp1)]; exact hp1), cl_Program e, na_Program_refused e, (by show 6 < 1000; decide), _, rfl, ?_⟩⟩
      exact refuse H1 p2 p3 p4 .non [-1] s1 hp1 (by unfold refusedOf; rw [if_pos c1]) (by simp) q hq
    · refine ifF (decide_eq_false (by show ¬ (4096 : Int) < _; omega)) ?_
      refine ⟨_, rfl, a, bs, rfl, hS1, by omega, fun H2 t l us fv s2 nt nl ht hl hus hfv => ?_⟩
      refine ⟨t, _, rfl, .of ht, rfl, _, _, rfl, _, _, rfl, rfl, ?_⟩
      have hp2 := s2 _ _ hp1
      refine ⟨_, rfl, _, rfl, p, _, _, _, rfl, hp2, cl_Program e, na_Program_parts e, (by show 6 < 1000; decide), ?_⟩
      have eP : putF "parts" (V.ref l) (pF a p1 p2 p3 p4 .non) = pF a p1 l p3 p4 .non := rfl
      rw [eP]
      have s02 := s1.trans s2
      have s03 : Same H (upd H2 p (.ins (He.ga K "Program") dx (pF a p1 l p3 p4 .non))) := same_own s02 np
      have hp3 : (upd H2 p (.ins (He.ga K "Program") dx (pF a p1 l p3 p4 .non))) p = some (.ins (He.ga K "Program") dx (pF a p1 l p3 p4 .non)) := upd_same
      have nlp : l ≠ p := fun z => by rw [z, hp1] at nl; cases nl
      have kp : ∀ b o, H2 b = some o → b ≠ p → (upd H2 p (.ins (He.ga K "Program") dx (pF a p1 l p3 p4 .non))) b = some o := fun b o hb n => (upd_ne n).trans hb
      have hl3 := kp _ _ hl nlp
      have hT3 := kp _ _ (s2 _ _ hT1) (Ne.symm nd.1.2.2.1)
      have hC3 := kp _ _ (s2 _ _ hC1) (Ne.symm nd.1.2.2.2)
      have hR3 := kp _ _ (s2 _ _ hR1) (Ne.symm nd.1.1)
      have hus3 : PartsIn (upd H2 p (.ins (He.ga K "Program") dx (pF a p1 l p3 p4 .non))) us (scan bs).1 := hus.off fun b o hb => kp _ _ hb (fun z => by rw [z, hp2] at hb; cases hb)
      have hfv3 : FaultAt (upd H2 p (.ins (He.ga K "Program") dx (pF a p1 l p3 p4 .non))) fv (scan bs).2 := hfv.off fun b o hb => kp _ _ hb (fun z => by rw [z, hp2] at hb; cases hb)
      clear kp hp2
      generalize upd H2 p (.ins (He.ga K "Program") dx (pF a p1 l p3 p4 .non)) = H3 at *
      have nl3 : l ≠ p3 := fun z => by rw [z, hT1] at nl; cases nl
      have nl4 : l ≠ p4 := fun z => by rw [z, hC1] at nl; cases nl
      have hcount : (scan bs).1.length ≤ 4096 := by
        have := scan_count (bs := bs) (bs.length + 1) 0 (Nat.zero_le _)
        unfold scan
        omega
      refine ⟨_, rfl, p, dx, a, p1, l, p3, p4, bs, us, (scan bs).1, rfl, hp3, fun G k => sq_keep hS fun o ho => k a o (s03 _ _ ho) (fun z => by rw [z, hp3n] at ho; cases ho) (fun z => by rw [z, hp4n] at ho; cases ho), hl3, hus3, hT3, hC3, nd.2.2.2, nl3, nl4, hcount, fun y hy => Nat.le_of_lt (scan_bd (bs.length + 1) 0 y hy).1, fun H4 ts cs k4 hT4 hTs4 hC4 hCs4 => ?_⟩
      have s04 : Same H H4 := fun b o hb => k4 b o (s03 _ _ hb) (fun z => by rw [z, hp3n] at hb; cases hb) (fun z => by rw [z, hp4n] at hb; cases hb)
      have hp4 := k4 _ _ hp3 nd.1.2.2.1 nd.1.2.2.2
      have hl4 := k4 _ _ hl3 nl3 nl4
      have hR4 := k4 _ _ hR3 nd.2.1.2.1 nd.2.1.2.2
      have hus4 : PartsIn H4 us (scan bs).1 := hus3.off fun b o hb => k4 _ _ hb (fun z => by rw [z, hT3] at hb; cases hb) (fun z => by rw [z, hC3] at hb; cases hb)
      have hfv4 : FaultAt H4 fv (scan bs).2 := hfv3.off fun b o hb => k4 _ _ hb (fun z => by rw [z, hT3] at hb; cases hb) (fun z => by rw [z, hC3] at hb; cases hb)
      have hCs4' : ComsIn (He.ga K "Comment") (fun _ => True) H4 cs (comsOf bs (scan bs).1) := hCs4.keep fun _ _ _ h => ⟨trivial, h⟩
      have htl : (toksOf (scan bs).1).length ≤ 4096 := Nat.le_trans (List.length_filter_le _ _) hcount
      have hkl : (kindsOf bs).length ≤ 4096 := by
        unfold kindsOf
        rw [List.length_map]
        exact htl
      refine ⟨_, rfl, p, _, _, rfl, hp4, rfl, p, dx, a, p1, l, p3, p4, .non, ts, toksOf (scan bs).1, rfl, hp4, hT4, hTs4, htl, fun H5 q5 s5 nq5 hq5 => ?_⟩
      refine ⟨q5, kindsOf bs, 100, rfl, .of hq5, hkl, fun H6 s6 => ⟨_, rfl, ?_⟩⟩
      have s46 := s5.trans s6
      have s06 := s04.trans s46
      have hp6 := s46 _ _ hp4
      cases c2 : withinM 100 [0] (kindsOf bs) with
      | false =>
        refine ifT rfl ?_
        refine ⟨_, rfl, (by show 1 ≤ sizeLine; decide), fun q hq => ⟨_, rfl, p, _, _, _, rfl, (by rw [upd_ne (fun z => by rw [z, hq] at hp6; cases hp6)]; exact hp6), cl_Program e, na_Program_refused e, (by show 6 < 1000; decide), _, rfl, ?_⟩⟩
        exact refuse H6 l p3 p4 .non [-6] s06 hp6 (by unfold refusedOf; rw [if_neg c1, if_pos c2]) (by simp) q hq
      | true =>
        refine ifF rfl ?_
        have hT6 := s46 _ _ hT4
        have hC6 := s46 _ _ hC4
        refine ⟨_, rfl, p, _, _, rfl, hp6, rfl, p, dx, a, p1, l, p3, p4, .non, ts, toksOf (scan bs).1, rfl, hp6, hT6, hTs4.same s46, htl, fun H7 q7 s7 nq7 hq7 => ?_⟩
        have s47 := s46.trans s7
        have hp7 := s47 _ _ hp4
        have hC7 := s47 _ _ hC4
        have hCs7 : ComsIn (He.ga K "Comment") (fun _ => True) H7 cs (comsOf bs (scan bs).1) := hCs4'.keep fun _ _ _ h => ⟨trivial, s47 _ _ h⟩
        refine ⟨_, rfl, p, _, _, _, _, rfl, hp7, cl_Program e, na_Program_comments e, rfl, p4, rfl, ⟨_, .of hC7⟩, fun D hD => ?_⟩
        refine lc_list (K := K) (a := p4) (xs := cs) (fun k G => G D = some (.lst (BL (((comsOf bs (scan bs).1).take k).map fun c => decide (0 < c.length)))) ∧ ∀ b, b ≠ D → G b = H7 b)
          ⟨upd_same, fun b hb => upd_ne hb⟩ ?_ ?_ ?_
        · rintro k G _ ⟨_, sG⟩
          exact .of (keep_off hD sG _ _ hC7)
        · rintro k y G hk ⟨ha, sG⟩
          obtain ⟨c, b, cu, hc, rfl, _, hb, hcu⟩ := hCs7.get hk
          have hb1 := keep_off hD sG _ _ hb
          have e1 : (comsOf bs (scan bs).1).take (k + 1) = (comsOf bs (scan bs).1).take k ++ [c] := by
            rw [List.take_add_one, hc]
            rfl
          refine ⟨rfl, _, rfl, b, cu, rfl, .inl (.of hb1), _, _, rfl, rfl, _, ha, ?_, upd_same.trans ?_, fun b' hb' => ?_⟩
          · unfold BL
            rw [List.length_map, List.length_map, List.length_take]
            have : (comsOf bs (scan bs).1).length ≤ (scan bs).1.length + 1 := split_len
            omega
          · rw [e1, List.map_append, hcu.len]
            show some (HO.lst (BL _ ++ [V.bl (decide ((0 : Int) < (c.length : Int)))])) = _
            have e2 : decide ((0 : Int) < (c.length : Int)) = decide (0 < c.length) := decide_eq_decide.mpr ⟨fun h => by omega, fun h => by omega⟩
            rw [e2]
            unfold BL
            rw [List.map_append]
            rfl
          · rw [upd_ne hb']
            exact sG b' hb'
        · rintro G ⟨ha, sG⟩
          rw [hCs7.len, List.take_length] at ha
          have s7G : Same H7 G := keep_off hD sG
          have s4G := s47.trans s7G
          have s0G := s04.trans s4G
          have hqG := s7G _ _ hq7
          intro r dr nr ndr ner
          have nqr : q7 ≠ r := fun z => by rw [z, nr] at hqG; cases hqG
          have nqd : q7 ≠ dr := fun z => by rw [z, ndr] at hqG; cases hqG
          have nDr : D ≠ r := fun z => by rw [z, nr] at ha; cases ha
          have nDd : D ≠ dr := fun z => by rw [z, ndr] at ha; cases ha
          have nqD : q7 ≠ D := fun z => by rw [z, hD] at hq7; cases hq7
          refine ⟨r, dr, q7, D, kindsOf bs, cmOf bs, rfl, upd_same, (by rw [upd_ne nqr, upd_ne nqd]; exact hqG), (by rw [upd_ne nDr, upd_ne nDd]; exact ha), nqD, fun x H8 R er eK eC keep own => ⟨rfl, ?_⟩⟩
          have sG8 : Same G H8 := fun b o hb => keep b o (by rw [upd_ne (fun z => by rw [z, nr] at hb; cases hb), upd_ne (fun z => by rw [z, ndr] at hb; cases hb)]; exact hb) (fun z => by rw [z, nr] at hb; cases hb)
          have s48 := s4G.trans sG8
          have s08 := s0G.trans sG8
          have hp8 := s48 _ _ hp4
          -- the reader's own objects are none that stood at H4
          have own4 : ∀ b ∈ x.own, H4 b = none := fun b hb => by
            rcases own b hb with h | h | h | h
            · rw [h]
              exact s4G.free nr
            · rw [h]
              exact (s46.free nq7 : _)
            · rw [h]
              exact s47.free hD
            · refine s4G.free ?_
              cases z : G b with
              | none => rfl
              | some o =>
                rw [upd_ne (fun w => by rw [w, nr] at z; cases z), upd_ne (fun w => by rw [w, ndr] at z; cases z), z] at h
                cases h
          refine ⟨_, rfl, p, _, _, _, rfl, hp8, cl_Program e, na_Program_reader e, (by show 6 < 1000; decide), ?_⟩
          have npo : p ∉ x.own := fun h => by rw [own4 p h] at hp4; cases hp4
          have R9 : RA K (kindsOf bs) (cmOf bs) x [.form "Program"] .first (upd H8 p (.ins (He.ga K "Program") dx (pF a p1 l p3 p4 (.ref x.r)))) := by
            refine ⟨⟨R.pts.1, fun y hy => ?_⟩, R.lg, R.lf⟩
            have hm : y.1 ∈ x.own := by
              rw [← R.own]
              exact List.mem_map.mpr ⟨y, hy, rfl⟩
            rw [upd_ne (fun z => npo (by rw [← z]; exact hm))]
            exact R.pts.2 y hy
          have hp9 : (upd H8 p (.ins (He.ga K "Program") dx (pF a p1 l p3 p4 (.ref x.r)))) p = some (.ins (He.ga K "Program") dx (pF a p1 l p3 p4 (.ref x.r))) := upd_same
          have s09 : Same H (upd H8 p (.ins (He.ga K "Program") dx (pF a p1 l p3 p4 (.ref x.r)))) := same_own s08 np
          have k49 : ∀ b o, H4 b = some o → b ≠ p → (upd H8 p (.ins (He.ga K "Program") dx (pF a p1 l p3 p4 (.ref x.r)))) b = some o := fun b o hb n => (upd_ne n).trans (s48 _ _ hb)
          have eF : putF "reader" (V.ref r) (pF a p1 l p3 p4 .non) = pF a p1 l p3 p4 (.ref x.r) := by rw [er]; rfl
          rw [eF]
          generalize upd H8 p (.ins (He.ga K "Program") dx (pF a p1 l p3 p4 (.ref x.r))) = H9 at *
          have npT : p3 ≠ p := Ne.symm nd.1.2.2.1
          have npC : p4 ≠ p := Ne.symm nd.1.2.2.2
          have npl : l ≠ p := nlp
          have npR : p1 ≠ p := Ne.symm nd.1.1
          have tp4 : ∀ b o, H4 b = some (.tup o) → H9 b = some (.tup o) := fun b o hb => k49 _ _ hb (fun z => by rw [z, hp4] at hb; cases hb)
          obtain ⟨n, ok, s', hrun, _⟩ := run_ends bs (cmOf bs)
          rw [← kinds_is] at hrun
          refine ⟨_, rfl, _, rfl, p, dx, a, p1, l, p3, p4, fv, (scan bs).2, bs, ts, toksOf (scan bs).1, kindsOf bs, cmOf bs, x, n, ok, s', rfl, hp9, fun G2 k => sq_keep hS fun o ho => k a o (s09 _ _ ho) (fun z => by have w := own4 a z; rw [s04 _ _ ho] at w; cases w), k49 _ _ hT4 npT, hTs4.off tp4, hfv4.off tp4, npo, (fun z => by rw [own4 _ z] at hT4; cases hT4), R9, cm_len bs, hkl, hrun, fun x' HA st' v RA' er' exA hv => ?_⟩
          have fi := fault_is hrun
          have kA : ∀ b o, H4 b = some o → b ≠ p → HA b = some o := fun b o hb n => exA.keep _ _ (k49 _ _ hb n) (fun z => by rw [own4 _ z] at hb; cases hb)
          have hpA := exA.keep _ _ hp9 npo
          have s0A : Same H HA := fun b o hb => kA b o (s04 _ _ hb) (fun z => by rw [z, np] at hb; cases hb)
          have hRA := kA _ _ hR4 npR
          cases hfm : faultM ok s' (toksOf (scan bs).1) bs.length (scan bs).2 with
          | none =>
            rw [hfm] at hv fi
            obtain ⟨rfl, fi2, fi3, fi4⟩ := fi
            have ev : v = .non := hv
            subst ev
            refine ⟨_, rfl, rfl, _, rfl, ifF rfl ⟨_, rfl, ?_⟩⟩
            have er0 : refusedOf bs = [] := by
              obtain ⟨y, hy⟩ := fi3
              unfold refusedOf
              rw [if_neg c1, if_neg (by rw [c2]; simp), hy]
            refine hQ HA p s0A np ⟨dx, p1, l, p3, p4, .ref x.r, hpA, (by rw [er0]; exact hRA), fun _ => ⟨us, ts, cs, x', st', s', n, ?_⟩⟩
            exact ⟨hpA, s0A.seq hS, kA _ _ hl4 npl, hus4.off (fun b o hb => kA _ _ hb (fun z => by rw [z, hp4] at hb; cases hb)), kA _ _ hT4 npT, hTs4.off (fun b o hb => kA _ _ hb (fun z => by rw [z, hp4] at hb; cases hb)), kA _ _ hC4 npC,
              hCs4.keep (fun b o hn hb => ⟨trivial, kA _ _ hb (fun z => by rw [z, hp3] at hn; cases hn)⟩), by rw [er'], RA', hrun, by omega, c2, fi2, fi4, fi3⟩
          | some y =>
            rw [hfm] at hv fi
            obtain ⟨q, rfl, hq⟩ := hv
            refine ⟨_, rfl, rfl, _, rfl, ifT rfl ?_⟩
            refine ⟨_, rfl, _, rfl, q, _, 0, _, rfl, rfl, .of hq, rfl, _, rfl, q, _, 1, _, rfl, rfl, .of hq, rfl, (by show 3 ≤ sizeLine; decide), fun q2 hq2 => ⟨_, rfl, p, _, _, _, rfl, (by rw [upd_ne (fun z => by rw [z, hq2] at hpA; cases hpA)]; exact hpA), cl_Program e, na_Program_refused e, (by show 6 < 1000; decide), _, rfl, ?_⟩⟩
            exact refuse HA l p3 p4 (.ref x.r) [-2, (y.1 : Int), (y.2 : Int)] s0A hpA (by unfold refusedOf; rw [if_neg c1, if_neg (by rw [c2]; simp), show EwTree.read bs = .error y from fi]) (by simp) q2 hq2
theorem c_read_program (e : Env w K mg) : Callee P w K mg base 8 "read_program" ["text"] (spReadP K) := by
  obtain ⟨fd, F⟩ := e.d.def_ 42 (d := d_read_program) rfl
  exact ⟨_, fd, ok_read_program e F, e.glo (x := "read_program") (List.mem_of_getElem? (i := 23) rfl), F.kp, F.bindsN fun _ _ _ _ _ _ us hl => match us, hl with | [_], _ => rfl⟩
end
end La
set_option maxHeartbeats 4000000
/-! == of lists; the elements' bytes; refusals by the specification. -/
namespace La
open PySem PySem.Spec PyProof.Rows L2
/-! ### == of lists of whole numbers, of lists of rows of bytes -/
def PIs (l : List Int) : List PyData := l.map PyData.int
theorem dp_I {K : PySem.W.Frag} {H : Hp} : ∀ l : List Int, DpAll K H (IL l) (PIs l)
  | [] => .nil
  | b :: r => .cons (.int _) (dp_I r)
theorem canLay_PI : ∀ l : List Int, PyData.canLayAll0 (PIs l) = true
  | [] => by unfold PIs PyData.canLayAll0; rfl
  | b :: r => by
    have ih := canLay_PI r
    show PyData.canLayAll0 (PyData.int _ :: PIs r) = true
    unfold PyData.canLayAll0
    rw [ih]
    unfold PyData.canLay0
    rfl
theorem depth_PI : ∀ l : List Int, PyData.depthAll (PIs l) = 0
  | [] => by unfold PIs PyData.depthAll; rfl
  | b :: r => by
    have ih := depth_PI r
    show PyData.depthAll (PyData.int _ :: PIs r) = 0
    unfold PyData.depthAll
    rw [ih]
    unfold PyData.depth
    rfl
theorem shaped_I (l : List Int) : SeqAt.shaped (.list (PIs l)) = true := by
  unfold SeqAt.shaped
  unfold PyData.canLay0 PyData.depth
  rw [canLay_PI, depth_PI]
  rfl
theorem eqvAll_PI : ∀ l m : List Int, PyData.eqvAll (PIs l) (PIs m) = decide (l = m)
  | [], [] => by unfold PIs PyData.eqvAll; rfl
  | [], c :: s => by unfold PIs PyData.eqvAll; rfl
  | b :: r, [] => by unfold PIs PyData.eqvAll; rfl
  | b :: r, c :: s => by
    have ih := eqvAll_PI r s
    show PyData.eqvAll (PyData.int _ :: PIs r) (PyData.int _ :: PIs s) = _
    unfold PyData.eqvAll
    rw [ih]
    unfold PyData.eqv
    rw [Bool.eq_iff_iff]
    simp only [Bool.and_eq_true, beq_iff_eq, decide_eq_true_eq, List.cons.injEq]
theorem eqv_I (l m : List Int) : PyData.eqv (.list (PIs l)) (.list (PIs m)) = decide (l = m) := by
  unfold PyData.eqv
  exact eqvAll_PI l m
def PLs (l : List Bytes) : List PyData := l.map fun b => .list (PB b)
theorem dp_L {K : PySem.W.Frag} {H : Hp} : ∀ {vs : List V} {l : List Bytes}, LsIn H vs (l.map B) → DpAll K H vs (PLs l)
  | [], [], _ => .nil
  | [], _ :: _, h => h.elim
  | _ :: _, [], h => h.elim
  | v :: r, b :: t, ⟨⟨a, e, h1⟩, h2⟩ => by
    subst e
    exact .cons (.lst (.of h1) (dp_B b)) (dp_L h2)
theorem canLay_L : ∀ l : List Bytes, PyData.canLayAll0 (PLs l) = true
  | [] => by unfold PLs PyData.canLayAll0; rfl
  | b :: r => by
    have ih := canLay_L r
    show PyData.canLayAll0 (PyData.list (PB b) :: PLs r) = true
    unfold PyData.canLayAll0
    rw [ih]
    unfold PyData.canLay0
    rw [canLay_PB]
    rfl
theorem depth_L : ∀ l : List Bytes, PyData.depthAll (PLs l) ≤ 1
  | [] => by unfold PLs PyData.depthAll; exact Nat.zero_le 1
  | b :: r => by
    have ih := depth_L r
    show PyData.depthAll (PyData.list (PB b) :: PLs r) ≤ 1
    unfold PyData.depthAll
    have e : PyData.depth (PyData.list (PB b)) = 1 := by
      unfold PyData.depth
      rw [depth_PB]
    rw [e]
    omega
theorem shaped_L (l : List Bytes) : SeqAt.shaped (.list (PLs l)) = true := by
  unfold SeqAt.shaped
  have h := depth_L l
  have e : PyData.depth (PyData.list (PLs l)) = PyData.depthAll (PLs l) + 1 := by rw [PyData.depth]
  have e2 : PyData.canLay0 (PyData.list (PLs l)) = true := by
    unfold PyData.canLay0
    rw [canLay_L]
  rw [e, e2, decide_eq_true (by omega)]
  rfl
theorem eqvAll_L : ∀ l m : List Bytes, PyData.eqvAll (PLs l) (PLs m) = decide (l = m)
  | [], [] => by unfold PLs PyData.eqvAll; rfl
  | [], c :: s => by unfold PLs PyData.eqvAll; rfl
  | b :: r, [] => by unfold PLs PyData.eqvAll; rfl
  | b :: r, c :: s => by
    have ih := eqvAll_L r s
    show PyData.eqvAll (PyData.list (PB b) :: PLs r) (PyData.list (PB c) :: PLs s) = _
    unfold PyData.eqvAll
    rw [ih, eqv_B]
    rw [Bool.eq_iff_iff]
    simp only [Bool.and_eq_true, decide_eq_true_eq, List.cons.injEq]
theorem eqv_L (l m : List Bytes) : PyData.eqv (.list (PLs l)) (.list (PLs m)) = decide (l = m) := by
  unfold PyData.eqv
  exact eqvAll_L l m
theorem cut_I1 (l : List Int) : cutV (IL l) none (some 1) = IL (l.take 1) := by
  unfold cutV
  rw [HT.sIx_none, show (1 : Int) = ((1 : Nat) : Int) from rfl, HT.sIx_nat, IL_len]
  unfold IL
  rw [List.drop_zero, ← List.map_take]
  congr 1
  rw [List.take_eq_take_iff]
  omega
def elB (bs : Bytes) : List Bytes := (scan bs).1.map (partB bs)
theorem ok_nof {bs : Bytes} {y} (h : EwTree.read bs = .ok y) : (scan bs).2 = none := by
  obtain ⟨n, ok, s, hrun, _⟩ := run_ends bs (cmOf bs)
  rw [← kinds_is] at hrun
  have q := fault_is hrun
  split at q
  · rw [h] at q
    cases q
  · exact q.2.1
theorem els_bytes {bs : Bytes} : ∀ (k : Nat) (ps : List Part), (elsOf k ps).map (EwNeat.bytesOf bs) = ps.map (partB bs)
  | _, [] => rfl
  | k, p :: r => by
    unfold elsOf
    split
    all_goals
      rw [List.map_cons, List.map_cons, els_bytes]
      congr 1
      show EwNeat.between bs p.lo p.hi = partB bs p
      unfold EwNeat.between partB
      rw [List.drop_take]
theorem el_is {bs : Bytes} {y} (h : EwTree.read bs = .ok y) : (EwNeat.elements bs).map (EwNeat.bytesOf bs) = elB bs := by
  rw [elements_is (ok_nof h), els_bytes]
  rfl
theorem refused_long {bs : Bytes} (h : WrNeat.short bs = false) : refusedOf bs = [-1] := by
  unfold refusedOf
  rw [if_pos]
  have := of_decide_eq_false h
  unfold WrNeat.LONG at this
  omega
theorem refused_deep {bs : Bytes} (h : WrNeat.short bs = true) (h2 : WrNeat.shallow bs = false) : refusedOf bs = [-6] := by
  unfold refusedOf
  have h1 := of_decide_eq_true h
  unfold WrNeat.LONG at h1
  rw [if_neg (by omega), if_pos]
  rw [depth_is]
  exact h2
theorem refused_read {bs : Bytes} (h : WrNeat.short bs = true) (h2 : WrNeat.shallow bs = true) : refusedOf bs = match EwTree.read bs with
    | .error e => [-2, (e.1 : Int), (e.2 : Int)]
    | .ok _ => [] := by
  unfold refusedOf
  have h1 := of_decide_eq_true h
  unfold WrNeat.LONG at h1
  have h3 : decide (EwTree.depth bs ≤ 100) = true := h2
  rw [if_neg (by omega), if_neg (by rw [depth_is, h3]; simp)]
  all_goals (cases EwTree.read bs <;> rfl)
/-- bytes as they're handed in -/
theorem text_is {ns : List Int} (h : ns.all (fun (z : Int) => decide (0 ≤ z) && decide (z ≤ 255)) = true) : ns.map V.int = B (WrNeatNeutral.text ns) := by
  unfold B WrNeatNeutral.text
  rw [List.map_map]
  refine List.map_congr_left fun n hn => ?_
  obtain ⟨h1, h2⟩ := He.ba (List.all_eq_true.mp h n hn)
  have h3 := of_decide_eq_true h1
  have h4 := of_decide_eq_true h2
  show V.int n = V.int ((UInt8.ofNat n.toNat).toNat : Int)
  congr 1
  rw [UInt8.toNat_ofNat']
  omega
theorem text_len (ns : List Int) : (WrNeatNeutral.text ns).length = ns.length := List.length_map ..
end La
set_option maxHeartbeats 200000
/-! Folds as total functions on parts' numbers; no library. -/
namespace La
/-- pairs of brackets on unlike lines, as the dict has them -/
def bst (L : Nat → Nat) : Nat → List (List Nat) → List Nat → List (Nat × Nat) → List (Nat × Nat)
  | _, [], _, acc => acc
  | i, k :: r, st, acc => if k ∈ BEG then bst L (i + 1) r (i :: st) acc else if k ∈ FIN then (match st with
    | b :: s => bst L (i + 1) r s (if L b < L i then (b, i) :: acc else acc)
    | [] => bst L (i + 1) r [] acc) else bst L (i + 1) r st acc
/-- no closing bracket without an opening one -/
def bok : Nat → List (List Nat) → Bool
  | _, [] => true
  | d, k :: r => if k ∈ BEG then bok (d + 1) r else if k ∈ FIN then decide (0 < d) && bok (d - 1) r else bok d r
/-- rows of comments, as the dict has them -/
def cst (byI : Nat → Bool) (L : Nat → Nat) : Nat → Nat → Option Nat → List (Nat × Nat) → List (Nat × Nat)
  | 0, _, _, acc => acc
  | n + 1, i, b, acc => if byI i = false then cst byI L n (i + 1) none acc else match b with
    | some b0 => if L i = L (i - 1) + 1 then cst byI L n (i + 1) (some b0) ((b0, i) :: acc) else cst byI L n (i + 1) (some i) acc
    | none => cst byI L n (i + 1) (some i) acc
def popE (i : Nat) (ends : List Nat) : List Nat := if ends.head? = some i then ends.tail else ends
def svm (L : Nat → Nat) (cl bl : Nat → Option Nat) : Nat → Nat → List Nat → List (Nat × Nat × Nat)
  | 0, _, _ => []
  | n + 1, i, ends => (match cl i with
      | some e => [(L i, L e, (popE i ends).length)]
      | none => []) ++ match bl i with
      | some e => (L i, L e, (popE i ends).length) :: svm L cl bl n (i + 1) (e :: popE i ends)
      | none => svm L cl bl n (i + 1) (popE i ends)
end La
set_option maxHeartbeats 4000000
/-! xs.extend(t), t a tuple. -/
namespace La
open PySem PySem.Spec PyProof.Rows L2
theorem meets_extT (l b : Addr) (xs ys : Array Value) (n : Nat) (small : ¬ (!xs.isEmpty && Builtin.List.listTooLong (xs.size + ys.size)) = true) (hx : xs.size ≤ sizeLine) (hy : xs.size + ys.size ≤ sizeLine + 1) :
    Meets (Builtin.«list.extend» ⟨[.ref l, .ref b], []⟩) fun _ R s => s.heap.get? l = some { cls := .type "list", dict := none, data := .seq xs n, slots := #[] } ∧ IsTup s.heap b ys ∧ R (.ok (.ret Value.none)) { s with heap := s.heap.update l (Obj.mapSeq fun x => x ++ ys) } := by
  intro prog w A R s h
  obtain ⟨hl, ⟨o, ho, hc, m, hd⟩, k⟩ := h
  show wpAny (model prog w) A.in1 (Builtin.List.listExtendWith (.ref l) (.ref b) .none) _ _ s
  unfold Builtin.List.listExtendWith
  refine wpAny_bind (wpAny_typeOf ⟨o, ho, hc⟩ ?_)
  rw [if_pos (by rw [Bool.or_eq_true]; exact .inr rfl)]
  refine wpAny_bind ?_
  unfold Builtin.List.listItems
  refine wpAny_bind (wpAny_seqItems ho hd (wpAny_pure ?_))
  refine wpAny_bind ?_
  refine wpAny_bind (wpAny_seqItems hl rfl (wpAny_pure ?_))
  rw [if_neg small]
  refine wpAny_bind (wpAny_updateSeq hl rfl ?_ hx (by rw [Array.size_append]; exact hy))
  exact wpAny_pure k
def rExtT (K : PySem.W.Frag) : V → List V → Hp → VK → Prop := fun x vs H Q => ∃ l b xs zs, x = .ref l ∧ vs = [.ref b] ∧ H l = some (.lst xs) ∧ SqT K H b zs ∧ xs.length + zs.length ≤ sizeLine ∧ Q .non (upd H l (.lst (xs ++ zs)))
theorem mt_extT {X : Cx} : MtM X "list.extend" (rExtT X.K) := by
  intro pins s σ H x vs v us Q I rx rv h
  obtain ⟨l, b, xs, zs, rfl, rfl, hl, hb, hz, q⟩ := h
  cases rx
  obtain ⟨u, rfl, ru⟩ := rv.one
  cases ru
  obtain ⟨_, its, n, r, len, at_⟩ := I.lstM hl
  obtain ⟨its2, r2, tp, _⟩ := I.tuple hb
  have len2 := r2.length
  have sz : its.toArray.size + its2.toArray.size ≤ sizeLine := by simp only [List.size_toArray]; omega
  have small : ¬ (!its.toArray.isEmpty && Builtin.List.listTooLong (its.toArray.size + its2.toArray.size)) = true := fun h => by
    rw [notLongL sz, Bool.and_false] at h
    cases h
  refine call_meets F.slot_list_extend ⟨_, at_, rfl⟩ F.entry_list_extend (F.args_list_extend_2 _ _) (meets_extT l b its.toArray its2.toArray n small (by simp only [List.size_toArray]; omega) (by omega)) ⟨at_, tp, ?_⟩
  refine ⟨.non, _, I.lset (its' := its ++ its2) hl at_ (by simp) (r.append r2) ?_, rfl, q⟩
  rw [List.length_append]
  omega
end La
set_option maxHeartbeats 4000000
/-! surveying.py: lines, folds. -/
namespace La
open PySem PySem.Spec PyProof.Rows L2
theorem NLs_get {l : List Nat} {i n : Nat} (h : l[i]? = some n) : (NLs l)[i]? = some (V.int (n : Int)) := by
  unfold NLs
  rw [List.getElem?_map, h]
  rfl
/-! ### a dict by what it gives -/
def DL (kvs : List (Key × V)) (f : Nat → Option Nat) : Prop := ∀ n : Nat, valV kvs (Sum.inl (n : Int)) = (f n).map fun (m : Nat) => V.int (m : Int)
theorem DL.nil : DL [] fun _ => none := fun _ => rfl
theorem DL.put {kvs : List (Key × V)} {acc : List (Nat × Nat)} (h : DL kvs fun n => acc.lookup n) (b i : Nat) : DL (putK kvs (Sum.inl (b : Int)) (.int (i : Int))) fun n => ((b, i) :: acc).lookup n := fun n => by
  rw [valV_put]
  show _ = (List.lookup n ((b, i) :: acc)).map fun m : Nat => V.int (m : Int)
  rw [List.lookup_cons]
  by_cases c : n = b
  · subst c
    rw [if_pos rfl, beq_self_eq_true]
    rfl
  · rw [if_neg (fun z => c (by have := Sum.inl.inj z; omega)), show (n == b) = false from beq_eq_false_iff_ne.mpr c]
    exact h n
section
variable {P : Program} {w : World} {K : PySem.W.Frag} {mg : Str → Option Value} {base : Heap} {f : Addr} {fd : FuncData}
/-! part_lines -/
def spLines (K : PySem.W.Frag) : Sp := fun vs H Q _ => ∃ (p a : Addr) (bs : Bytes) (ps : List Part), vs = [.ref p] ∧ PV K H p a bs ps ∧ ps.length ≤ 4096 ∧
  ∀ H' q, Same H H' → H q = none → H' q = some (.lst (NLs (linesL bs ps))) → Q (.ref q) H'
theorem sc_part_lines : FnScope ["program", "lines", "line", "index"] ["program"] (defScope s_part_lines) := ⟨rfl, rfl, rfl, by decide +kernel, rfl, by decide +kernel, by decide +kernel⟩
abbrev F_part_lines (K : PySem.W.Frag) (f : Addr) (fd : FuncData) : Prop := FunD K "part_lines" "part_lines" (defArgs s_part_lines) (defBody s_part_lines) (defScope s_part_lines) [] [] f fd
theorem ok_part_lines (e : Env w K mg) (F : F_part_lines K f fd) : FnOk P w K mg base CX0 4 f fd ["program"] (spLines K) := by
  obtain ⟨fd_Program_gap_breaks, G_Program_gap_breaks, b_Program_gap_breaks⟩ := c_Program_gap_breaks (P := P) (w := w) (base := base) e
  have m_range : mg "range" = none := e.free (List.mem_of_getElem? (i := 104) rfl)
  have m_len : mg "len" = none := e.free (List.mem_of_getElem? (i := 103) rfl)
  refine F.ok sc_part_lines (fun vs H Q E h => ?_) (fun cdv A outer s H vs Q E hr h => ⟨_, PSs.nox
    (pss_cons (ps_set (i := 1) sc_part_lines.nd rfl (Or.inl rfl) (pe_lst pa_nil))
      (pss_cons (ps_set (i := 2) sc_part_lines.nd rfl (Or.inl rfl) pe_int)
      (pss_cons (ps_for PassesOwn.never rfl (pi_range1 rfl m_range (pa_cons (pe_callB call_len_seq (by rfl) m_len PySem.boot_len (pa_cons (pe_fld (pv 0) rfl) pa_nil)) pa_nil)) (pg_name (i := 3) sc_part_lines.nd rfl (Or.inl rfl))
      (pss_cons (ps_aug (i := 2) sc_part_lines.nd rfl (Or.inl rfl) (pe_meth (pv 0) (cl_Program e) (mm_Program_gap_breaks e) G_Program_gap_breaks (hr.mono (by decide)) b_Program_gap_breaks .nil pass0 (pa_cons (pv 3) pa_nil)) ip_add)
      (pss_one (ps_expr (pe_bm PySem.F.plainAttrs_list PySem.F.slot_list_append PySem.F.type_list_append mt_append (pv 1) (pa_cons (pv 2) pa_nil))))))
      (pss_one (ps_ret (pv 1)))))), ?_⟩)
  · obtain ⟨p, a, bs, ps, rfl, _⟩ := h
    rfl
  · obtain ⟨p, a, bs, ps, rfl, Pv, hlen, hQ⟩ := h
    refine ⟨Nat.zero_le _, fun q hq => ?_⟩
    have s0 := same_upd (o := .lst []) hq
    obtain ⟨dx, aR, l, aT, aC, rv, us, h1, h4, h5, h6⟩ := Pv.same s0
    refine ⟨_, rfl, p, _, _, _, _, rfl, h1, cl_Program e, na_Program_parts e, rfl, l, _, rfl, .inl (.of h5), ?_⟩
    rw [h6.len]
    refine ⟨_, rfl, by omega, by omega, for_range (n := ps.length) (fun i σ G => ∃ z : Option V, σ = [some (.ref p), some (.ref q), some (.int (((List.range i).map (brk bs ps)).sum : Int)), z] ∧ Same H G ∧ G q = some (.lst (NLs ((List.range i).map (lineAt bs ps)))))
      ⟨none, rfl, s0, upd_same⟩ ?_ ?_⟩
    · rintro i σ G hi ⟨z, rfl, s1, hg⟩
      have e0 : (0 : Int) + (i : Int) = (i : Int) := by omega
      rw [e0]
      obtain ⟨dx, aR, l, aT, aC, rv, us, h1, h4, h5, h6⟩ := Pv.same s1
      refine ⟨_, rfl, _, rfl, p, _, _, rfl, h1, rfl, _, rfl, p, a, bs, ps, i, rfl, Pv.same s1, Nat.le_of_lt hi, fun G2 s2 => ?_⟩
      refine ⟨_, _, rfl, rfl, ?_⟩
      have hg2 := s2 _ _ hg
      refine ⟨_, rfl, .inl ⟨rfl, _, .of hg2⟩, _, rfl, q, _, _, rfl, rfl, hg2, ?_, ?_⟩
      · rw [NLs_len, List.length_map, List.length_range]
        have : (4096 : Nat) < sizeLine := by rw [sizeLine_eq]; decide
        omega
      · refine ⟨some (.int (i : Int)), ?_, ?_, upd_same.trans ?_⟩
        · rw [line_succ, Int.natCast_add]
          rfl
        · exact same_own (s1.trans s2) hq
        · rw [List.range_succ, List.map_append, List.map_singleton, NLs_app]
          unfold lineAt
          rw [line_succ bs ps i, Int.natCast_add]
    · rintro σ G ⟨z, rfl, s1, hg⟩
      exact ⟨_, rfl, hQ G q s1 hq hg⟩
theorem c_part_lines (e : Env w K mg) : Callee P w K mg base 4 "part_lines" ["program"] (spLines K) := by
  obtain ⟨fd, F⟩ := e.d.def_ 43 (d := d_part_lines) rfl
  exact ⟨_, fd, ok_part_lines e F, e.glo (x := "part_lines") (List.mem_of_getElem? (i := 24) rfl), F.kp, F.bindsN fun _ _ _ _ _ _ us hl => match us, hl with | [_], _ => rfl⟩
/-! bracket_folds -/
def bFin (bs : Bytes) (ps : List Part) : List (Nat × Nat) := bst (lineAt bs ps) 0 (ps.map (·.kind)) [] []
def spBrF (K : PySem.W.Frag) : Sp := fun vs H Q _ => ∃ (p a q : Addr) (bs : Bytes) (ps : List Part), vs = [.ref p, .ref q] ∧ PV K H p a bs ps ∧ H q = some (.lst (NLs (linesL bs ps))) ∧ ps.length ≤ 4096 ∧ bok 0 (ps.map (·.kind)) = true ∧
  ∀ H' d kvs, Same H H' → H d = none → H' d = some (.dK kvs) → DL kvs (fun n => (bFin bs ps).lookup n) → Q (.ref d) H'
theorem rev_last {b : Nat} {r : List Nat} : (NLs (b :: r).reverse)[(NLs (b :: r).reverse).length - 1]? = some (.int (b : Int)) ∧ (NLs (b :: r).reverse).dropLast = NLs r.reverse := by
  rw [List.reverse_cons, NLs_app]
  constructor
  · simp
  · simp
theorem sc_bracket_folds : FnScope ["program", "lines", "folds", "opened", "index", "part", "begin"] ["program", "lines"] (defScope s_bracket_folds) := ⟨rfl, rfl, rfl, by decide +kernel, rfl, by decide +kernel, by decide +kernel⟩
abbrev F_bracket_folds (K : PySem.W.Frag) (f : Addr) (fd : FuncData) : Prop := FunD K "bracket_folds" "bracket_folds" (defArgs s_bracket_folds) (defBody s_bracket_folds) (defScope s_bracket_folds) [] [] f fd
theorem ok_bracket_folds (e : Env w K mg) (F : F_bracket_folds K f fd) : FnOk P w K mg base CX0 1 f fd ["program", "lines"] (spBrF K) := by
  have m_enumerate : mg "enumerate" = none := e.free (List.mem_of_getElem? (i := 105) rfl)
  have m_OPENING : mg "OPENING" = some (.ref (He.ga K "OPENING")) := e.glo (List.mem_of_getElem? (i := 91) rfl)
  have m_CLOSING : mg "CLOSING" = some (.ref (He.ga K "CLOSING")) := e.glo (List.mem_of_getElem? (i := 92) rfl)
  have hB : ∀ H, SqT K H (He.ga K "OPENING") (BEG.map fun l => V.str (strL l)) := fun H => tup_strs e H (List.mem_of_getElem? (i := 2) rfl) (by rfl)
  have hE : ∀ H, SqT K H (He.ga K "CLOSING") (FIN.map fun l => V.str (strL l)) := fun H => tup_strs e H (List.mem_of_getElem? (i := 3) rfl) (by rfl)
  refine F.ok sc_bracket_folds (fun vs H Q E h => ?_) (fun cdv A outer s H vs Q E hr h => ⟨_, PSs.nox
    (pss_cons (ps_set (i := 2) sc_bracket_folds.nd rfl (Or.inl rfl) pe_dnewK)
      (pss_cons (ps_set (i := 3) sc_bracket_folds.nd rfl (Or.inl rfl) (pe_lst pa_nil))
      (pss_cons (ps_for PassesOwn.never rfl (pi_enum (by rfl) m_enumerate (pa_cons (pe_fld (pv 0) rfl) pa_nil)) (pg_tup rfl (pgs_cons (pg_name (i := 4) sc_bracket_folds.nd rfl (Or.inl rfl)) (pgs_cons (pg_name (i := 5) sc_bracket_folds.nd rfl (Or.inl rfl)) pgs_nil)))
      (pss_one (ps_if (pt_cmpR op_in_seq (pe_ix ix_tup (pv 5) pe_int (fun _ _ => rfl)) (pe_glob (v := V.ref (He.ga K "OPENING")) rfl m_OPENING rfl) rfl) (pss_one (ps_expr (pe_bm PySem.F.plainAttrs_list PySem.F.slot_list_append PySem.F.type_list_append mt_append (pv 3) (pa_cons (pv 4) pa_nil)))) (pss_one (ps_if (pt_cmpR op_in_seq (pe_ix ix_tup (pv 5) pe_int (fun _ _ => rfl)) (pe_glob (v := V.ref (He.ga K "CLOSING")) rfl m_CLOSING rfl) rfl) (pss_cons (ps_set (i := 6) sc_bracket_folds.nd rfl (Or.inl rfl) (pe_bm0 PySem.F.plainAttrs_list PySem.F.slot_list_pop PySem.F.type_list_pop mt_pop (pv 3)))
      (pss_one (ps_if (pt_cmpR op_lt (pe_ix ix_list (pv 1) (pv 6) (fun _ _ => rfl)) (pe_ix ix_list (pv 1) (pv 4) (fun _ _ => rfl)) (nomark _)) (pss_one (ps_dput (hu_of hr) (pv 2) (pv 6) (pv 4) rfl)) pss_nil))) pss_nil)))))
      (pss_one (ps_ret (pv 2)))))), ?_⟩)
  · obtain ⟨p, a, q, bs, ps, rfl, _⟩ := h
    rfl
  · obtain ⟨p, a, q, bs, ps, rfl, Pv, hq, hlen, hok, hQ⟩ := h
    have hsz : (5000 : Nat) < sizeLine := by rw [sizeLine_eq]; decide
    intro d hd
    have sd := same_upd (o := .dK []) hd
    refine ⟨Nat.zero_le _, fun o ho => ?_⟩
    have so := same_upd (o := .lst []) ho
    have ndo : d ≠ o := fun z => by rw [← z, upd_same] at ho; cases ho
    obtain ⟨dx, aR, l, aT, aC, rv, us, h1, h4, h5, h6⟩ := id Pv
    have s0 := sd.trans so
    have hoN : H o = none := sd.free ho
    have hul := h6.len
    refine ⟨_, rfl, p, _, _, _, _, rfl, s0 _ _ h1, cl_Program e, na_Program_parts e, rfl, l, _, rfl, .of (s0 _ _ h5), ?_⟩
    refine for_it (walk_enum (K := K) (a := l) (xs := us)) (fun i σ G => ∃ (z1 z2 z3 : Option V) (st : List Nat) (acc : List (Nat × Nat)) (kvs : List (Key × V)), σ = [some (.ref p), some (.ref q), some (.ref d), some (.ref o), z1, z2, z3] ∧ Same H G ∧
        G o = some (.lst (NLs st.reverse)) ∧ G d = some (.dK kvs) ∧ kvs.length ≤ i ∧ st.length ≤ i ∧ (∀ b ∈ st, b < i) ∧ DL kvs (fun n => acc.lookup n) ∧ bok st.length ((ps.drop i).map (·.kind)) = true ∧ bFin bs ps = bst (lineAt bs ps) i ((ps.drop i).map (·.kind)) st acc)
      ⟨none, none, none, [], [], [], rfl, s0, upd_same, (by rw [upd_ne ndo]; exact upd_same), Nat.le_refl _, Nat.le_refl _, (fun b hb => by cases hb), DL.nil, hok, rfl⟩ ?_ ?_ ?_
    · rintro i σ G _ ⟨z1, z2, z3, st, acc, kvs, _, s1, _⟩
      exact .of (s1 _ _ h5)
    · rintro i x σ G G1 hi ⟨z1, z2, z3, st, acc, kvs, rfl, s1, go, gd, kl, stl, stb, hD, bo, eq⟩ ⟨T, x1, x2, rfl, nT, rfl, e1, e2⟩
      cases e1
      obtain ⟨pt, hp1, b, rfl, hb⟩ := h6.get2 e2
      have hip : i < ps.length := (List.getElem?_eq_some_iff.mp hp1).1
      have sT := same_upd (o := .tup [.int (i : Nat), .ref b]) nT
      refine ⟨T, _, rfl, .of upd_same, rfl, _, _, rfl, _, _, rfl, rfl, ?_⟩
      replace go := sT _ _ go
      replace gd := sT _ _ gd
      replace s1 := s1.trans sT
      generalize upd G T (.tup [.int (i : Nat), .ref b]) = G1 at *
      have hb1 := s1 _ _ hb
      have hdrop : (ps.drop i).map (·.kind) = pt.kind :: (ps.drop (i + 1)).map (·.kind) := by
        rw [List.drop_eq_getElem_cons hip]
        rw [List.getElem?_eq_getElem hip] at hp1
        rw [Option.some.inj hp1]
        rfl
      rw [hdrop] at bo eq
      have ub : bok st.length (pt.kind :: (ps.drop (i + 1)).map (·.kind)) = if pt.kind ∈ BEG then bok (st.length + 1) ((ps.drop (i + 1)).map (·.kind)) else if pt.kind ∈ FIN then decide (0 < st.length) && bok (st.length - 1) ((ps.drop (i + 1)).map (·.kind)) else bok st.length ((ps.drop (i + 1)).map (·.kind)) := rfl
      rw [ub] at bo
      have ue : bst (lineAt bs ps) i (pt.kind :: (ps.drop (i + 1)).map (·.kind)) st acc = if pt.kind ∈ BEG then bst (lineAt bs ps) (i + 1) ((ps.drop (i + 1)).map (·.kind)) (i :: st) acc else if pt.kind ∈ FIN then (match st with
          | b :: s => bst (lineAt bs ps) (i + 1) ((ps.drop (i + 1)).map (·.kind)) s (if lineAt bs ps b < lineAt bs ps i then (b, i) :: acc else acc)
          | [] => bst (lineAt bs ps) (i + 1) ((ps.drop (i + 1)).map (·.kind)) [] acc) else bst (lineAt bs ps) (i + 1) ((ps.drop (i + 1)).map (·.kind)) st acc := rfl
      rw [ue] at eq
      refine ⟨_, rfl, b, _, 0, _, rfl, rfl, .of hb1, rfl, _, _, rfl, .inr (hB _), rfl, flat_strs _, _, rfl, ?_⟩
      show (if inV (.str (strL pt.kind)) (BEG.map fun l => V.str (strL l)) = true then _ else _)
      rw [in_strs]
      have hoK : ∀ (G' : Hp) (st' : List Nat), (upd G' o (.lst (NLs st'.reverse))) d = G' d := fun G' st' => upd_ne ndo
      by_cases c1 : pt.kind ∈ BEG
      · rw [if_pos c1] at bo eq
        refine ifT (decide_eq_true c1) ?_
        refine ⟨_, rfl, .inl ⟨rfl, _, .of go⟩, _, rfl, o, _, _, rfl, rfl, go, (by rw [NLs_len, List.length_reverse]; omega), ?_⟩
        refine ⟨_, _, _, i :: st, acc, kvs, rfl, same_own s1 hoN, upd_same.trans ?_, (upd_ne ndo).trans gd, by omega, (by rw [List.length_cons]; omega), ?_, hD, bo, eq⟩
        · rw [List.reverse_cons, NLs_app]
        · intro c hc
          rcases List.mem_cons.mp hc with rfl | hc
          · omega
          · have := stb c hc
            omega
      · rw [if_neg c1] at bo eq
        refine ifF (decide_eq_false c1) ?_
        refine ⟨_, rfl, b, _, 0, _, rfl, rfl, .of hb1, rfl, _, _, rfl, .inr (hE _), rfl, flat_strs _, _, rfl, ?_⟩
        show (if inV (.str (strL pt.kind)) (FIN.map fun l => V.str (strL l)) = true then _ else _)
        rw [in_strs]
        by_cases c2 : pt.kind ∈ FIN
        · rw [if_pos c2] at bo eq
          refine ifT (decide_eq_true c2) ?_
          obtain ⟨bo1, bo2⟩ := He.ba bo
          cases st with
          | nil => cases bo1
          | cons b0 st =>
            obtain ⟨r1, r2⟩ := rev_last (b := b0) (r := st)
            refine ⟨_, rfl, .inl ⟨rfl, _, .of go⟩, o, _, _, rfl, rfl, go, r1, ?_⟩
            rw [r2]
            have hb0 : b0 < i := stb b0 List.mem_cons_self
            have s2 : Same H (upd G1 o (.lst (NLs st.reverse))) := same_own s1 hoN
            have go2 : (upd G1 o (.lst (NLs st.reverse))) o = some (.lst (NLs st.reverse)) := upd_same
            have gd2 : (upd G1 o (.lst (NLs st.reverse))) d = some (.dK kvs) := (upd_ne ndo).trans gd
            generalize upd G1 o (.lst (NLs st.reverse)) = G2 at *
            have hq2 := s2 _ _ hq
            refine ⟨_, rfl, _, rfl, q, _, _, _, rfl, rfl, .of hq2, atI_nat (NLs_get (lines_get (by omega))), _, rfl, _, rfl, q, _, _, _, rfl, rfl, .of hq2, atI_nat (NLs_get (lines_get hip)), _, _, rfl, rfl, _, rfl, ?_⟩
            rw [List.length_cons] at stl bo2
            replace eq : bFin bs ps = bst (lineAt bs ps) (i + 1) ((ps.drop (i + 1)).map (·.kind)) st (if lineAt bs ps b0 < lineAt bs ps i then (b0, i) :: acc else acc) := eq
            by_cases c3 : lineAt bs ps b0 < lineAt bs ps i
            · rw [if_pos c3] at eq
              refine ifT (decide_eq_true (by omega)) ?_
              refine ⟨_, rfl, _, rfl, _, rfl, d, _, rfl, DPut.k (k := Sum.inl (b0 : Int)) gd2 (by omega), ?_⟩
              refine ⟨_, _, _, st, (b0, i) :: acc, _, rfl, same_own s2 hd, (upd_ne (Ne.symm ndo)).trans go2, upd_same, ?_, by omega, fun c hc => Nat.lt_succ_of_lt (stb c (List.mem_cons_of_mem _ hc)), hD.put b0 i, bo2, eq⟩
              have := length_putK kvs (Sum.inl (b0 : Int)) (V.int (i : Int))
              omega
            · rw [if_neg c3] at eq
              refine ifF (decide_eq_false (by omega)) ?_
              exact ⟨_, _, _, st, acc, kvs, rfl, s2, go2, gd2, by omega, by omega, fun c hc => Nat.lt_succ_of_lt (stb c (List.mem_cons_of_mem _ hc)), hD, bo2, eq⟩
        · rw [if_neg c2] at bo eq
          refine ifF (decide_eq_false c2) ?_
          exact ⟨_, _, _, st, acc, kvs, rfl, s1, go, gd, by omega, by omega, fun c hc => Nat.lt_succ_of_lt (stb c hc), hD, bo, eq⟩
    · rintro σ G ⟨z1, z2, z3, st, acc, kvs, rfl, s1, go, gd, kl, stl, stb, hD, bo, eq⟩
      rw [hul, List.drop_length] at eq
      refine ⟨_, rfl, hQ G d kvs s1 hd gd ?_⟩
      rw [eq]
      exact hD
theorem c_bracket_folds (e : Env w K mg) : Callee P w K mg base 1 "bracket_folds" ["program", "lines"] (spBrF K) := by
  obtain ⟨fd, F⟩ := e.d.def_ 44 (d := d_bracket_folds) rfl
  exact ⟨_, fd, ok_bracket_folds e F, e.glo (x := "bracket_folds") (List.mem_of_getElem? (i := 25) rfl), F.kp, F.bindsN fun _ _ _ _ _ _ us hl => match us, hl with | [_, _], _ => rfl⟩
end
end La
set_option maxHeartbeats 4000000
/-! surveying.py: folds of comments, all folds; counted. -/
namespace La
open PySem PySem.Spec PyProof.Rows L2
theorem bst_lt {L : Nat → Nat} : ∀ {ks : List (List Nat)} {i : Nat} {st : List Nat} {acc : List (Nat × Nat)}, (∀ y ∈ acc, y.2 < i) → ∀ y ∈ bst L i ks st acc, y.2 < i + ks.length
  | [], i, st, acc, h, y, hy => by
    have := h y hy
    show y.2 < i + 0
    omega
  | k :: r, i, st, acc, h, y, hy => by
    have h2 : ∀ y ∈ acc, y.2 < i + 1 := fun y hy => Nat.lt_succ_of_lt (h y hy)
    unfold bst at hy
    rw [List.length_cons]
    split at hy
    · have := bst_lt h2 y hy
      omega
    · split at hy
      · split at hy
        · rename_i b s
          have h3 : ∀ y ∈ (if L b < L i then (b, i) :: acc else acc), y.2 < i + 1 := fun y hy => by
            split at hy
            · rcases List.mem_cons.mp hy with rfl | hy
              · exact Nat.lt_succ_self i
              · exact h2 y hy
            · exact h2 y hy
          have := bst_lt h3 y hy
          omega
        · have := bst_lt h2 y hy
          omega
      · have := bst_lt h2 y hy
        omega
theorem cst_lt {byI : Nat → Bool} {L : Nat → Nat} : ∀ {n i : Nat} {b : Option Nat} {acc : List (Nat × Nat)}, (∀ y ∈ acc, y.2 < i) → ∀ y ∈ cst byI L n i b acc, y.2 < i + n
  | 0, i, b, acc, h, y, hy => by
    have := h y hy
    show y.2 < i + 0
    omega
  | n + 1, i, b, acc, h, y, hy => by
    have h2 : ∀ y ∈ acc, y.2 < i + 1 := fun y hy => Nat.lt_succ_of_lt (h y hy)
    unfold cst at hy
    split at hy
    · have := cst_lt h2 y hy
      omega
    · split at hy
      · split at hy
        · rename_i b0 _
          have h3 : ∀ y ∈ (b0, i) :: acc, y.2 < i + 1 := fun y hy => by
            rcases List.mem_cons.mp hy with rfl | hy
            · exact Nat.lt_succ_self i
            · exact h2 y hy
          have := cst_lt h3 y hy
          omega
        · have := cst_lt h2 y hy
          omega
      · have := cst_lt h2 y hy
        omega
theorem cst_step (byI : Nat → Bool) (L : Nat → Nat) (m i : Nat) (b : Option Nat) (acc : List (Nat × Nat)) : cst byI L (m + 1) i b acc = if byI i = false then cst byI L m (i + 1) none acc else match b with
    | some b0 => if L i = L (i - 1) + 1 then cst byI L m (i + 1) (some b0) ((b0, i) :: acc) else cst byI L m (i + 1) (some i) acc
    | none => cst byI L m (i + 1) (some i) acc := rfl
theorem lookup_memN {n m : Nat} : ∀ {l : List (Nat × Nat)}, l.lookup n = some m → (n, m) ∈ l
  | [], h => by cases h
  | (a, b) :: r, h => by
    rw [List.lookup_cons] at h
    by_cases c : n = a
    · subst c
      rw [beq_self_eq_true] at h
      cases h
      exact List.mem_cons_self
    · rw [show (n == a) = false from beq_eq_false_iff_ne.mpr c] at h
      exact List.mem_cons_of_mem _ (lookup_memN h)
def cFin (bs : Bytes) (ps : List Part) : List (Nat × Nat) := cst (byIt bs ps) (lineAt bs ps) ps.length 0 none []
theorem bFin_lt {bs : Bytes} {ps : List Part} {n m : Nat} (h : (bFin bs ps).lookup n = some m) : m < ps.length := by
  have := bst_lt (L := lineAt bs ps) (ks := ps.map (·.kind)) (i := 0) (st := []) (acc := []) (fun y hy => by cases hy) _ (lookup_memN h)
  rw [List.length_map] at this
  simpa using this
theorem cFin_lt {bs : Bytes} {ps : List Part} {n m : Nat} (h : (cFin bs ps).lookup n = some m) : m < ps.length := by
  have := cst_lt (byI := byIt bs ps) (L := lineAt bs ps) (n := ps.length) (i := 0) (b := none) (acc := []) (fun y hy => by cases hy) _ (lookup_memN h)
  simpa using this
def surveyM (bs : Bytes) (ps : List Part) : List (Nat × Nat × Nat) := svm (lineAt bs ps) (fun n => (cFin bs ps).lookup n) (fun n => (bFin bs ps).lookup n) ps.length 0 []
def bv (b : Option Nat) : V := match b with
  | none => .non
  | some n => .int (n : Int)
/-! ### tuples of whole numbers -/
def TupIn (H : Hp) : List V → List (List Int) → Prop
  | [], [] => True
  | v :: r, l :: s => (∃ a, v = .ref a ∧ H a = some (.tup (IL l))) ∧ TupIn H r s
  | _, _ => False
theorem TupIn.off {H H' : Hp} (k : ∀ b o, H b = some (.tup o) → H' b = some (.tup o)) : ∀ {vs : List V} {ps : List (List Int)}, TupIn H vs ps → TupIn H' vs ps
  | [], [], _ => trivial
  | [], _ :: _, h => h.elim
  | _ :: _, [], h => h.elim
  | v :: r, p :: t, ⟨⟨a, e, h1⟩, h2⟩ => ⟨⟨a, e, k _ _ h1⟩, TupIn.off k h2⟩
theorem TupIn.push {H : Hp} {a : Addr} {l : List Int} (h : H a = some (.tup (IL l))) : ∀ {vs : List V} {ps : List (List Int)}, TupIn H vs ps → TupIn H (vs ++ [.ref a]) (ps ++ [l])
  | [], [], _ => ⟨⟨a, rfl, h⟩, trivial⟩
  | [], _ :: _, g => g.elim
  | _ :: _, [], g => g.elim
  | u :: r, q :: t, ⟨g1, g2⟩ => ⟨g1, TupIn.push h g2⟩
theorem TupIn.len {H : Hp} : ∀ {vs : List V} {ps : List (List Int)}, TupIn H vs ps → vs.length = ps.length
  | [], [], _ => rfl
  | [], _ :: _, h => h.elim
  | _ :: _, [], h => h.elim
  | v :: r, p :: t, h => congrArg (· + 1) (TupIn.len h.2)
theorem TupIn.get {H : Hp} {v : V} : ∀ {vs : List V} {ps : List (List Int)} {i : Nat}, TupIn H vs ps → vs[i]? = some v → ∃ l a, ps[i]? = some l ∧ v = .ref a ∧ H a = some (.tup (IL l))
  | [], [], _, _, h => by cases h
  | [], _ :: _, _, g, _ => g.elim
  | _ :: _, [], _, g, _ => g.elim
  | u :: r, d :: t, 0, g, h => by
    cases h
    obtain ⟨⟨a, e, h1⟩, _⟩ := g
    exact ⟨d, a, rfl, e, h1⟩
  | u :: r, d :: t, i + 1, g, h => TupIn.get (i := i) g.2 (by simpa using h)
def triI (x : Nat × Nat × Nat) : List Int := [(x.1 : Int), (x.2.1 : Int), (x.2.2 : Int)]
section
variable {P : Program} {w : World} {K : PySem.W.Frag} {mg : Str → Option Value} {base : Heap} {f : Addr} {fd : FuncData}
/-! comment_folds -/
def spCoF (K : PySem.W.Frag) : Sp := fun vs H Q _ => ∃ (p a q : Addr) (bs : Bytes) (ps : List Part), vs = [.ref p, .ref q] ∧ PV K H p a bs ps ∧ H q = some (.lst (NLs (linesL bs ps))) ∧ ps.length ≤ 4096 ∧
  ∀ H' d kvs, Same H H' → H d = none → H' d = some (.dK kvs) → DL kvs (fun n => (cFin bs ps).lookup n) → Q (.ref d) H'
theorem sc_comment_folds : FnScope ["program", "lines", "folds", "begin", "index", "line"] ["program", "lines"] (defScope s_comment_folds) := ⟨rfl, rfl, rfl, by decide +kernel, rfl, by decide +kernel, by decide +kernel⟩
abbrev F_comment_folds (K : PySem.W.Frag) (f : Addr) (fd : FuncData) : Prop := FunD K "comment_folds" "comment_folds" (defArgs s_comment_folds) (defBody s_comment_folds) (defScope s_comment_folds) [] [] f fd
theorem ok_comment_folds (e : Env w K mg) (F : F_comment_folds K f fd) : FnOk P w K mg base CX0 5 f fd ["program", "lines"] (spCoF K) := by
  obtain ⟨fd_Program_is_by_itself, G_Program_is_by_itself, b_Program_is_by_itself⟩ := c_Program_is_by_itself (P := P) (w := w) (base := base) e
  have m_enumerate : mg "enumerate" = none := e.free (List.mem_of_getElem? (i := 105) rfl)
  refine F.ok sc_comment_folds (fun vs H Q E h => ?_) (fun cdv A outer s H vs Q E hr h => ⟨_, PSs.nox
    (pss_cons (ps_set (i := 2) sc_comment_folds.nd rfl (Or.inl rfl) pe_dnewK)
      (pss_cons (ps_set (i := 3) sc_comment_folds.nd rfl (Or.inl rfl) pe_non)
      (pss_cons (ps_for PassesOwn.never rfl (pi_enum (by rfl) m_enumerate (pa_cons (pv 1) pa_nil)) (pg_tup rfl (pgs_cons (pg_name (i := 4) sc_comment_folds.nd rfl (Or.inl rfl)) (pgs_cons (pg_name (i := 5) sc_comment_folds.nd rfl (Or.inl rfl)) pgs_nil)))
      (pss_one (ps_if (pt_not (pt_truth (pe_meth (pv 0) (cl_Program e) (mm_Program_is_by_itself e) G_Program_is_by_itself (hr.mono (by decide)) b_Program_is_by_itself .nil pass0 (pa_cons (pv 4) pa_nil)) (fun _ => rfl))) (pss_one (ps_set (i := 3) sc_comment_folds.nd rfl (Or.inl rfl) pe_non)) (pss_one (ps_if (PW.pt (pw_and (pt_cmpR op_notN (pv 3) pe_non (nomark _)) (pw_and1 (pt_cmpR op_eq (pv 5) (pe_op op_add (pe_ix ix_list (pv 1) (pe_op op_sub (pv 4) pe_int) (fun _ _ => rfl)) pe_int) (nomark _))))) (pss_one (ps_dput (hu_of hr) (pv 2) (pv 3) (pv 4) rfl)) (pss_one (ps_set (i := 3) sc_comment_folds.nd rfl (Or.inl rfl) (pv 4))))))))
      (pss_one (ps_ret (pv 2)))))), ?_⟩)
  · obtain ⟨p, a, q, bs, ps, rfl, _⟩ := h
    rfl
  · obtain ⟨p, a, q, bs, ps, rfl, Pv, hq, hlen, hQ⟩ := h
    have hsz : (5000 : Nat) < sizeLine := by rw [sizeLine_eq]; decide
    intro d hd
    have s0 := same_upd (o := .dK []) hd
    refine ⟨_, rfl, q, _, rfl, .of (s0 _ _ hq), ?_⟩
    refine for_it (walk_enum (K := K) (a := q) (xs := NLs (linesL bs ps))) (fun i σ G => ∃ (z1 z2 : Option V) (b : Option Nat) (acc : List (Nat × Nat)) (kvs : List (Key × V)), σ = [some (.ref p), some (.ref q), some (.ref d), some (bv b), z1, z2] ∧ Same H G ∧
        G d = some (.dK kvs) ∧ kvs.length ≤ i ∧ (∀ b0, b = some b0 → b0 < i) ∧ DL kvs (fun n => acc.lookup n) ∧ cFin bs ps = cst (byIt bs ps) (lineAt bs ps) (ps.length - i) i b acc)
      ⟨none, none, none, [], [], rfl, s0, upd_same, Nat.le_refl _, (fun b hb => by cases hb), DL.nil, rfl⟩ ?_ ?_ ?_
    · rintro i σ G _ ⟨z1, z2, b, acc, kvs, _, s1, _⟩
      exact .of (s1 _ _ hq)
    · rintro i x σ G G1 hi ⟨z1, z2, b, acc, kvs, rfl, s1, gd, kl, hb, hD, eq⟩ ⟨T, x1, x2, rfl, nT, rfl, e1, e2⟩
      cases e1
      rw [NLs_len, lines_len] at hi
      replace e2 : (NLs (linesL bs ps))[i]? = some x2 := e2
      rw [NLs_get (lines_get hi)] at e2
      cases e2
      have sT := same_upd (o := .tup [.int (i : Nat), .int (lineAt bs ps i : Nat)]) nT
      refine ⟨T, _, rfl, .of upd_same, rfl, _, _, rfl, _, _, rfl, rfl, ?_⟩
      replace gd := sT _ _ gd
      replace s1 := s1.trans sT
      generalize upd G T (.tup [.int (i : Nat), .int (lineAt bs ps i : Nat)]) = G1 at *
      obtain ⟨m, hm⟩ : ∃ m, ps.length - i = m + 1 := ⟨ps.length - i - 1, by omega⟩
      have hm2 : ps.length - (i + 1) = m := by omega
      rw [hm] at eq
      rw [cst_step] at eq
      have Pv1 := Pv.same s1
      obtain ⟨dx, aR, l, aT, aC, rv, us, h1, h4, h5, h6⟩ := id Pv1
      refine ⟨_, rfl, p, _, _, rfl, h1, rfl, _, rfl, p, a, bs, ps, i, rfl, Pv1, hi, fun G2 s2 => ⟨_, rfl, ?_⟩⟩
      have s12 := s1.trans s2
      have gd2 := s2 _ _ gd
      have hq2 := s12 _ _ hq
      cases c : byIt bs ps i with
      | false =>
        rw [if_pos c] at eq
        refine ifT rfl ?_
        exact ⟨_, _, none, acc, kvs, rfl, s12, gd2, by omega, (fun b hb => by cases hb), hD, by rw [hm2]; exact eq⟩
      | true =>
        rw [if_neg (by rw [c]; simp)] at eq
        refine ifF rfl ?_
        cases b with
        | none =>
          refine ⟨_, rfl, rfl, _, rfl, ifF rfl ?_⟩
          exact ⟨_, rfl, _, _, some i, acc, kvs, rfl, s12, gd2, by omega, (fun b hb => by cases hb; omega), hD, by rw [hm2]; exact eq⟩
        | some b0 =>
          have hb0 := hb b0 rfl
          replace eq : cFin bs ps = if lineAt bs ps i = lineAt bs ps (i - 1) + 1 then cst (byIt bs ps) (lineAt bs ps) m (i + 1) (some b0) ((b0, i) :: acc) else cst (byIt bs ps) (lineAt bs ps) m (i + 1) (some i) acc := eq
          have e1 : (i : Int) - 1 = ((i - 1 : Nat) : Int) := by omega
          refine ⟨_, rfl, rfl, _, rfl, ifT rfl ?_⟩
          refine ⟨_, rfl, _, rfl, _, rfl, _, _, rfl, rfl, q, _, _, _, rfl, rfl, .of hq2, (by rw [e1]; exact atI_nat (NLs_get (lines_get (i := i - 1) (by omega)))), _, _, rfl, rfl, rfl, _, rfl, ?_⟩
          have e2 : decide (V.int (lineAt bs ps i : Nat) = V.int ((lineAt bs ps (i - 1) : Nat) + 1)) = decide (lineAt bs ps i = lineAt bs ps (i - 1) + 1) := by
            apply decide_eq_decide.mpr
            constructor
            · intro h
              have := V.int.inj h
              omega
            · intro h
              rw [h]
              rfl
          by_cases c3 : lineAt bs ps i = lineAt bs ps (i - 1) + 1
          · rw [if_pos c3] at eq
            refine ifT (e2.trans (decide_eq_true c3)) ?_
            refine ⟨_, rfl, _, rfl, _, rfl, d, _, rfl, DPut.k (k := Sum.inl (b0 : Int)) gd2 (by omega), ?_⟩
            refine ⟨_, _, some b0, (b0, i) :: acc, _, rfl, same_own s12 hd, upd_same, ?_, (fun b hb => by cases hb; omega), hD.put b0 i, by rw [hm2]; exact eq⟩
            have := length_putK kvs (Sum.inl (b0 : Int)) (V.int (i : Int))
            omega
          · rw [if_neg c3] at eq
            refine ifF (e2.trans (decide_eq_false c3)) ?_
            exact ⟨_, rfl, _, _, some i, acc, kvs, rfl, s12, gd2, by omega, (fun b hb => by cases hb; omega), hD, by rw [hm2]; exact eq⟩
    · rintro σ G ⟨z1, z2, b, acc, kvs, rfl, s1, gd, kl, hb, hD, eq⟩
      rw [NLs_len, lines_len, Nat.sub_self] at eq
      refine ⟨_, rfl, hQ G d kvs s1 hd gd ?_⟩
      rw [eq]
      exact hD
theorem c_comment_folds (e : Env w K mg) : Callee P w K mg base 5 "comment_folds" ["program", "lines"] (spCoF K) := by
  obtain ⟨fd, F⟩ := e.d.def_ 45 (d := d_comment_folds) rfl
  exact ⟨_, fd, ok_comment_folds e F, e.glo (x := "comment_folds") (List.mem_of_getElem? (i := 26) rfl), F.kp, F.bindsN fun _ _ _ _ _ _ us hl => match us, hl with | [_, _], _ => rfl⟩
/-! counted -/
def countedM (rows : List (List Int)) : List Int := 0 :: (rows.length : Int) :: rows.flatten
def spCounted (K : PySem.W.Frag) : Sp := fun vs H Q _ => ∃ (q : Addr) (us : List V) (rows : List (List Int)), vs = [.ref q] ∧ H q = some (.lst us) ∧ TupIn H us rows ∧ rows.length ≤ 10000 ∧ (∀ r ∈ rows, r.length ≤ 4) ∧
  ∀ H' r, Same H H' → H' r = some (.lst (IL (countedM rows))) → Q (.ref r) H'
theorem flat_len {rows : List (List Int)} (h : ∀ r ∈ rows, r.length ≤ 4) : rows.flatten.length ≤ 4 * rows.length := by
  induction rows with
  | nil => exact Nat.le_refl _
  | cons r s ih =>
    rw [List.flatten_cons, List.length_append, List.length_cons]
    have := h r List.mem_cons_self
    have := ih fun x hx => h x (List.mem_cons_of_mem _ hx)
    omega
theorem sc_counted : FnScope ["rows", "answer", "row"] ["rows"] (defScope s_counted) := ⟨rfl, rfl, rfl, by decide +kernel, rfl, by decide +kernel, by decide +kernel⟩
abbrev F_counted (K : PySem.W.Frag) (f : Addr) (fd : FuncData) : Prop := FunD K "counted" "counted" (defArgs s_counted) (defBody s_counted) (defScope s_counted) [] [] f fd
theorem ok_counted (e : Env w K mg) (F : F_counted K f fd) : FnOk P w K mg base CX0 1 f fd ["rows"] (spCounted K) := by
  have m_len : mg "len" = none := e.free (List.mem_of_getElem? (i := 103) rfl)
  refine F.ok sc_counted (fun vs H Q E h => ?_) (fun cdv A outer s H vs Q E hr h => ⟨_, PSs.nox
    (pss_cons (ps_set (i := 1) sc_counted.nd rfl (Or.inl rfl) (pe_lst (pa_cons pe_int (pa_cons (pe_callB call_len_seq (by rfl) m_len PySem.boot_len (pa_cons (pv 0) pa_nil)) pa_nil))))
      (pss_cons (ps_for PassesOwn.never rfl (pi_list (pv 0)) (pg_name (i := 2) sc_counted.nd rfl (Or.inl rfl))
      (pss_one (ps_expr (pe_bm PySem.F.plainAttrs_list PySem.F.slot_list_extend PySem.F.type_list_extend mt_extT (pv 1) (pa_cons (pv 2) pa_nil)))))
      (pss_one (ps_ret (pv 1))))), ?_⟩)
  · obtain ⟨q, us, rows, rfl, _⟩ := h
    rfl
  · obtain ⟨q, us, rows, rfl, hq, hT, hlen, h4, hQ⟩ := h
    have hsz : (50000 : Nat) < sizeLine := by rw [sizeLine_eq]; decide
    refine ⟨_, rfl, q, _, rfl, .inl (.of hq), (by show 2 ≤ sizeLine; decide), fun r hr0 => ?_⟩
    have s0 := same_upd (o := .lst [.int 0, .int (us.length : Nat)]) hr0
    refine ⟨_, rfl, q, rfl, ⟨_, .of (s0 _ _ hq)⟩, for_list (K := K) (a := q) (xs := us) (fun i σ G => ∃ z : Option V, σ = [some (.ref q), some (.ref r), z] ∧ Same H G ∧ G r = some (.lst (IL (0 :: (rows.length : Int) :: (rows.take i).flatten))))
      ⟨none, rfl, s0, upd_same.trans (by rw [hT.len]; rfl)⟩ ?_ ?_ ?_⟩
    · rintro i σ G _ ⟨z, _, s1, _⟩
      exact .of (s1 _ _ hq)
    · rintro i x σ G hi ⟨z, rfl, s1, hg⟩
      obtain ⟨row, b, hr1, rfl, hb⟩ := hT.get hi
      have hb1 := s1 _ _ hb
      refine ⟨_, rfl, .inl ⟨rfl, _, .of hg⟩, _, rfl, r, b, _, _, rfl, rfl, hg, .of hb1, ?_, ?_⟩
      · rw [IL_len, IL_len, List.length_cons, List.length_cons]
        have h1 := flat_len (rows := rows.take i) fun x hx => h4 x (List.mem_of_mem_take hx)
        have h2 := h4 row (List.mem_of_getElem? hr1)
        rw [List.length_take] at h1
        omega
      · refine ⟨_, rfl, same_own s1 hr0, upd_same.trans ?_⟩
        have e1 : rows.take (i + 1) = rows.take i ++ [row] := by
          rw [List.take_add_one, hr1]
          rfl
        rw [e1, List.flatten_append]
        unfold IL
        rw [← List.map_append]
        simp
    · rintro σ G ⟨z, rfl, s1, hg⟩
      rw [hT.len, List.take_length] at hg
      exact ⟨_, rfl, hQ G r s1 hg⟩
theorem c_counted (e : Env w K mg) : Callee P w K mg base 1 "counted" ["rows"] (spCounted K) := by
  obtain ⟨fd, F⟩ := e.d.def_ 47 (d := d_counted) rfl
  exact ⟨_, fd, ok_counted e F, e.glo (x := "counted") (List.mem_of_getElem? (i := 28) rfl), F.kp, F.bindsN fun _ _ _ _ _ _ us hl => match us, hl with | [_], _ => rfl⟩
end
end La
set_option maxHeartbeats 4000000
/-! surveying.py: all folds; folds. -/
namespace La
open PySem PySem.Spec PyProof.Rows L2
theorem svm_step (L : Nat → Nat) (cl bl : Nat → Option Nat) (n i : Nat) (ends : List Nat) : svm L cl bl (n + 1) i ends = (match cl i with
      | some e => [(L i, L e, (popE i ends).length)]
      | none => []) ++ match bl i with
      | some e => (L i, L e, (popE i ends).length) :: svm L cl bl n (i + 1) (e :: popE i ends)
      | none => svm L cl bl n (i + 1) (popE i ends) := rfl
theorem popE_len (i : Nat) (ends : List Nat) : (popE i ends).length ≤ ends.length := by
  unfold popE
  split
  · rw [List.length_tail]
    omega
  · exact Nat.le_refl _
theorem NL_last {b : Nat} {r : List Nat} : atI (NLs (b :: r).reverse) (-1) = some (.int (b : Int)) := by
  rw [List.reverse_cons, NLs_app]
  unfold atI ixN
  rw [List.length_append, if_neg (by omega), if_pos (by simp only [List.length_cons, List.length_nil]; omega)]
  show (NLs r.reverse ++ [V.int (b : Int)])[(-1 + (((NLs r.reverse).length + 1 : Nat) : Int)).toNat]? = _
  rw [show (-1 + (((NLs r.reverse).length + 1 : Nat) : Int)).toNat = (NLs r.reverse).length by omega]
  simp
theorem DL.get {kvs : List (Key × V)} {f : Nat → Option Nat} (h : DL kvs f) {G : Hp} {d : Addr} (hd : G d = some (.dK kvs)) (n : Nat) : DGet G d (.int (n : Int)) ((f n).map fun (m : Nat) => V.int (m : Int)) := by
  have := DGet.k (k := Sum.inl (n : Int)) hd
  rw [h n] at this
  exact this
section
variable {P : Program} {w : World} {K : PySem.W.Frag} {mg : Str → Option Value} {base : Heap} {f : Addr} {fd : FuncData}
def spSurvey (K : PySem.W.Frag) : Sp := fun vs H Q _ => ∃ (p a : Addr) (bs : Bytes) (ps : List Part), vs = [.ref p] ∧ PV K H p a bs ps ∧ ps.length ≤ 4096 ∧ bok 0 (ps.map (·.kind)) = true ∧
  ∀ H' q us, Same H H' → H q = none → H' q = some (.lst us) → TupIn H' us ((surveyM bs ps).map triI) → (surveyM bs ps).length ≤ 8192 → Q (.ref q) H'
theorem sc_survey_folds : FnScope ["program", "lines", "brackets", "comments", "ends", "found", "index", "line"] ["program"] (defScope s_survey_folds) := ⟨rfl, rfl, rfl, by decide +kernel, rfl, by decide +kernel, by decide +kernel⟩
abbrev F_survey_folds (K : PySem.W.Frag) (f : Addr) (fd : FuncData) : Prop := FunD K "survey_folds" "survey_folds" (defArgs s_survey_folds) (defBody s_survey_folds) (defScope s_survey_folds) [] [] f fd
theorem ok_survey_folds (e : Env w K mg) (F : F_survey_folds K f fd) : FnOk P w K mg base CX0 6 f fd ["program"] (spSurvey K) := by
  obtain ⟨f_part_lines, fd_part_lines, G_part_lines, m_part_lines, k_part_lines, b_part_lines⟩ := c_part_lines (P := P) (w := w) (base := base) e
  obtain ⟨f_bracket_folds, fd_bracket_folds, G_bracket_folds, m_bracket_folds, k_bracket_folds, b_bracket_folds⟩ := c_bracket_folds (P := P) (w := w) (base := base) e
  obtain ⟨f_comment_folds, fd_comment_folds, G_comment_folds, m_comment_folds, k_comment_folds, b_comment_folds⟩ := c_comment_folds (P := P) (w := w) (base := base) e
  have m_enumerate : mg "enumerate" = none := e.free (List.mem_of_getElem? (i := 105) rfl)
  have m_len : mg "len" = none := e.free (List.mem_of_getElem? (i := 103) rfl)
  refine F.ok sc_survey_folds (fun vs H Q E h => ?_) (fun cdv A outer s H vs Q E hr h => ⟨_, PSs.nox
    (pss_cons (ps_set (i := 1) sc_survey_folds.nd rfl (Or.inl rfl) (pe_call G_part_lines (hr.mono (by decide)) rfl m_part_lines k_part_lines b_part_lines .nil pass0 (pa_cons (pv 0) pa_nil)))
      (pss_cons (ps_set (i := 2) sc_survey_folds.nd rfl (Or.inl rfl) (pe_call G_bracket_folds (hr.mono (by decide)) rfl m_bracket_folds k_bracket_folds b_bracket_folds .nil pass0 (pa_cons (pv 0) (pa_cons (pv 1) pa_nil))))
      (pss_cons (ps_set (i := 3) sc_survey_folds.nd rfl (Or.inl rfl) (pe_call G_comment_folds (hr.mono (by decide)) rfl m_comment_folds k_comment_folds b_comment_folds .nil pass0 (pa_cons (pv 0) (pa_cons (pv 1) pa_nil))))
      (pss_cons (ps_set (i := 4) sc_survey_folds.nd rfl (Or.inl rfl) (pe_lst pa_nil))
      (pss_cons (ps_set (i := 5) sc_survey_folds.nd rfl (Or.inl rfl) (pe_lst pa_nil))
      (pss_cons (ps_for PassesOwn.never rfl (pi_enum (by rfl) m_enumerate (pa_cons (pv 1) pa_nil)) (pg_tup rfl (pgs_cons (pg_name (i := 6) sc_survey_folds.nd rfl (Or.inl rfl)) (pgs_cons (pg_name (i := 7) sc_survey_folds.nd rfl (Or.inl rfl)) pgs_nil)))
      (C8.pss_cut (ps_if (PW.pt (pw_and (pt_truth (pv 4) (fun _ => rfl)) (pw_and1 (pt_cmpR op_eq (pe_ix ix_list (pv 4) (pe_un un_neg pe_int) (fun _ _ => rfl)) (pv 6) (nomark _))))) (pss_one (ps_expr (pe_bm0 PySem.F.plainAttrs_list PySem.F.slot_list_pop PySem.F.type_list_pop mt_pop (pv 4)))) pss_nil)
      (C8.pss_cut (ps_if (pt_cmp (pc_din (hu_of hr) (pv 6) (pv 3)) rfl) (pss_one (ps_expr (pe_bm PySem.F.plainAttrs_list PySem.F.slot_list_append PySem.F.type_list_append mt_append (pv 5) (pa_cons (pe_tup (pa_cons (pv 7) (pa_cons (pe_ix ix_list (pv 1) (pe_dget (hu_of hr) (pv 3) (pv 6) (fun _ _ => rfl)) (fun _ _ => rfl)) (pa_cons (pe_callB call_len_seq (by rfl) m_len PySem.boot_len (pa_cons (pv 4) pa_nil)) pa_nil)))) pa_nil)))) pss_nil)
      (pss_one (ps_if (pt_cmp (pc_din (hu_of hr) (pv 6) (pv 2)) rfl) (pss_cons (ps_expr (pe_bm PySem.F.plainAttrs_list PySem.F.slot_list_append PySem.F.type_list_append mt_append (pv 5) (pa_cons (pe_tup (pa_cons (pv 7) (pa_cons (pe_ix ix_list (pv 1) (pe_dget (hu_of hr) (pv 2) (pv 6) (fun _ _ => rfl)) (fun _ _ => rfl)) (pa_cons (pe_callB call_len_seq (by rfl) m_len PySem.boot_len (pa_cons (pv 4) pa_nil)) pa_nil)))) pa_nil)))
      (pss_one (ps_expr (pe_bm PySem.F.plainAttrs_list PySem.F.slot_list_append PySem.F.type_list_append mt_append (pv 4) (pa_cons (pe_dget (hu_of hr) (pv 2) (pv 6) (fun _ _ => rfl)) pa_nil))))) pss_nil)))))
      (pss_one (ps_ret (pv 5))))))))), ?_⟩)
  · obtain ⟨p, a, bs, ps, rfl, _⟩ := h
    rfl
  · obtain ⟨p, a, bs, ps, rfl, Pv, hlen, hok, hQ⟩ := h
    have hsz : (50000 : Nat) < sizeLine := by rw [sizeLine_eq]; decide
    refine ⟨_, rfl, p, a, bs, ps, rfl, Pv, hlen, fun H1 q s1 nq hq => ?_⟩
    refine ⟨_, rfl, _, rfl, p, a, q, bs, ps, rfl, Pv.same s1, hq, hlen, hok, fun H2 d1 kv1 s2 nd1 hd1 D1 => ?_⟩
    refine ⟨_, rfl, _, rfl, p, a, q, bs, ps, rfl, Pv.same (s1.trans s2), s2 _ _ hq, hlen, fun H3 d2 kv2 s3 nd2 hd2 D2 => ?_⟩
    have hq3 := s3 _ _ (s2 _ _ hq)
    have hd13 := s3 _ _ hd1
    have s03 := (s1.trans s2).trans s3
    clear hd1 hq
    refine ⟨Nat.zero_le _, fun aE hE0 => ⟨Nat.zero_le _, fun aF hF0 => ?_⟩⟩
    have sE := same_upd (o := .lst []) hE0
    have sF := same_upd (o := .lst []) hF0
    have nEF : aE ≠ aF := fun z => by rw [← z, upd_same] at hF0; cases hF0
    have hFN : H3 aF = none := sE.free hF0
    have s4 := sE.trans sF
    refine ⟨_, rfl, q, _, rfl, .of (s4 _ _ hq3), ?_⟩
    refine for_it (walk_enum (K := K) (a := q) (xs := NLs (linesL bs ps))) (fun i σ G => ∃ (z1 z2 : Option V) (ends : List Nat) (found : List (Nat × Nat × Nat)) (us : List V), σ = [some (.ref p), some (.ref q), some (.ref d1), some (.ref d2), some (.ref aE), some (.ref aF), z1, z2] ∧ Same H3 G ∧
        G aE = some (.lst (NLs ends.reverse)) ∧ G aF = some (.lst us) ∧ TupIn G us (found.map triI) ∧ ends.length ≤ i ∧ found.length ≤ 2 * i ∧ i ≤ ps.length ∧ surveyM bs ps = found ++ svm (lineAt bs ps) (fun n => (cFin bs ps).lookup n) (fun n => (bFin bs ps).lookup n) (ps.length - i) i ends)
      ⟨none, none, [], [], [], rfl, s4, (by rw [upd_ne nEF]; exact upd_same), upd_same, trivial, Nat.le_refl _, Nat.le_refl _, Nat.zero_le _, rfl⟩ ?_ ?_ ?_
    · rintro i σ G _ ⟨z1, z2, ends, found, us, _, sG, _⟩
      exact .of (sG _ _ hq3)
    · rintro i x σ G G1 hi ⟨z1, z2, ends, found, us, rfl, sG, gE, gF, gT, el, fl, _, eq⟩ ⟨T, x1, x2, rfl, nT, rfl, e1, e2⟩
      cases e1
      rw [NLs_len, lines_len] at hi
      replace e2 : (NLs (linesL bs ps))[i]? = some x2 := e2
      rw [NLs_get (lines_get hi)] at e2
      cases e2
      have sT := same_upd (o := .tup [.int (i : Nat), .int (lineAt bs ps i : Nat)]) nT
      refine ⟨T, _, rfl, .of upd_same, rfl, _, _, rfl, _, _, rfl, rfl, ?_⟩
      replace gE := sT _ _ gE
      replace gF := sT _ _ gF
      replace gT : TupIn (upd G T (.tup [.int (i : Nat), .int (lineAt bs ps i : Nat)])) us (found.map triI) := gT.off fun b o h => sT _ _ h
      replace sG := sG.trans sT
      generalize upd G T (.tup [.int (i : Nat), .int (lineAt bs ps i : Nat)]) = G1 at *
      obtain ⟨m, hm⟩ : ∃ m, ps.length - i = m + 1 := ⟨ps.length - i - 1, by omega⟩
      have hm2 : ps.length - (i + 1) = m := by omega
      rw [hm, svm_step] at eq
      have pl := popE_len i ends
      have tE : ∀ (G' : Hp) (o : HO) (b : Addr) (xs : List V), G' aE = some (.lst (NLs ends.reverse)) → G' b = some (.tup xs) → (upd G' aE o) b = some (.tup xs) := fun G' o b xs hE hb => by
        rw [upd_ne (fun z => by rw [z, hE] at hb; cases hb)]
        exact hb
      -- the end that's reached is taken away
      refine ⟨fun σ' G' => σ' = [some (.ref p), some (.ref q), some (.ref d1), some (.ref d2), some (.ref aE), some (.ref aF), some (.int (i : Nat)), some (.int (lineAt bs ps i : Nat))] ∧ Same H3 G' ∧ G' aE = some (.lst (NLs (popE i ends).reverse)) ∧ G' aF = some (.lst us) ∧ TupIn G' us (found.map triI), ?_, ?_⟩
      · cases ends with
        | nil =>
          refine ⟨_, rfl, _, .inl ⟨_, .of gE, rfl⟩, ifF rfl ?_⟩
          exact ifF rfl ⟨rfl, sG, gE, gF, gT⟩
        | cons b r =>
          refine ⟨_, rfl, true, .inl ⟨_, .of gE, ?_⟩, ifT rfl ?_⟩
          · rw [List.reverse_cons, NLs_app]
            simp
          · refine ⟨_, rfl, _, rfl, aE, _, _, _, rfl, rfl, .of gE, NL_last, _, rfl, rfl, _, rfl, ?_⟩
            have eb : decide (V.int (b : Int) = V.int (i : Nat)) = decide (b = i) := decide_eq_decide.mpr ⟨fun h => by have := V.int.inj h; omega, fun h => by rw [h]⟩
            by_cases c : b = i
            · have ep : popE i (b :: r) = r := by
                unfold popE
                rw [c]
                exact if_pos rfl
              rw [ep]
              obtain ⟨r1, r2⟩ := rev_last (b := b) (r := r)
              refine ifT (eb.trans (decide_eq_true c)) ⟨_, rfl, .inl ⟨rfl, _, .of gE⟩, aE, _, _, rfl, rfl, gE, r1, ?_⟩
              rw [r2]
              exact ⟨rfl, same_own sG hE0, upd_same, (upd_ne (Ne.symm nEF)).trans gF, gT.off fun b' o h => tE G1 _ b' o gE h⟩
            · have ep : popE i (b :: r) = b :: r := by
                unfold popE
                rw [if_neg]
                intro h
                exact c (Option.some.inj h)
              rw [ep]
              exact ifF (eb.trans (decide_eq_false c)) ⟨rfl, sG, gE, gF, gT⟩
      rintro σ' G2 ⟨rfl, sG2, gE2, gF2, gT2⟩
      generalize popE i ends = pe at *
      -- a row of comments
      refine ⟨fun σ' G' => σ' = [some (.ref p), some (.ref q), some (.ref d1), some (.ref d2), some (.ref aE), some (.ref aF), some (.int (i : Nat)), some (.int (lineAt bs ps i : Nat))] ∧ Same H3 G' ∧ G' aE = some (.lst (NLs pe.reverse)) ∧ ∃ us, G' aF = some (.lst us) ∧ TupIn G' us ((found ++ (match (cFin bs ps).lookup i with
          | some e => [(lineAt bs ps i, lineAt bs ps e, pe.length)]
          | none => [])).map triI), ?_, ?_⟩
      · have hg := D2.get (sG2 _ _ hd2) i
        refine ⟨_, rfl, _, rfl, d2, _, rfl, hg, _, rfl, ?_⟩
        cases hl : (cFin bs ps).lookup i with
        | none =>
          refine ifF rfl ⟨rfl, sG2, gE2, us, gF2, ?_⟩
          rw [List.append_nil]
          exact gT2
        | some m2 =>
          rw [hl] at hg
          have hm3 := cFin_lt hl
          refine ifT rfl ?_
          refine ⟨_, rfl, .inl ⟨rfl, _, .of gF2⟩, _, rfl, _, rfl, _, rfl, _, rfl, d2, _, rfl, hg, q, _, _, _, rfl, rfl, .of (sG2 _ _ hq3), atI_nat (NLs_get (lines_get hm3)), _, rfl, aE, _, rfl, .inl (.of gE2), (by show 3 ≤ sizeLine; decide), fun t nt => ?_⟩
          have st := same_upd (o := .tup [.int (lineAt bs ps i : Nat), .int (lineAt bs ps m2 : Nat), .int ((NLs pe.reverse).length : Nat)]) nt
          have ntF : t ≠ aF := fun z => by rw [z, gF2] at nt; cases nt
          refine ⟨aF, _, _, rfl, rfl, st _ _ gF2, ?_, ?_⟩
          · rw [gT2.len, List.length_map]
            omega
          · refine ⟨rfl, same_own (sG2.trans st) hFN, (upd_ne nEF).trans (st _ _ gE2), _, upd_same, ?_⟩
            rw [List.map_append]
            refine TupIn.push (a := t) ?_ ?_
            · rw [upd_ne ntF]
              refine upd_same.trans ?_
              rw [NLs_len, List.length_reverse]
              rfl
            · exact (gT2.off fun b o h => st _ _ h).off fun b o h => by
                rw [upd_ne (fun z => by rw [z, st _ _ gF2] at h; cases h)]
                exact h
      rintro σ' G3 ⟨rfl, sG3, gE3, us3, gF3, gT3⟩
      -- a pair of brackets
      have hg := D1.get (sG3 _ _ hd13) i
      have cl1 : (match (cFin bs ps).lookup i with
          | some e => [(lineAt bs ps i, lineAt bs ps e, pe.length)]
          | none => [] : List (Nat × Nat × Nat)).length ≤ 1 := by
        split
        · exact Nat.le_refl _
        · exact Nat.zero_le _
      have eq2 : surveyM bs ps = (found ++ (match (cFin bs ps).lookup i with
          | some e => [(lineAt bs ps i, lineAt bs ps e, pe.length)]
          | none => [])) ++ match (bFin bs ps).lookup i with
          | some e => (lineAt bs ps i, lineAt bs ps e, pe.length) :: svm (lineAt bs ps) (fun n => (cFin bs ps).lookup n) (fun n => (bFin bs ps).lookup n) m (i + 1) (e :: pe)
          | none => svm (lineAt bs ps) (fun n => (cFin bs ps).lookup n) (fun n => (bFin bs ps).lookup n) m (i + 1) pe := by
        rw [List.append_assoc]
        exact eq
      clear eq
      have fl2 : (found ++ (match (cFin bs ps).lookup i with
          | some e => [(lineAt bs ps i, lineAt bs ps e, pe.length)]
          | none => [] : List (Nat × Nat × Nat))).length ≤ 2 * i + 1 := by
        rw [List.length_append]
        omega
      clear cl1
      generalize (found ++ (match (cFin bs ps).lookup i with
          | some e => [(lineAt bs ps i, lineAt bs ps e, pe.length)]
          | none => [] : List (Nat × Nat × Nat))) = found2 at *
      refine ⟨_, rfl, _, rfl, d1, _, rfl, hg, _, rfl, ?_⟩
      cases hl : (bFin bs ps).lookup i with
      | none =>
        rw [hl] at eq2
        refine ifF rfl ?_
        exact ⟨_, _, pe, found2, us3, rfl, sG3, gE3, gF3, gT3, by omega, by omega, by omega, by rw [hm2]; exact eq2⟩
      | some m2 =>
        rw [hl] at eq2 hg
        have hm3 := bFin_lt hl
        refine ifT rfl ?_
        refine ⟨_, rfl, .inl ⟨rfl, _, .of gF3⟩, _, rfl, _, rfl, _, rfl, _, rfl, d1, _, rfl, hg, q, _, _, _, rfl, rfl, .of (sG3 _ _ hq3), atI_nat (NLs_get (lines_get hm3)), _, rfl, aE, _, rfl, .inl (.of gE3), (by show 3 ≤ sizeLine; decide), fun t nt => ?_⟩
        have st := same_upd (o := .tup [.int (lineAt bs ps i : Nat), .int (lineAt bs ps m2 : Nat), .int ((NLs pe.reverse).length : Nat)]) nt
        have ntF : t ≠ aF := fun z => by rw [z, gF3] at nt; cases nt
        refine ⟨aF, _, _, rfl, rfl, st _ _ gF3, ?_, ?_⟩
        · rw [gT3.len, List.length_map]
          omega
        · have sG4 : Same H3 _ := same_own (o := .lst (us3 ++ [.ref t])) (sG3.trans st) hFN
          have gE4 := (upd_ne (o := .lst (us3 ++ [.ref t])) nEF).trans (st _ _ gE3)
          have gT4 : TupIn (upd (upd G3 t (.tup [.int (lineAt bs ps i : Nat), .int (lineAt bs ps m2 : Nat), .int ((NLs pe.reverse).length : Nat)])) aF (.lst (us3 ++ [.ref t]))) (us3 ++ [.ref t]) ((found2 ++ [(lineAt bs ps i, lineAt bs ps m2, pe.length)]).map triI) := by
            rw [List.map_append]
            refine TupIn.push (a := t) ?_ ?_
            · rw [upd_ne ntF]
              refine upd_same.trans ?_
              rw [NLs_len, List.length_reverse]
              rfl
            · exact (gT3.off fun b o h => st _ _ h).off fun b o h => by
                rw [upd_ne (fun z => by rw [z, st _ _ gF3] at h; cases h)]
                exact h
          have gF4 : (upd (upd G3 t (.tup [.int (lineAt bs ps i : Nat), .int (lineAt bs ps m2 : Nat), .int ((NLs pe.reverse).length : Nat)])) aF (.lst (us3 ++ [.ref t]))) aF = some (.lst (us3 ++ [.ref t])) := upd_same
          have hg4 := D1.get (sG4 _ _ hd13) i
          rw [hl] at hg4
          generalize upd (upd G3 t (.tup [.int (lineAt bs ps i : Nat), .int (lineAt bs ps m2 : Nat), .int ((NLs pe.reverse).length : Nat)])) aF (.lst (us3 ++ [.ref t])) = G4 at *
          refine ⟨_, rfl, .inl ⟨rfl, _, .of gE4⟩, _, rfl, _, rfl, d1, _, rfl, hg4, aE, _, _, rfl, rfl, gE4, (by rw [NLs_len, List.length_reverse]; omega), ?_⟩
          refine ⟨_, _, m2 :: pe, found2 ++ [(lineAt bs ps i, lineAt bs ps m2, pe.length)], us3 ++ [.ref t], rfl, same_own sG4 hE0, upd_same.trans ?_, (upd_ne (Ne.symm nEF)).trans gF4, ?_, by rw [List.length_cons]; omega, ?_, by omega, ?_⟩
          · rw [List.reverse_cons, NLs_app]
          · exact gT4.off fun b o h => by
              rw [upd_ne (fun z => by rw [z, gE4] at h; cases h)]
              exact h
          · rw [List.length_append]
            show _ + 1 ≤ _
            omega
          · rw [hm2, List.append_assoc]
            exact eq2
    · rintro σ G ⟨z1, z2, ends, found, us, rfl, sG, gE, gF, gT, el, fl, _, eq⟩
      rw [NLs_len, lines_len, Nat.sub_self] at eq
      have eq2 : surveyM bs ps = found := eq.trans (List.append_nil found)
      rw [NLs_len, lines_len] at fl
      refine ⟨_, rfl, hQ G aF us (s03.trans sG) (s03.free hFN) gF (by rw [eq2]; exact gT) (by rw [eq2]; omega)⟩
theorem c_survey_folds (e : Env w K mg) : Callee P w K mg base 6 "survey_folds" ["program"] (spSurvey K) := by
  obtain ⟨fd, F⟩ := e.d.def_ 46 (d := d_survey_folds) rfl
  exact ⟨_, fd, ok_survey_folds e F, e.glo (x := "survey_folds") (List.mem_of_getElem? (i := 27) rfl), F.kp, F.bindsN fun _ _ _ _ _ _ us hl => match us, hl with | [_], _ => rfl⟩
/-! folds -/
def foldsM (bs : Bytes) : List Int := if refusedOf bs = [] then countedM ((surveyM bs (scan bs).1).map triI) else refusedOf bs
def spFolds (K : PySem.W.Frag) : Sp := fun vs H Q _ => ∃ (a : Addr) (bs : Bytes), vs = [.ref a] ∧ SqL K H a (B bs) ∧ bs.length ≤ 5000 ∧ (refusedOf bs = [] → bok 0 ((scan bs).1.map (·.kind)) = true) ∧
  ∀ H' q, H' q = some (.lst (IL (foldsM bs))) → Q (.ref q) H'
theorem sc_folds : FnScope ["text", "program"] ["text"] (defScope s_folds) := ⟨rfl, rfl, rfl, by decide +kernel, rfl, by decide +kernel, by decide +kernel⟩
abbrev F_folds (K : PySem.W.Frag) (f : Addr) (fd : FuncData) : Prop := FunD K "folds" "folds" (defArgs s_folds) (defBody s_folds) (defScope s_folds) [] [] f fd
theorem ok_folds (e : Env w K mg) (F : F_folds K f fd) : FnOk P w K mg base CX0 9 f fd ["text"] (spFolds K) := by
  obtain ⟨f_read_program, fd_read_program, G_read_program, m_read_program, k_read_program, b_read_program⟩ := c_read_program (P := P) (w := w) (base := base) e
  obtain ⟨f_counted, fd_counted, G_counted, m_counted, k_counted, b_counted⟩ := c_counted (P := P) (w := w) (base := base) e
  obtain ⟨f_survey_folds, fd_survey_folds, G_survey_folds, m_survey_folds, k_survey_folds, b_survey_folds⟩ := c_survey_folds (P := P) (w := w) (base := base) e
  skip
  refine F.ok sc_folds (fun vs H Q E h => ?_) (fun cdv A outer s H vs Q E hr h => ⟨_, PSs.nox
    (pss_cons (ps_set (i := 1) sc_folds.nd rfl (Or.inl rfl) (pe_call G_read_program (hr.mono (by decide)) rfl m_read_program k_read_program b_read_program .nil pass0 (pa_cons (pv 0) pa_nil)))
      (pss_one (ps_ret (pe_ifExp (pt_truth (pe_fld (pv 1) rfl) (fun _ => rfl)) (pe_fld (pv 1) rfl) (pe_call G_counted (hr.mono (by decide)) rfl m_counted k_counted b_counted .nil pass0 (pa_cons (pe_call G_survey_folds (hr.mono (by decide)) rfl m_survey_folds k_survey_folds b_survey_folds .nil pass0 (pa_cons (pv 1) pa_nil)) pa_nil)))))), ?_⟩)
  · obtain ⟨a, bs, rfl, _⟩ := h
    rfl
  · obtain ⟨a, bs, rfl, ha, lb, hok, hQ⟩ := h
    refine ⟨_, rfl, a, bs, rfl, ha, lb, fun H1 p s1 np hp => ?_⟩
    obtain ⟨dx, aR, l, aT, aC, rv, ho, hR, k⟩ := hp
    refine ⟨_, rfl, p, _, _, _, _, rfl, ho, cl_Program e, na_Program_refused e, rfl, _, .inl ⟨_, .of hR, rfl⟩, ?_⟩
    by_cases c : refusedOf bs = []
    · obtain ⟨us, ts, cs, x, st, s', n, D⟩ := k c
      have hM : foldsM bs = countedM ((surveyM bs (scan bs).1).map triI) := if_pos c
      refine ifF (by rw [c]; rfl) ?_
      have cnt : (scan bs).1.length ≤ 4096 := by
        have := scan_count (bs := bs) (bs.length + 1) 0 (Nat.zero_le _)
        have := D.len
        unfold scan
        omega
      refine ⟨_, rfl, p, a, bs, (scan bs).1, rfl, ⟨dx, aR, l, aT, aC, rv, us, D.obj, D.text, D.hl, D.parts⟩, cnt, hok c, fun H2 q us2 s2 nq hq hT hl => ?_⟩
      refine ⟨q, us2, _, rfl, hq, hT, (by rw [List.length_map]; omega), fun r hr0 => ?_, fun H3 r s3 hr3 => hQ H3 r (by rw [hM]; exact hr3)⟩
      obtain ⟨y, _, rfl⟩ := List.mem_map.mp hr0
      exact Nat.le_of_ble_eq_true rfl
    · have hM : foldsM bs = refusedOf bs := if_neg c
      refine ifT ?_ ⟨_, rfl, p, _, _, _, _, rfl, ho, cl_Program e, na_Program_refused e, rfl, hQ H1 aR (by rw [hM]; exact hR)⟩
      cases hx : refusedOf bs with
      | nil => exact absurd hx c
      | cons y r => rfl
theorem c_folds (e : Env w K mg) : Callee P w K mg base 9 "folds" ["text"] (spFolds K) := by
  obtain ⟨fd, F⟩ := e.d.def_ 48 (d := d_folds) rfl
  exact ⟨_, fd, ok_folds e F, e.glo (x := "folds") (List.mem_of_getElem? (i := 29) rfl), F.kp, F.bindsN fun _ _ _ _ _ _ us hl => match us, hl with | [_], _ => rfl⟩
end
end La
set_option maxHeartbeats 4000000
/-! The reader's run as a tree; no library. -/
namespace La
open EwTree
inductive IT where
  | form (x : String)
  | tok (k : List Nat)
  | tell (x : String)
  | act (x : String)
  deriving DecidableEq
/-- an item where the token at hand is of kind k -/
def conv (k : List Nat) : Item → IT
  | .form x => .form x
  | .tok x => .tok (signs x)
  | .any => .tok k
  | .tell x => .tell x
  | .act x => .act x
/-- items eaten, from one state to another -/
inductive Eat (ks : List (List Nat)) (cm : List Bool) : List IT → RS → RS → Prop
  | nil {s : RS} : Eat ks cm [] s s
  | tok {k : List Nat} {l : List IT} {s s' : RS} : s.at_ < ks.length → nk ks s = k → Eat ks cm l s.taken s' → Eat ks cm (.tok k :: l) s s'
  | tell {x : String} {l : List IT} {s s' : RS} : Eat ks cm l { s with telling := toldOf x } s' → Eat ks cm (.tell x :: l) s s'
  | act {x : String} {l : List IT} {s s' : RS} : Eat ks cm l (s.act ks cm x) s' → Eat ks cm (.act x :: l) s s'
  | form {x : String} {b : List Item} {l : List IT} {s s1 s' : RS} : rowOf (nk ks s) ((forms.lookup x).getD []) = some b → Eat ks cm (b.map (conv (nk ks s))) s s1 → Eat ks cm l s1 s' → Eat ks cm (.form x :: l) s s'
section
variable {ks : List (List Nat)} {cm : List Bool}
theorem Eat.split : ∀ {a b : List IT} {s s' : RS}, Eat ks cm (a ++ b) s s' → ∃ s1, Eat ks cm a s s1 ∧ Eat ks cm b s1 s'
  | [], b, s, s', h => ⟨s, .nil, h⟩
  | i :: a, b, s, s', h => by
    cases h with
    | tok h1 h2 h3 =>
      obtain ⟨s1, e1, e2⟩ := Eat.split h3
      exact ⟨s1, .tok h1 h2 e1, e2⟩
    | tell h3 =>
      obtain ⟨s1, e1, e2⟩ := Eat.split h3
      exact ⟨s1, .tell e1, e2⟩
    | act h3 =>
      obtain ⟨s1, e1, e2⟩ := Eat.split h3
      exact ⟨s1, .act e1, e2⟩
    | form h1 h2 h3 =>
      obtain ⟨s1, e1, e2⟩ := Eat.split h3
      exact ⟨s1, .form h1 h2 e1, e2⟩
def noAny (l : List Item) : Bool := l.all fun i => decide (i ≠ .any)
/-- "any" comes ahead of all that is eaten -/
def anyOk : List Item → Bool
  | [] => true
  | .any :: r => noAny r
  | .tell _ :: r => anyOk r
  | .act _ :: r => anyOk r
  | .tok _ :: r => noAny r
  | .form _ :: r => noAny r
theorem rows_any : (forms.all fun f => f.2.all fun r => anyOk r.2) = true := by decide +kernel
theorem noAny_cons {i : Item} {l : List Item} (h : noAny (i :: l) = true) : i ≠ .any ∧ noAny l = true := by
  unfold noAny at h
  rw [List.all_cons, Bool.and_eq_true] at h
  exact ⟨of_decide_eq_true h.1, h.2⟩
theorem anyOk_app : ∀ {a b : List Item}, anyOk a = true → noAny b = true → anyOk (a ++ b) = true
  | [], b, _, h => by
    cases b with
    | nil => rfl
    | cons i r =>
      obtain ⟨h1, h2⟩ := noAny_cons h
      have h3 : ∀ r : List Item, noAny r = true → anyOk r = true := by
        intro r
        induction r with
        | nil => intro _; rfl
        | cons j t ih =>
          intro q
          obtain ⟨q1, q2⟩ := noAny_cons q
          cases j with
          | any => exact absurd rfl q1
          | form x => exact q2
          | tok x => exact q2
          | tell x => exact ih q2
          | act x => exact ih q2
      exact h3 _ h
  | i :: a, b, h1, h => by
    have app : ∀ {a b : List Item}, noAny a = true → noAny b = true → noAny (a ++ b) = true := fun {a b} q1 q2 => by
      unfold noAny at q1 q2 ⊢
      rw [List.all_append, q1, q2]
      rfl
    cases i with
    | form x => exact app h1 h
    | tok x => exact app h1 h
    | any => exact app h1 h
    | tell x => exact anyOk_app (a := a) h1 h
    | act x => exact anyOk_app (a := a) h1 h
theorem conv_noAny {l : List Item} (h : noAny l = true) (k k' : List Nat) : l.map (conv k) = l.map (conv k') := by
  refine List.map_congr_left fun i hi => ?_
  cases i with
  | any =>
    have := of_decide_eq_true (List.all_eq_true.mp h _ hi)
    exact absurd rfl this
  | _ => rfl
theorem nk_at {s s' : RS} (h : s'.at_ = s.at_) : nk ks s' = nk ks s := by
  unfold nk
  rw [h]
theorem eat_of_run : ∀ (n : Nat) (st : List Item) (s s' : RS), runX ks cm n st s = some (true, s') → Safe ks cm st s → anyOk st = true → Eat ks cm (st.map (conv (nk ks s))) s s'
  | 0, _, _, _, h, _, _ => by cases h
  | n + 1, [], s, s', h, _, _ => by
    cases h
    exact .nil
  | n + 1, i :: st, s, s', h, S, ok => by
    have hr : (match stepX ks cm (i :: st) s with
        | .done s => some (true, s)
        | .fail s => some (false, s)
        | .go st s => runX ks cm n st s) = some (true, s') := h
    cases i with
    | form x =>
      cases q : rowOf (nk ks s) ((forms.lookup x).getD []) with
      | none =>
        rw [stepX_form, q] at hr
        cases hr
      | some b =>
        have hs : stepX ks cm (.form x :: st) s = .go (b ++ st) s := by rw [stepX_form, q]
        rw [hs] at hr
        have okb : anyOk b = true := by
          cases e : forms.lookup x with
          | none =>
            rw [e] at q
            cases q
          | some rows =>
            rw [e] at q
            obtain ⟨r, m, rfl, _⟩ := row_mem (show rowOf (nk ks s) rows = some b from q)
            exact List.all_eq_true.mp (List.all_eq_true.mp rows_any _ (lookup_memG e)) r m
        have h2 := eat_of_run n (b ++ st) s s' hr (S.go hs) (anyOk_app okb ok)
        rw [List.map_append] at h2
        obtain ⟨s1, e1, e2⟩ := h2.split
        exact .form q e1 e2
    | tell x =>
      exact .tell (eat_of_run n st _ s' hr (S.go rfl) ok)
    | act x =>
      have e := nk_at (ks := ks) (act_at ks cm s x)
      have h2 := eat_of_run n st _ s' hr (S.go rfl) ok
      rw [e] at h2
      exact .act h2
    | any =>
      have h2 := eat_of_run n st _ s' hr (S.go rfl) (by simpa using anyOk_app (a := []) rfl ok)
      rw [conv_noAny ok _ (nk ks s)] at h2
      exact .tok S.any_lt rfl h2
    | tok x =>
      rw [stepX_tok] at hr
      by_cases c : nk ks s = signs x
      · rw [if_pos c] at hr
        have hs : stepX ks cm (.tok x :: st) s = .go st s.taken := by rw [stepX_tok, if_pos c]
        have h2 := eat_of_run n st _ s' hr (S.go hs) (by simpa using anyOk_app (a := []) rfl ok)
        rw [conv_noAny ok _ (nk ks s)] at h2
        exact .tok (nk_end (by rw [c]; exact S.tok_ne)) c h2
      · rw [if_neg c] at hr
        cases hr
end
end La
set_option maxHeartbeats 4000000
/-! An accepted program's brackets stand in one another; no library. -/
namespace La
open EwTree
/-- how deep it is behind these kinds -/
def bend : Nat → List (List Nat) → Option Nat
  | d, [] => some d
  | d, k :: r => if k ∈ BEG then bend (d + 1) r else if k ∈ FIN then (match d with
    | 0 => none
    | d + 1 => bend d r) else bend d r
theorem bend_cons (d : Nat) (k : List Nat) (r : List (List Nat)) : bend d (k :: r) = if k ∈ BEG then bend (d + 1) r else if k ∈ FIN then (match d with
    | 0 => none
    | d + 1 => bend d r) else bend d r := rfl
theorem bend_app : ∀ {a b : List (List Nat)} {d : Nat}, bend d (a ++ b) = (bend d a).bind fun e => bend e b
  | [], b, d => rfl
  | k :: a, b, d => by
    rw [List.cons_append, bend_cons, bend_cons]
    split
    · exact bend_app
    · split
      · cases d with
        | zero => rfl
        | succ d => exact bend_app
      · exact bend_app
theorem bend_ok : ∀ {l : List (List Nat)} {d e : Nat}, bend d l = some e → bok d l = true
  | [], _, _, _ => rfl
  | k :: l, d, e, h => by
    unfold bend at h
    unfold bok
    split at h
    · rename_i c
      rw [if_pos c]
      exact bend_ok h
    · rename_i c
      rw [if_neg c]
      split at h
      · rename_i c2
        rw [if_pos c2]
        cases d with
        | zero => cases h
        | succ d =>
          rw [decide_eq_true (Nat.succ_pos d)]
          exact bend_ok (l := l) h
      · rename_i c2
        rw [if_neg c2]
        exact bend_ok h
/-- the kinds that items take by themselves -/
def itK : List IT → List (List Nat)
  | [] => []
  | .tok k :: l => k :: itK l
  | _ :: l => itK l
theorem itK_app : ∀ (a b : List IT), itK (a ++ b) = itK a ++ itK b
  | [], b => rfl
  | i :: a, b => by
    cases i with
    | tok k => exact congrArg (k :: ·) (itK_app a b)
    | form x => exact itK_app a b
    | tell x => exact itK_app a b
    | act x => exact itK_app a b
def plainK (k : List Nat) : Bool := decide (k ∉ BEG) && decide (k ∉ FIN)
def hasAny (l : List Item) : Bool := l.any fun i => decide (i = .any)
/-- a row's brackets stand in one another -/
def rowBal (r : Row) : Bool := decide (bend 0 (itK (r.2.map (conv []))) = some 0) && (!hasAny r.2 || (!r.1.isEmpty && r.1.all fun h => plainK (signs h)))
theorem rows_bal : (forms.all fun f => f.2.all rowBal) = true := by decide +kernel
theorem bend_up : ∀ {l : List (List Nat)} {d e k : Nat}, bend d l = some e → bend (d + k) l = some (e + k)
  | [], d, e, k, h => by
    cases h
    rfl
  | x :: l, d, e, k, h => by
    unfold bend at h ⊢
    split at h
    · rename_i c
      rw [if_pos c, show d + k + 1 = d + 1 + k by omega]
      exact bend_up h
    · rename_i c
      rw [if_neg c]
      split at h
      · rename_i c2
        rw [if_pos c2]
        cases d with
        | zero => cases h
        | succ d =>
          rw [show d + 1 + k = (d + k) + 1 by omega]
          exact bend_up (l := l) h
      · rename_i c2
        rw [if_neg c2]
        exact bend_up h
theorem bend_conv {k : List Nat} (hk : plainK k = true) : ∀ (l : List Item) (d : Nat), bend d (itK (l.map (conv k))) = bend d (itK (l.map (conv [])))
  | [], d => rfl
  | i :: l, d => by
    have e0 : ([] : List Nat) ∉ BEG ∧ ([] : List Nat) ∉ FIN := by decide
    cases i with
    | any =>
      unfold plainK at hk
      rw [Bool.and_eq_true] at hk
      have h1 := of_decide_eq_true hk.1
      have h2 := of_decide_eq_true hk.2
      show bend d (k :: itK (l.map (conv k))) = bend d ([] :: itK (l.map (conv [])))
      unfold bend
      rw [if_neg h1, if_neg h2, if_neg e0.1, if_neg e0.2]
      exact bend_conv (by unfold plainK; rw [Bool.and_eq_true]; exact hk) l d
    | tok x =>
      show bend d (signs x :: itK (l.map (conv k))) = bend d (signs x :: itK (l.map (conv [])))
      unfold bend
      split
      · exact bend_conv hk l _
      · split
        · cases d with
          | zero => rfl
          | succ d => exact bend_conv hk l _
        · exact bend_conv hk l _
    | form x => exact bend_conv hk l d
    | tell x => exact bend_conv hk l d
    | act x => exact bend_conv hk l d
theorem conv_hasAny {l : List Item} (h : hasAny l = false) (k k' : List Nat) : l.map (conv k) = l.map (conv k') := by
  refine List.map_congr_left fun i hi => ?_
  cases i with
  | any =>
    unfold hasAny at h
    rw [List.any_eq_false] at h
    exact absurd (h _ hi) (by simp)
  | _ => rfl
theorem row_bend {x : String} {k : List Nat} {b : List Item} (h : rowOf k ((forms.lookup x).getD []) = some b) (d : Nat) : bend d (itK (b.map (conv k))) = some d := by
  cases e : forms.lookup x with
  | none =>
    rw [e] at h
    cases h
  | some rows =>
    rw [e] at h
    obtain ⟨r, m, rfl, hk⟩ := row_mem (show rowOf k rows = some b from h)
    have t := List.all_eq_true.mp (List.all_eq_true.mp rows_bal _ (lookup_memG e)) r m
    unfold rowBal at t
    rw [Bool.and_eq_true] at t
    obtain ⟨t1, t2⟩ := t
    have t1 := bend_up (k := d) (of_decide_eq_true t1)
    rw [Nat.zero_add] at t1
    cases q : hasAny r.2 with
    | false => rw [conv_hasAny q k []]; exact t1
    | true =>
      rw [q] at t2
      have t3 : (!r.1.isEmpty && r.1.all fun h => plainK (signs h)) = true := t2
      rw [Bool.and_eq_true] at t3
      have hk2 : k ∈ r.1.map signs := by
        rcases hk with hk | hk
        · rw [hk] at t3
          cases t3.1
        · exact hk
      obtain ⟨y, hy, rfl⟩ := List.mem_map.mp hk2
      rw [bend_conv (List.all_eq_true.mp t3.2 y hy)]
      exact t1
section
variable {ks : List (List Nat)} {cm : List Bool}
theorem Eat.le {l : List IT} {s s' : RS} (h : Eat ks cm l s s') : s.at_ ≤ s'.at_ := by
  induction h with
  | nil => exact Nat.le_refl _
  | tok h1 h2 h3 ih =>
    rw [taken_at] at ih
    omega
  | tell h3 ih => exact ih
  | act h3 ih =>
    rw [act_at] at ih
    exact ih
  | form h1 h2 h3 ih1 ih2 => omega
theorem Eat.top {l : List IT} {s s' : RS} (h : Eat ks cm l s s') (h0 : s.at_ ≤ ks.length) : s'.at_ ≤ ks.length := by
  induction h with
  | nil => exact h0
  | tok h1 h2 h3 ih =>
    rw [taken_at] at ih
    exact ih h1
  | tell h3 ih => exact ih h0
  | act h3 ih =>
    rw [act_at] at ih
    exact ih h0
  | form h1 h2 h3 ih1 ih2 => exact ih2 (ih1 h0)
/-- the kinds taken from one state to another -/
def segK (ks : List (List Nat)) (a b : Nat) : List (List Nat) := (ks.take b).drop a
theorem seg_split {ks : List (List Nat)} {a b c : Nat} (h1 : a ≤ b) (h2 : b ≤ c) (h3 : c ≤ ks.length) : segK ks a c = segK ks a b ++ segK ks b c := by
  unfold segK
  rw [List.drop_take, List.drop_take, List.drop_take]
  have e : ks.drop b = (ks.drop a).drop (b - a) := by rw [List.drop_drop]; congr 1; omega
  rw [e, ← List.take_add]
  congr 1
  omega
theorem seg_one {ks : List (List Nat)} {a c : Nat} (h1 : a < c) (h3 : c ≤ ks.length) : segK ks a c = ks[a] :: segK ks (a + 1) c := by
  unfold segK
  rw [List.drop_take, List.drop_take, List.drop_eq_getElem_cons (show a < ks.length by omega), show c - a = (c - (a + 1)) + 1 by omega, List.take_succ_cons]
theorem seg_nil {ks : List (List Nat)} {a : Nat} : segK ks a a = [] := by
  unfold segK
  rw [List.drop_eq_nil_iff, List.length_take]
  omega
theorem Eat.bend {l : List IT} {s s' : RS} (h : Eat ks cm l s s') (h0 : s.at_ ≤ ks.length) : ∀ d e, La.bend d (itK l) = some e → La.bend d (segK ks s.at_ s'.at_) = some e := by
  induction h with
  | nil =>
    intro d e q
    rw [seg_nil]
    exact q
  | @tok k l s s' h1 h2 h3 ih =>
    intro d e q
    have h4 := h3.le
    have h5 := h3.top (by rw [taken_at]; exact h1)
    rw [taken_at] at h4 ih
    rw [seg_one h4 h5]
    have e1 : ks[s.at_] = k := by
      rw [← h2]
      unfold nk
      rw [List.getD_eq_getElem?_getD, List.getElem?_eq_getElem h1]
      rfl
    rw [e1]
    have q2 : La.bend d (k :: itK l) = some e := q
    unfold La.bend at q2 ⊢
    split at q2
    · rename_i c
      rw [if_pos c]
      exact ih h1 _ _ q2
    · rename_i c
      rw [if_neg c]
      split at q2
      · rename_i c2
        rw [if_pos c2]
        cases d with
        | zero => cases q2
        | succ d => exact ih h1 _ _ q2
      · rename_i c2
        rw [if_neg c2]
        exact ih h1 _ _ q2
  | tell h3 ih => exact ih h0
  | act h3 ih =>
    rw [act_at] at ih
    exact ih h0
  | form h1 h2 h3 ih1 ih2 =>
    intro d e q
    have t1 := h2.top h0
    rw [seg_split h2.le h3.le (h3.top t1), bend_app, ih1 h0 d d (row_bend h1 d)]
    exact ih2 t1 d e q
end
end La
set_option maxHeartbeats 4000000
/-! Folds: the mirror is the specification; no library. -/
namespace La
open EwTree
/-! ### pairs of brackets -/
/-- pairs, by their parts' numbers, in the order of their ends -/
def prs : Nat → List (List Nat) → List Nat → List (Nat × Nat)
  | _, [], _ => []
  | i, k :: r, st => if k ∈ BEG then prs (i + 1) r (i :: st) else if k ∈ FIN then (match st with
    | b :: s => (b, i) :: prs (i + 1) r s
    | [] => prs (i + 1) r []) else prs (i + 1) r st
def multi (L : Nat → Nat) (y : Nat × Nat) : Bool := decide (L y.1 < L y.2)
theorem bst_prs {L : Nat → Nat} : ∀ {ks : List (List Nat)} {i : Nat} {st : List Nat} {acc : List (Nat × Nat)}, bst L i ks st acc = ((prs i ks st).filter (multi L)).reverse ++ acc
  | [], i, st, acc => rfl
  | k :: r, i, st, acc => by
    unfold bst prs
    split
    · exact bst_prs
    · split
      · cases st with
        | nil => exact bst_prs
        | cons b s =>
          show bst L (i + 1) r s (if L b < L i then (b, i) :: acc else acc) = (((b, i) :: prs (i + 1) r s).filter (multi L)).reverse ++ acc
          rw [bst_prs, List.filter_cons]
          by_cases c : L b < L i
          · rw [if_pos c, if_pos (show multi L (b, i) = true from decide_eq_true c), List.reverse_cons, List.append_assoc]
            rfl
          · rw [if_neg c, if_neg (show ¬ multi L (b, i) = true by unfold multi; simpa using c)]
      · exact bst_prs
/-- what pairs look like -/
theorem prs_ge : ∀ {ks : List (List Nat)} {i : Nat} {st : List Nat}, ∀ y ∈ prs i ks st, i ≤ y.2 ∧ y.2 < i + ks.length ∧ (y.1 ∈ st ∨ i ≤ y.1)
  | [], i, st, y, h => by cases h
  | k :: r, i, st, y, h => by
    unfold prs at h
    rw [List.length_cons]
    split at h
    · obtain ⟨h1, h2, h3⟩ := prs_ge y h
      refine ⟨by omega, by omega, ?_⟩
      rcases h3 with h3 | h3
      · rcases List.mem_cons.mp h3 with h3 | h3
        · exact .inr (by omega)
        · exact .inl h3
      · exact .inr (by omega)
    · split at h
      · cases st with
        | nil =>
          obtain ⟨h1, h2, h3⟩ := prs_ge y h
          refine ⟨by omega, by omega, ?_⟩
          rcases h3 with h3 | h3
          · cases h3
          · exact .inr (by omega)
        | cons b s =>
          rcases List.mem_cons.mp h with rfl | h
          · exact ⟨Nat.le_refl _, by show i < _; omega, .inl List.mem_cons_self⟩
          · obtain ⟨h1, h2, h3⟩ := prs_ge y h
            refine ⟨by omega, by omega, ?_⟩
            rcases h3 with h3 | h3
            · exact .inl (List.mem_cons_of_mem _ h3)
            · exact .inr (by omega)
      · obtain ⟨h1, h2, h3⟩ := prs_ge y h
        refine ⟨by omega, by omega, ?_⟩
        rcases h3 with h3 | h3
        · exact .inl h3
        · exact .inr (by omega)
theorem prs_lt : ∀ {ks : List (List Nat)} {i : Nat} {st : List Nat}, ∀ y ∈ prs i ks st, (∀ b ∈ st, b < i) → y.1 < y.2
  | [], i, st, y, h, _ => by cases h
  | k :: r, i, st, y, h, hl => by
    have hl1 : ∀ b ∈ st, b < i + 1 := fun b hb => Nat.lt_succ_of_lt (hl b hb)
    unfold prs at h
    split at h
    · refine prs_lt y h fun b hb => ?_
      rcases List.mem_cons.mp hb with rfl | hb
      · exact Nat.lt_succ_self _
      · exact hl1 b hb
    · split at h
      · cases st with
        | nil => exact prs_lt y h fun b hb => by cases hb
        | cons b s =>
          rcases List.mem_cons.mp h with rfl | h
          · exact hl b List.mem_cons_self
          · exact prs_lt y h fun c hc => hl1 c (List.mem_cons_of_mem _ hc)
      · exact prs_lt y h hl1
theorem prs_ends : ∀ {ks : List (List Nat)} {i : Nat} {st : List Nat}, (prs i ks st).Pairwise fun y z => y.2 < z.2
  | [], i, st => .nil
  | k :: r, i, st => by
    unfold prs
    split
    · exact prs_ends
    · split
      · cases st with
        | nil => exact prs_ends
        | cons b s =>
          refine .cons (fun z hz => ?_) prs_ends
          have := (prs_ge z hz).1
          show i < z.2
          omega
      · exact prs_ends
theorem prs_begins : ∀ {ks : List (List Nat)} {i : Nat} {st : List Nat}, st.Nodup → (∀ b ∈ st, b < i) → (prs i ks st).Pairwise fun y z => y.1 ≠ z.1
  | [], i, st, _, _ => .nil
  | k :: r, i, st, hn, hl => by
    have hl1 : ∀ b ∈ st, b < i + 1 := fun b hb => Nat.lt_succ_of_lt (hl b hb)
    unfold prs
    split
    · refine prs_begins (List.nodup_cons.mpr ⟨fun h => ?_, hn⟩) fun b hb => ?_
      · exact Nat.lt_irrefl _ (hl i h)
      · rcases List.mem_cons.mp hb with rfl | hb
        · exact Nat.lt_succ_self _
        · exact hl1 b hb
    · split
      · cases st with
        | nil => exact prs_begins .nil fun b hb => by cases hb
        | cons b s =>
          obtain ⟨n1, n2⟩ := List.nodup_cons.mp hn
          refine .cons (fun z hz => ?_) (prs_begins n2 fun c hc => hl1 c (List.mem_cons_of_mem _ hc))
          intro e
          rcases (prs_ge z hz).2.2 with h | h
          · rw [← e] at h
            exact n1 h
          · have := hl b List.mem_cons_self
            rw [← e] at h
            have h' : i + 1 ≤ b := h
            omega
      · exact prs_begins hn hl1
/-- the open ones end one after another, each once -/
theorem prs_open : ∀ {ks : List (List Nat)} {i : Nat} {st : List Nat}, bend st.length ks = some 0 → (∀ b ∈ st, b < i) → ((prs i ks st).filter fun y => decide (y.1 < i)).map (·.1) = st
  | [], i, st, h, _ => by
    cases st with
    | nil => rfl
    | cons b s => cases h
  | k :: r, i, st, h, hl => by
    have hl1 : ∀ b ∈ st, b < i + 1 := fun b hb => Nat.lt_succ_of_lt (hl b hb)
    -- what begins at i + 1 or later, or among st, is below i if below i + 1
    have cut : ∀ {m : List (Nat × Nat)}, (∀ y ∈ m, y.1 ≠ i) → (m.filter fun y => decide (y.1 < i)) = m.filter fun y => decide (y.1 < i + 1) := fun {m} hm => by
      refine List.filter_congr fun y hy => ?_
      have := hm y hy
      exact decide_eq_decide.mpr ⟨fun h => by omega, fun h => by omega⟩
    rw [bend_cons] at h
    unfold prs
    split
    · rename_i c
      rw [if_pos c] at h
      have ih := prs_open (ks := r) (i := i + 1) (st := i :: st) h fun b hb => by
        rcases List.mem_cons.mp hb with rfl | hb
        · exact Nat.lt_succ_self _
        · exact hl1 b hb
      -- the first of them is i's own
      have hn : ((prs (i + 1) r (i :: st)).filter fun y => decide (y.1 < i)) = (((prs (i + 1) r (i :: st)).filter fun y => decide (y.1 < i + 1)).filter fun y => decide (y.1 < i)) := by
        rw [List.filter_filter]
        refine List.filter_congr fun y _ => ?_
        by_cases q : y.1 < i
        · rw [decide_eq_true q, decide_eq_true (Nat.lt_succ_of_lt q)]
          rfl
        · rw [decide_eq_false q]
          rfl
      rw [hn]
      cases hF : ((prs (i + 1) r (i :: st)).filter fun y => decide (y.1 < i + 1)) with
      | nil =>
        rw [hF] at ih
        cases ih
      | cons y m =>
        rw [hF, List.map_cons] at ih
        obtain ⟨ih1, ih2⟩ := List.cons.inj ih
        rw [List.filter_cons, if_neg (by rw [ih1]; simp), List.filter_eq_self.mpr]
        · exact ih2
        · intro z hz
          have : z.1 ∈ st := by
            rw [← ih2]
            exact List.mem_map.mpr ⟨z, hz, rfl⟩
          exact decide_eq_true (hl _ this)
    · rename_i c
      rw [if_neg c] at h
      split
      · rename_i c2
        rw [if_pos c2] at h
        cases st with
        | nil => cases h
        | cons b s =>
          show (((b, i) :: prs (i + 1) r s).filter fun y => decide (y.1 < i)).map (·.1) = b :: s
          have hb := hl b List.mem_cons_self
          rw [List.filter_cons, if_pos (decide_eq_true hb), List.map_cons]
          have ih := prs_open (ks := r) (i := i + 1) (st := s) h fun c hc => hl1 c (List.mem_cons_of_mem _ hc)
          rw [cut fun y hy e => ?_, ih]
          rcases (prs_ge y hy).2.2 with q | q
          · rw [e] at q
            exact Nat.lt_irrefl _ (hl i (List.mem_cons_of_mem _ q))
          · omega
      · rename_i c2
        rw [if_neg c2] at h
        have ih := prs_open (ks := r) (i := i + 1) (st := st) h hl1
        rw [cut fun y hy e => ?_, ih]
        rcases (prs_ge y hy).2.2 with q | q
        · rw [e] at q
          exact Nat.lt_irrefl _ (hl i q)
        · omega
/-- kinds at a pair's ends -/
theorem prs_kind : ∀ {ks : List (List Nat)} {i : Nat} {st : List Nat}, ∀ y ∈ prs i ks st, (∃ k, ks[y.2 - i]? = some k ∧ k ∈ FIN) ∧ (y.1 ∈ st ∨ ∃ k, ks[y.1 - i]? = some k ∧ k ∈ BEG)
  | [], i, st, y, h => by cases h
  | k :: r, i, st, y, h => by
    have up : ∀ {n : Nat} {P : List Nat → Prop}, i + 1 ≤ n → (∃ k, r[n - (i + 1)]? = some k ∧ P k) → ∃ k', (k :: r)[n - i]? = some k' ∧ P k' := fun {n P} hn ⟨k', h1, h2⟩ => by
      refine ⟨k', ?_, h2⟩
      rw [show n - i = (n - (i + 1)) + 1 by omega, List.getElem?_cons_succ]
      exact h1
    have hge := prs_ge y h
    unfold prs at h
    split at h
    · rename_i c
      have g := prs_ge y h
      obtain ⟨h1, h2⟩ := prs_kind y h
      refine ⟨up g.1 h1, ?_⟩
      rcases h2 with h2 | h2
      · rcases List.mem_cons.mp h2 with h2 | h2
        · refine .inr ⟨k, ?_, c⟩
          rw [h2, Nat.sub_self]
          rfl
        · exact .inl h2
      · rcases g.2.2 with q | q
        · rcases List.mem_cons.mp q with q | q
          · refine .inr ⟨k, ?_, c⟩
            rw [q, Nat.sub_self]
            rfl
          · exact .inl q
        · exact .inr (up q h2)
    · split at h
      · rename_i c2
        cases st with
        | nil =>
          have g := prs_ge y h
          obtain ⟨h1, h2⟩ := prs_kind y h
          refine ⟨up g.1 h1, ?_⟩
          rcases h2 with h2 | h2
          · cases h2
          · rcases g.2.2 with q | q
            · cases q
            · exact .inr (up q h2)
        | cons b s =>
          rcases List.mem_cons.mp h with rfl | h
          · refine ⟨⟨k, ?_, c2⟩, .inl List.mem_cons_self⟩
            show (k :: r)[i - i]? = some k
            rw [Nat.sub_self]
            rfl
          · have g := prs_ge y h
            obtain ⟨h1, h2⟩ := prs_kind y h
            refine ⟨up g.1 h1, ?_⟩
            rcases h2 with h2 | h2
            · exact .inl (List.mem_cons_of_mem _ h2)
            · rcases g.2.2 with q | q
              · exact .inl (List.mem_cons_of_mem _ q)
              · exact .inr (up q h2)
      · have g := prs_ge y h
        obtain ⟨h1, h2⟩ := prs_kind y h
        refine ⟨up g.1 h1, ?_⟩
        rcases h2 with h2 | h2
        · exact .inl h2
        · rcases g.2.2 with q | q
          · exact .inl q
          · exact .inr (up q h2)
/-! ### looking up -/
theorem lookup_iff {n m : Nat} : ∀ {l : List (Nat × Nat)}, (l.Pairwise fun y z => y.1 ≠ z.1) → (l.lookup n = some m ↔ (n, m) ∈ l)
  | [], _ => ⟨fun h => (by cases h), fun h => (by cases h)⟩
  | (a, b) :: r, hp => by
    obtain ⟨h1, h2⟩ := List.pairwise_cons.mp hp
    rw [List.lookup_cons, List.mem_cons]
    by_cases c : n = a
    · subst c
      rw [beq_self_eq_true]
      constructor
      · intro h
        cases h
        exact .inl rfl
      · intro h
        rcases h with h | h
        · cases h
          rfl
        · exact absurd (show n = n from rfl) (h1 (n, m) h)
    · rw [show (n == a) = false from beq_eq_false_iff_ne.mpr c, lookup_iff h2]
      constructor
      · exact .inr
      · intro h
        rcases h with h | h
        · cases h
          exact absurd rfl c
        · exact h
theorem lookup_rev {n : Nat} {l : List (Nat × Nat)} (hp : l.Pairwise fun y z => y.1 ≠ z.1) : (l.reverse ++ []).lookup n = l.lookup n := by
  rw [List.append_nil]
  have hr : l.reverse.Pairwise fun y z => y.1 ≠ z.1 := List.pairwise_reverse.mpr (hp.imp fun h => h.symm)
  cases e : l.lookup n with
  | some m => exact (lookup_iff hr).mpr (List.mem_reverse.mpr ((lookup_iff hp).mp e))
  | none =>
    cases e2 : l.reverse.lookup n with
    | none => rfl
    | some m =>
      rw [(lookup_iff hp).mpr (List.mem_reverse.mp ((lookup_iff hr).mp e2))] at e
      cases e
end La
set_option maxHeartbeats 4000000
/-! Folds: rows of comments, depths; no library. -/
namespace La
open EwTree
/-! ### rows of comments -/
def closeR (cur : Option (Nat × Nat × Nat)) : List (Nat × Nat) := match cur with
  | some (a, b, m) => if 2 ≤ m then [(a, b)] else []
  | none => []
def crs (byI : Nat → Bool) (L : Nat → Nat) : Nat → Nat → Option (Nat × Nat × Nat) → List (Nat × Nat)
  | 0, _, cur => closeR cur
  | n + 1, i, cur => if byI i = true then (match cur with
      | some (a, b, m) => if L i = L b + 1 then crs byI L n (i + 1) (some (a, i, m + 1)) else closeR cur ++ crs byI L n (i + 1) (some (i, i, 1))
      | none => crs byI L n (i + 1) (some (i, i, 1)))
    else closeR cur ++ crs byI L n (i + 1) none
/-- a row at hand that ends right ahead of i -/
def CurOk (byI : Nat → Bool) (i : Nat) : Option (Nat × Nat × Nat) → Prop
  | none => True
  | some (a, b, m) => a ≤ b ∧ b + 1 = i ∧ 1 ≤ m ∧ ∀ t, a ≤ t → t ≤ b → byI t = true
theorem cur_new {byI : Nat → Bool} {i : Nat} (c : byI i = true) : CurOk byI (i + 1) (some (i, i, 1)) := ⟨Nat.le_refl _, rfl, Nat.le_refl _, fun t h1 h2 => by
  have e : t = i := by omega
  rw [e]
  exact c⟩
theorem close_ok {byI : Nat → Bool} {i : Nat} {cur : Option (Nat × Nat × Nat)} (h : CurOk byI i cur) : ∀ y ∈ closeR cur, y.1 ≤ y.2 ∧ y.2 < i ∧ (∀ t, y.1 ≤ t → t ≤ y.2 → byI t = true) ∧ ∃ b m, cur = some (y.1, b, m) := by
  intro y hy
  unfold closeR at hy
  split at hy
  · rename_i a b m
    split at hy
    · rw [List.mem_singleton.mp hy]
      obtain ⟨h1, h2, h3, h4⟩ := h
      exact ⟨h1, by show b < i; omega, h4, b, m, rfl⟩
    · cases hy
  · cases hy
def CurA (i : Nat) (cur : Option (Nat × Nat × Nat)) (n : Nat) : Prop := i ≤ n ∨ ∃ b m, cur = some (n, b, m)
theorem crs_ok {byI : Nat → Bool} {L : Nat → Nat} : ∀ {n i : Nat} {cur : Option (Nat × Nat × Nat)}, CurOk byI i cur → ∀ y ∈ crs byI L n i cur, y.1 ≤ y.2 ∧ y.2 < i + n ∧ (∀ t, y.1 ≤ t → t ≤ y.2 → byI t = true) ∧ CurA i cur y.1
  | 0, i, cur, h, y, hy => by
    obtain ⟨h1, h2, h3, h4⟩ := close_ok h y hy
    exact ⟨h1, h2, h3, .inr h4⟩
  | n + 1, i, cur, h, y, hy => by
    have new : byI i = true → CurOk byI (i + 1) (some (i, i, 1)) := cur_new
    have ofNew : y.1 ≤ y.2 ∧ y.2 < i + 1 + n ∧ (∀ t, y.1 ≤ t → t ≤ y.2 → byI t = true) ∧ CurA (i + 1) (some (i, i, 1)) y.1 → y.1 ≤ y.2 ∧ y.2 < i + (n + 1) ∧ (∀ t, y.1 ≤ t → t ≤ y.2 → byI t = true) ∧ CurA i cur y.1 := fun ⟨g1, g2, g3, g4⟩ => by
      refine ⟨g1, by omega, g3, .inl ?_⟩
      rcases g4 with g4 | ⟨b, m, g4⟩
      · omega
      · cases g4
        exact Nat.le_refl _
    have ofClose : y ∈ closeR cur → y.1 ≤ y.2 ∧ y.2 < i + (n + 1) ∧ (∀ t, y.1 ≤ t → t ≤ y.2 → byI t = true) ∧ CurA i cur y.1 := fun hy => by
      obtain ⟨h1, h2, h3, h4⟩ := close_ok h y hy
      exact ⟨h1, by omega, h3, .inr h4⟩
    unfold crs at hy
    split at hy
    · rename_i c
      cases cur with
      | none => exact ofNew (crs_ok (new c) y hy)
      | some z =>
        obtain ⟨a, b, m⟩ := z
        simp only at hy
        split at hy
        · obtain ⟨h1, h2, h3, h4⟩ := h
          have g := crs_ok (L := L) (n := n) (i := i + 1) (cur := some (a, i, m + 1)) ⟨by omega, rfl, by omega, fun t t1 t2 => by
            by_cases q : t = i
            · rw [q]; exact c
            · exact h4 t t1 (by omega)⟩ y hy
          obtain ⟨g1, g2, g3, g4⟩ := g
          refine ⟨g1, by omega, g3, ?_⟩
          rcases g4 with g4 | ⟨b', m', g4⟩
          · exact .inl (by omega)
          · cases g4
            exact .inr ⟨b, m, rfl⟩
        · rcases List.mem_append.mp hy with hy | hy
          · exact ofClose hy
          · exact ofNew (crs_ok (new c) y hy)
    · rcases List.mem_append.mp hy with hy | hy
      · exact ofClose hy
      · obtain ⟨g1, g2, g3, g4⟩ := crs_ok (L := L) (n := n) (i := i + 1) (cur := none) trivial y hy
        refine ⟨g1, by omega, g3, .inl ?_⟩
        rcases g4 with g4 | ⟨b', m', g4⟩
        · omega
        · cases g4
theorem close_sorted {cur : Option (Nat × Nat × Nat)} {l : List (Nat × Nat)} {i : Nat} {byI : Nat → Bool} (h : CurOk byI i cur) (hl : l.Pairwise fun y z => y.1 < z.1) (hg : ∀ y ∈ l, i ≤ y.1) : (closeR cur ++ l).Pairwise fun y z => y.1 < z.1 := by
  rw [List.pairwise_append]
  refine ⟨?_, hl, fun y hy z hz => ?_⟩
  · unfold closeR
    split
    · split
      · exact List.pairwise_singleton _ _
      · exact .nil
    · exact .nil
  · obtain ⟨h1, h2, _⟩ := close_ok h y hy
    have := hg z hz
    omega
theorem crs_sorted {byI : Nat → Bool} {L : Nat → Nat} : ∀ {n i : Nat} {cur : Option (Nat × Nat × Nat)}, CurOk byI i cur → (crs byI L n i cur).Pairwise fun y z => y.1 < z.1
  | 0, i, cur, h => by
    have := close_sorted (l := []) h .nil fun y hy => by cases hy
    rwa [List.append_nil] at this
  | n + 1, i, cur, h => by
    have new : byI i = true → CurOk byI (i + 1) (some (i, i, 1)) := cur_new
    unfold crs
    split
    · rename_i c
      cases cur with
      | none => exact crs_sorted (new c)
      | some z =>
        obtain ⟨a, b, m⟩ := z
        simp only
        split
        · obtain ⟨h1, h2, h3, h4⟩ := h
          exact crs_sorted ⟨by omega, rfl, by omega, fun t t1 t2 => by
            by_cases q : t = i
            · rw [q]; exact c
            · exact h4 t t1 (by omega)⟩
        · refine close_sorted h (crs_sorted (new c)) fun y hy => ?_
          rcases (crs_ok (new c) y hy).2.2.2 with q | ⟨b', m', q⟩
          · omega
          · cases q
            exact Nat.le_refl _
    · refine close_sorted h (crs_sorted (cur := none) trivial) fun y hy => ?_
      rcases (crs_ok (cur := none) trivial y hy).2.2.2 with q | ⟨b', m', q⟩
      · omega
      · cases q
theorem crs_has {byI : Nat → Bool} {L : Nat → Nat} {a : Nat} : ∀ {n i b m : Nat}, 2 ≤ m → ∃ e, (crs byI L n i (some (a, b, m))).lookup a = some e
  | 0, i, b, m, h => by
    refine ⟨b, ?_⟩
    show (if 2 ≤ m then [(a, b)] else []).lookup a = some b
    rw [if_pos h, List.lookup_cons, beq_self_eq_true]
  | n + 1, i, b, m, h => by
    have hc : ∀ l : List (Nat × Nat), (closeR (some (a, b, m)) ++ l).lookup a = some b := fun l => by
      show ((if 2 ≤ m then [(a, b)] else []) ++ l).lookup a = some b
      rw [if_pos h]
      show ((a, b) :: l).lookup a = some b
      rw [List.lookup_cons, beq_self_eq_true]
    unfold crs
    split
    · simp only
      split
      · exact crs_has (by omega)
      · exact ⟨b, hc _⟩
    · exact ⟨b, hc _⟩
theorem lookup_none {n : Nat} : ∀ {l : List (Nat × Nat)}, (∀ y ∈ l, y.1 ≠ n) → l.lookup n = none
  | [], _ => rfl
  | (a, b) :: r, h => by
    rw [List.lookup_cons, show (n == a) = false from beq_eq_false_iff_ne.mpr fun e => h (a, b) List.mem_cons_self e.symm]
    exact lookup_none fun y hy => h y (List.mem_cons_of_mem _ hy)
def orL (o : Option Nat) (p : Option Nat) : Option Nat := match o with
  | some e => some e
  | none => p
/-- the dict's row of comments: what it gives -/
theorem cst_crs {byI : Nat → Bool} {L : Nat → Nat} (j : Nat) : ∀ {n i : Nat} {acc : List (Nat × Nat)}, ((cst byI L n i none acc).lookup j = orL ((crs byI L n i none).lookup j) (acc.lookup j)) ∧
    ∀ a m, CurOk byI i (some (a, i - 1, m)) → (2 ≤ m → acc.lookup a = some (i - 1)) → (cst byI L n i (some a) acc).lookup j = orL ((crs byI L n i (some (a, i - 1, m))).lookup j) (acc.lookup j)
  | 0, i, acc => by
    refine ⟨rfl, fun a m h h2 => ?_⟩
    show acc.lookup j = orL ((if 2 ≤ m then [(a, i - 1)] else []).lookup j) (acc.lookup j)
    split
    · rename_i c
      rw [List.lookup_cons]
      by_cases q : j = a
      · subst q
        rw [beq_self_eq_true]
        exact h2 c
      · rw [show (j == a) = false from beq_eq_false_iff_ne.mpr q]
        rfl
    · rfl
  | n + 1, i, acc => by
    have new : byI i = true → CurOk byI (i + 1) (some (i, i, 1)) := cur_new
    have ih := fun acc => cst_crs (byI := byI) (L := L) j (n := n) (i := i + 1) (acc := acc)
    rw [Nat.add_sub_cancel] at ih
    have ofNew : byI i = true → (cst byI L n (i + 1) (some i) acc).lookup j = orL ((crs byI L n (i + 1) (some (i, i, 1))).lookup j) (acc.lookup j) := fun c => (ih acc).2 i 1 (new c) fun h => absurd h (by omega)
    refine ⟨?_, fun a m h h2 => ?_⟩
    · unfold cst crs
      by_cases c : byI i = true
      · rw [if_neg (by rw [c]; simp), if_pos c]
        exact ofNew c
      · rw [if_pos (by simpa using c), if_neg c]
        exact (ih acc).1
    · have hcur := h
      obtain ⟨h3, h4, h5, h6⟩ := h
      -- a row that's closed
      have closed : ∀ {X : List (Nat × Nat)} {o : Option Nat}, (∀ y ∈ X, i ≤ y.1) → o = orL (X.lookup j) (acc.lookup j) → o = orL ((closeR (some (a, i - 1, m)) ++ X).lookup j) (acc.lookup j) := fun {X o} hX ho => by
        rw [ho]
        show _ = orL (((if 2 ≤ m then [(a, i - 1)] else []) ++ X).lookup j) _
        split
        · rename_i c
          show _ = orL (((a, i - 1) :: X).lookup j) _
          rw [List.lookup_cons]
          by_cases q : j = a
          · subst q
            rw [beq_self_eq_true, lookup_none fun y hy e => by have := hX y hy; omega, h2 c]
            rfl
          · rw [show (j == a) = false from beq_eq_false_iff_ne.mpr q]
        · rfl
      unfold cst crs
      by_cases c : byI i = true
      · rw [if_neg (by rw [c]; simp), if_pos c]
        simp only
        by_cases c2 : L i = L (i - 1) + 1
        · rw [if_pos c2, if_pos c2]
          have h7 := (ih ((a, i) :: acc)).2 a (m + 1) ⟨by omega, rfl, by omega, fun t t1 t2 => by
            by_cases q : t = i
            · rw [q]; exact c
            · exact h6 t t1 (by omega)⟩ fun _ => by rw [List.lookup_cons, beq_self_eq_true]
          rw [h7, List.lookup_cons]
          by_cases q : j = a
          · subst q
            obtain ⟨e, he⟩ := crs_has (byI := byI) (L := L) (a := j) (n := n) (i := i + 1) (b := i) (m := m + 1) (by omega)
            rw [he]
            rfl
          · rw [show (j == a) = false from beq_eq_false_iff_ne.mpr q]
        · rw [if_neg c2, if_neg c2]
          refine closed (fun y hy => ?_) (ofNew c)
          rcases (crs_ok (new c) y hy).2.2.2 with q | ⟨b', m', q⟩
          · omega
          · cases q
            exact Nat.le_refl _
      · rw [if_pos (by simpa using c), if_neg c]
        refine closed (fun y hy => ?_) (ih acc).1
        rcases (crs_ok (cur := none) trivial y hy).2.2.2 with q | ⟨b', m', q⟩
        · omega
        · cases q
/-! ### depths -/
theorem len_fm {α β : Type} {f : α → Option β} {p : α → Bool} : ∀ {l : List α}, (∀ z ∈ l, (f z).isSome = p z) → (l.filterMap f).length = (l.filter p).length
  | [], _ => rfl
  | z :: l, h => by
    have ih := len_fm (l := l) fun x hx => h x (List.mem_cons_of_mem _ hx)
    have hz := h z List.mem_cons_self
    rw [List.filterMap_cons, List.filter_cons]
    cases e : f z with
    | none =>
      rw [e] at hz
      rw [← hz]
      exact ih
    | some y =>
      rw [e] at hz
      rw [← hz]
      exact congrArg (· + 1) ih
def cnt (P : List (Nat × Nat)) (y : Nat × Nat) : Nat := (P.filter fun z => decide (z.1 < y.1) && decide (y.2 < z.2)).length
/-- where folds begin, from part i on -/
def startsF (cl bl : Nat → Option Nat) : Nat → Nat → List (Nat × Nat)
  | 0, _ => []
  | n + 1, i => ((cl i).toList ++ (bl i).toList).map (fun e => (i, e)) ++ startsF cl bl n (i + 1)
section
variable {L : Nat → Nat} {K : List (List Nat)} {R : List (Nat × Nat)}
abbrev Pm (L : Nat → Nat) (K : List (List Nat)) : List (Nat × Nat) := (prs 0 K []).filter (multi L)
theorem P_keys : (Pm L K).Pairwise fun y z => y.1 ≠ z.1 := (prs_begins .nil fun b hb => by cases hb).filter _
theorem P_look {a e : Nat} (h : (Pm L K).lookup a = some e) : (a, e) ∈ prs 0 K [] ∧ multi L (a, e) = true := List.mem_filter.mp ((lookup_iff P_keys).mp h)
theorem P_look2 {y : Nat × Nat} (h : y ∈ prs 0 K []) : (Pm L K).lookup y.1 = if multi L y = true then some y.2 else none := by
  split
  · rename_i c
    exact (lookup_iff P_keys).mpr (List.mem_filter.mpr ⟨h, c⟩)
  · rename_i c
    cases e : (Pm L K).lookup y.1 with
    | none => rfl
    | some m =>
      obtain ⟨h1, h2⟩ := P_look e
      have hp : (prs 0 K []).Pairwise fun y z => y.1 ≠ z.1 := prs_begins .nil fun b hb => by cases hb
      have e1 := (lookup_iff hp).mpr h1
      have e2 := (lookup_iff hp).mpr (show (y.1, y.2) ∈ prs 0 K [] from h)
      rw [e1] at e2
      cases e2
      exact absurd h2 c
/-- what holds at part i -/
structure At (L : Nat → Nat) (K : List (List Nat)) (i : Nat) (st : List Nat) (D : List (Nat × Nat)) : Prop where
  all : prs 0 K [] = D ++ prs i (K.drop i) st
  done : ∀ y ∈ D, y.2 < i
  below : ∀ b ∈ st, b < i
  nodup : st.Nodup
  bal : bend st.length (K.drop i) = some 0
theorem At.depth {i : Nat} {st : List Nat} {D : List (Nat × Nat)} (h : At L K i st D) {e : Nat} (he : i ≤ e) (hz : ∀ z ∈ prs i (K.drop i) st, z.1 < i → e < z.2) : (st.filterMap fun b => (Pm L K).lookup b).length = cnt (Pm L K) (i, e) := by
  have ho := prs_open h.bal h.below
  have hm : ∀ z ∈ prs i (K.drop i) st, z ∈ prs 0 K [] := fun z hz => by rw [h.all]; exact List.mem_append_right _ hz
  have e1 : (st.filterMap fun b => (Pm L K).lookup b).length = (((prs i (K.drop i) st).filter fun y => decide (y.1 < i)).filter (multi L)).length := by
    rw [← ho, List.filterMap_map]
    rw [ho]
    refine len_fm fun z hz => ?_
    show ((Pm L K).lookup z.1).isSome = multi L z
    rw [P_look2 (hm z (List.mem_filter.mp hz).1)]
    cases multi L z <;> rfl
  rw [e1]
  unfold cnt Pm
  rw [h.all, List.filter_append, List.filter_append, List.length_append]
  have e2 : ((D.filter (multi L)).filter fun z => decide (z.1 < (i, e).1) && decide ((i, e).2 < z.2)) = [] := by
    rw [List.filter_eq_nil_iff]
    intro z hz2
    have := h.done z (List.mem_filter.mp hz2).1
    rw [Bool.and_eq_true, decide_eq_true_eq, decide_eq_true_eq]
    intro q
    have : e < z.2 := q.2
    omega
  rw [e2, List.length_nil, Nat.zero_add, List.filter_filter, List.filter_filter]
  congr 1
  refine List.filter_congr fun z hz2 => ?_
  cases multi L z with
  | false => simp
  | true =>
    by_cases c : z.1 < i
    · rw [decide_eq_true c, show decide ((i, e).2 < z.2) = true from decide_eq_true (hz z hz2 c)]
      rfl
    · rw [decide_eq_false c]
      rfl
end
end La
set_option maxHeartbeats 4000000
/-! Folds: all together, by parts' numbers; no library. -/
namespace La
open EwTree
def plainAt (K : List (List Nat)) (t : Nat) : Prop := ∀ k, K[t]? = some k → k ∉ BEG ∧ k ∉ FIN
theorem beg_fin {k : List Nat} (h : k ∈ BEG) : k ∉ FIN := by
  unfold BEG at h
  simp only [List.map_cons, List.map_nil, List.mem_cons, List.not_mem_nil, or_false] at h
  rcases h with rfl | rfl | rfl <;> decide
theorem pop_keep {i : Nat} {l : List Nat} (h : ∀ m ∈ l, m ≠ i) : popE i l = l := by
  unfold popE
  cases l with
  | nil => rfl
  | cons m r =>
    rw [if_neg]
    intro e
    exact h m List.mem_cons_self (Option.some.inj e)
theorem pop_take {i : Nat} {l : List Nat} : popE i (i :: l) = l := if_pos rfl
section
variable {L : Nat → Nat} {K : List (List Nat)} {R : List (Nat × Nat)}
theorem svm_step0 (L : Nat → Nat) (cl bl : Nat → Option Nat) (n i : Nat) (ends : List Nat) : svm L cl bl (n + 1) i ends = (match cl i with
      | some e => [(L i, L e, (popE i ends).length)]
      | none => []) ++ match bl i with
      | some e => (L i, L e, (popE i ends).length) :: svm L cl bl n (i + 1) (e :: popE i ends)
      | none => svm L cl bl n (i + 1) (popE i ends) := rfl
/-- **the folds, one after another** -/
theorem svm_is (hR : ∀ y ∈ R, y.1 ≤ y.2 ∧ ∀ t, y.1 ≤ t → t ≤ y.2 → plainAt K t) (hRk : R.Pairwise fun y z => y.1 ≠ z.1) : ∀ {n i : Nat} {st : List Nat} {D : List (Nat × Nat)}, i + n = K.length → At L K i st D →
    svm L (fun j => R.lookup j) (fun j => (Pm L K).lookup j) n i (st.filterMap fun b => (Pm L K).lookup b) = (startsF (fun j => R.lookup j) (fun j => (Pm L K).lookup j) n i).map fun y => (L y.1, L y.2, cnt (Pm L K) y)
  | 0, i, st, D, _, _ => rfl
  | n + 1, i, st, D, hn, A => by
    have hi : i < K.length := by omega
    have hd : K.drop i = K[i] :: K.drop (i + 1) := List.drop_eq_getElem_cons hi
    have hk : K[i]? = some K[i] := List.getElem?_eq_getElem hi
    have beg_of : ∀ e, (i, e) ∈ prs 0 K [] → K[i] ∈ BEG := fun e h => by
      rcases (prs_kind _ h).2 with q | ⟨k, q1, q2⟩
      · cases q
      · have q1 : K[i]? = some k := q1
        rw [hk] at q1
        cases q1
        exact q2
    have fin_of : ∀ a, (a, i) ∈ prs 0 K [] → K[i] ∈ FIN := fun a h => by
      obtain ⟨⟨k, q1, q2⟩, _⟩ := prs_kind _ h
      have q1 : K[i]? = some k := q1
      rw [hk] at q1
      cases q1
      exact q2
    have cl_of : ∀ e, R.lookup i = some e → K[i] ∉ BEG ∧ K[i] ∉ FIN := fun e h => by
      have hm := (lookup_iff hRk).mp h
      exact (hR _ hm).2 i (Nat.le_refl _) (hR _ hm).1 _ hk
    have memF : ∀ z ∈ prs i (K.drop i) st, z ∈ prs 0 K [] := fun z hz => by rw [A.all]; exact List.mem_append_right _ hz
    rw [svm_step0]
    show _ = (((R.lookup i).toList ++ ((Pm L K).lookup i).toList).map (fun e => (i, e)) ++ startsF (fun j => R.lookup j) (fun j => (Pm L K).lookup j) n (i + 1)).map fun y => (L y.1, L y.2, cnt (Pm L K) y)
    by_cases c1 : K[i] ∈ BEG
    · have noCl : R.lookup i = none := by
        cases e : R.lookup i with
        | none => rfl
        | some m => exact absurd c1 (cl_of m e).1
      have hpop : popE i (st.filterMap fun b => (Pm L K).lookup b) = st.filterMap fun b => (Pm L K).lookup b := by
        refine pop_keep fun m hm e => ?_
        subst e
        obtain ⟨b, hb, hl⟩ := List.mem_filterMap.mp hm
        exact beg_fin c1 (fin_of b (P_look hl).1)
      have up : prs i (K.drop i) st = prs (i + 1) (K.drop (i + 1)) (i :: st) := by
        rw [hd]
        unfold prs
        rw [if_pos c1]
        cases K.drop (i + 1) <;> rfl
      have A2 : At L K (i + 1) (i :: st) D := by
        refine ⟨by rw [← up]; exact A.all, fun y hy => Nat.lt_succ_of_lt (A.done y hy), fun b hb => ?_, List.nodup_cons.mpr ⟨fun h => Nat.lt_irrefl _ (A.below i h), A.nodup⟩, ?_⟩
        · rcases List.mem_cons.mp hb with rfl | hb
          · exact Nat.lt_succ_self _
          · exact Nat.lt_succ_of_lt (A.below b hb)
        · have := A.bal
          rw [hd, bend_cons, if_pos c1] at this
          exact this
      have ih := svm_is hR hRk (n := n) (i := i + 1) (st := i :: st) (D := D) (by omega) A2
      rw [noCl, hpop]
      cases hb : (Pm L K).lookup i with
      | none =>
        rw [List.filterMap_cons, hb] at ih
        exact ih
      | some e =>
        rw [List.filterMap_cons, hb] at ih
        obtain ⟨hm, _⟩ := P_look hb
        -- i's own pair ends ahead of those around it
        have hz : ∀ z ∈ prs i (K.drop i) st, z.1 < i → e < z.2 := by
          intro z hz hlt
          rw [up] at hz
          have ho := prs_open A2.bal A2.below
          have hmF : (i, e) ∈ prs (i + 1) (K.drop (i + 1)) (i :: st) := by
            rw [← up]
            rw [A.all] at hm
            rcases List.mem_append.mp hm with q | q
            · have h1 := A.done _ q
              have h2 := (prs_ge _ (memF _ (by rw [up]; exact hz))).2
              have : e < i := h1
              have hge : ∀ y ∈ prs 0 K [], y.1 < y.2 := by
                intro y hy
                exact prs_lt y hy (fun b hb => by cases hb)
              have := hge (i, e) (by rw [A.all]; exact List.mem_append_left _ q)
              have : i < e := this
              omega
            · exact q
          cases hF : ((prs (i + 1) (K.drop (i + 1)) (i :: st)).filter fun y => decide (y.1 < i + 1)) with
          | nil =>
            rw [hF] at ho
            cases ho
          | cons y m =>
            have hs := (prs_ends (ks := K.drop (i + 1)) (i := i + 1) (st := i :: st)).filter fun y => decide (y.1 < i + 1)
            rw [hF] at hs ho
            rw [List.map_cons] at ho
            obtain ⟨ho1, ho2⟩ := List.cons.inj ho
            have hy : y ∈ prs (i + 1) (K.drop (i + 1)) (i :: st) := by
              have : y ∈ ((prs (i + 1) (K.drop (i + 1)) (i :: st)).filter fun y => decide (y.1 < i + 1)) := by
                rw [hF]
                exact List.mem_cons_self
              exact (List.mem_filter.mp this).1
            have hye : y = (i, e) := by
              have hp : (prs 0 K []).Pairwise fun y z => y.1 ≠ z.1 := prs_begins .nil fun b hb => by cases hb
              have e1 := (lookup_iff hp).mpr (show (y.1, y.2) ∈ prs 0 K [] from memF y (by rw [up]; exact hy))
              have e2 := (lookup_iff hp).mpr (show (i, e) ∈ prs 0 K [] from memF _ (by rw [up]; exact hmF))
              rw [ho1, e2] at e1
              exact Prod.ext ho1 (Option.some.inj e1).symm
            have hz2 : z ∈ y :: m := by
              rw [← hF]
              exact List.mem_filter.mpr ⟨hz, decide_eq_true (by omega)⟩
            rcases List.mem_cons.mp hz2 with q | q
            · rw [q, hye] at hlt
              exact absurd hlt (Nat.lt_irrefl _)
            · have := (List.pairwise_cons.mp hs).1 z q
              rw [hye] at this
              exact this
        have hie : i ≤ e := by
          have := prs_lt (i, e) hm fun b hb => by cases hb
          exact Nat.le_of_lt this
        rw [A.depth hie hz]
        show [] ++ (_ :: svm L _ _ n (i + 1) (e :: st.filterMap fun b => (Pm L K).lookup b)) = _
        rw [ih]
        rfl
    · have noBl : (Pm L K).lookup i = none := by
        cases e : (Pm L K).lookup i with
        | none => rfl
        | some m => exact absurd (beg_of m (P_look e).1) c1
      by_cases c2 : K[i] ∈ FIN
      · have noCl : R.lookup i = none := by
          cases e : R.lookup i with
          | none => rfl
          | some m => exact absurd c2 (cl_of m e).2
        cases st with
        | nil =>
          have := A.bal
          rw [hd, bend_cons, if_neg c1, if_pos c2] at this
          cases this
        | cons b s =>
          have up : prs i (K.drop i) (b :: s) = (b, i) :: prs (i + 1) (K.drop (i + 1)) s := by
            rw [hd]
            unfold prs
            rw [if_neg c1, if_pos c2]
            cases K.drop (i + 1) <;> rfl
          obtain ⟨nd1, nd2⟩ := List.nodup_cons.mp A.nodup
          have A2 : At L K (i + 1) s (D ++ [(b, i)]) := by
            refine ⟨by rw [List.append_assoc]; rw [A.all, up]; rfl, fun y hy => ?_, fun c hc => Nat.lt_succ_of_lt (A.below c (List.mem_cons_of_mem _ hc)), nd2, ?_⟩
            · rcases List.mem_append.mp hy with q | q
              · exact Nat.lt_succ_of_lt (A.done y q)
              · rw [List.mem_singleton.mp q]
                exact Nat.lt_succ_self i
            · have := A.bal
              rw [hd, bend_cons, if_neg c1, if_pos c2] at this
              exact this
          have ih := svm_is hR hRk (n := n) (i := i + 1) (st := s) (D := D ++ [(b, i)]) (by omega) A2
          have hbi := P_look2 (L := L) (memF (b, i) (by rw [up]; exact List.mem_cons_self))
          have hpop : popE i ((b :: s).filterMap fun b => (Pm L K).lookup b) = s.filterMap fun b => (Pm L K).lookup b := by
            rw [List.filterMap_cons, show (Pm L K).lookup b = if multi L (b, i) = true then some i else none from hbi]
            cases multi L (b, i) with
            | true => exact pop_take
            | false =>
              refine pop_keep fun m hm e => ?_
              subst e
              obtain ⟨c, hc, hl⟩ := List.mem_filterMap.mp hm
              have hmem := (P_look hl).1
              rw [A.all, up] at hmem
              rcases List.mem_append.mp hmem with q | q
              · exact Nat.lt_irrefl _ (A.done _ q)
              · rcases List.mem_cons.mp q with q | q
                · cases q
                  exact nd1 hc
                · have := (prs_ge _ q).1
                  have : m + 1 ≤ m := this
                  omega
          rw [noCl, noBl, hpop]
          exact ih
      · have up : prs i (K.drop i) st = prs (i + 1) (K.drop (i + 1)) st := by
          rw [hd]
          unfold prs
          rw [if_neg c1, if_neg c2]
          cases K.drop (i + 1) <;> rfl
        have A2 : At L K (i + 1) st D := by
          refine ⟨by rw [← up]; exact A.all, fun y hy => Nat.lt_succ_of_lt (A.done y hy), fun b hb => Nat.lt_succ_of_lt (A.below b hb), A.nodup, ?_⟩
          have := A.bal
          rw [hd, bend_cons, if_neg c1, if_neg c2] at this
          exact this
        have ih := svm_is hR hRk (n := n) (i := i + 1) (st := st) (D := D) (by omega) A2
        have hpop : popE i (st.filterMap fun b => (Pm L K).lookup b) = st.filterMap fun b => (Pm L K).lookup b := by
          refine pop_keep fun m hm e => ?_
          subst e
          obtain ⟨b, hb, hl⟩ := List.mem_filterMap.mp hm
          exact c2 (fin_of b (P_look hl).1)
        rw [noBl, hpop]
        cases hc : R.lookup i with
        | none => exact ih
        | some e =>
          have hm := (lookup_iff hRk).mp hc
          obtain ⟨hie, hpl⟩ := hR _ hm
          have hz : ∀ z ∈ prs i (K.drop i) st, z.1 < i → e < z.2 := by
            intro z hz _
            have hge := (prs_ge z hz).1
            rcases Nat.lt_or_ge e z.2 with q | q
            · exact q
            · obtain ⟨⟨k, q1, q2⟩, _⟩ := prs_kind z (memF z hz)
              exact absurd q2 (hpl z.2 hge q k q1).2
          rw [A.depth hie hz, ih]
          rfl
end
end La
set_option maxHeartbeats 4000000
/-! Folds: in the order of places; the specification's; no library. -/
namespace La
open EwTree
/-! ### sorting -/
def Sorted1 (l : List (Nat × Nat)) : Prop := l.Pairwise fun y z => y.1 < z.1
theorem sorted_eq : ∀ {l m : List (Nat × Nat)}, Sorted1 l → Sorted1 m → (∀ y, y ∈ l ↔ y ∈ m) → l = m
  | [], [], _, _, _ => rfl
  | [], y :: m, _, _, h => absurd ((h y).mpr List.mem_cons_self) (by simp)
  | y :: l, [], _, _, h => absurd ((h y).mp List.mem_cons_self) (by simp)
  | y :: l, z :: m, h1, h2, h => by
    obtain ⟨a1, a2⟩ := List.pairwise_cons.mp h1
    obtain ⟨b1, b2⟩ := List.pairwise_cons.mp h2
    have e : y = z := by
      rcases List.mem_cons.mp ((h y).mp List.mem_cons_self) with q | q
      · exact q
      · rcases List.mem_cons.mp ((h z).mpr List.mem_cons_self) with q2 | q2
        · exact q2.symm
        · have := b1 y q
          have := a1 z q2
          omega
    subst e
    rw [sorted_eq a2 b2 fun x => ?_]
    constructor
    · intro hx
      rcases List.mem_cons.mp ((h x).mp (List.mem_cons_of_mem _ hx)) with q | q
      · have := a1 x hx
        rw [q] at this
        exact absurd this (Nat.lt_irrefl _)
      · exact q
    · intro hx
      rcases List.mem_cons.mp ((h x).mpr (List.mem_cons_of_mem _ hx)) with q | q
      · have := b1 x hx
        rw [q] at this
        exact absurd this (Nat.lt_irrefl _)
      · exact q
theorem into_mem {x z : Nat × Nat} : ∀ {l : List (Nat × Nat)}, z ∈ WrNeat.foldInto x l ↔ z = x ∨ z ∈ l
  | [] => by
    unfold WrNeat.foldInto
    simp
  | y :: r => by
    unfold WrNeat.foldInto
    split
    · simp
    · rw [List.mem_cons, into_mem, List.mem_cons]
      constructor
      · rintro (h | h | h)
        · exact .inr (.inl h)
        · exact .inl h
        · exact .inr (.inr h)
      · rintro (h | h | h)
        · exact .inr (.inl h)
        · exact .inl h
        · exact .inr (.inr h)
theorem into_sorted {x : Nat × Nat} : ∀ {l : List (Nat × Nat)}, Sorted1 l → (∀ y ∈ l, y.1 ≠ x.1) → Sorted1 (WrNeat.foldInto x l)
  | [], _, _ => List.pairwise_singleton _ _
  | y :: r, h, hx => by
    obtain ⟨h1, h2⟩ := List.pairwise_cons.mp h
    have hy := hx y List.mem_cons_self
    unfold WrNeat.foldInto
    split
    · refine .cons (fun z hz => ?_) h
      rcases List.mem_cons.mp hz with rfl | hz
      · omega
      · have := h1 z hz
        omega
    · refine .cons (fun z hz => ?_) (into_sorted h2 fun z hz => hx z (List.mem_cons_of_mem _ hz))
      rcases into_mem.mp hz with rfl | hz
      · omega
      · exact h1 z hz
theorem sort_mem {z : Nat × Nat} : ∀ {l : List (Nat × Nat)}, z ∈ l.foldr WrNeat.foldInto [] ↔ z ∈ l
  | [] => Iff.rfl
  | y :: r => by
    rw [List.foldr_cons, into_mem, sort_mem, List.mem_cons]
theorem sort_sorted : ∀ {l : List (Nat × Nat)}, (l.Pairwise fun y z => y.1 ≠ z.1) → Sorted1 (l.foldr WrNeat.foldInto [])
  | [], _ => .nil
  | y :: r, h => by
    obtain ⟨h1, h2⟩ := List.pairwise_cons.mp h
    rw [List.foldr_cons]
    exact into_sorted (sort_sorted h2) fun z hz => (h1 z (sort_mem.mp hz)).symm
/-! ### where folds begin -/
theorem starts_mem {cl bl : Nat → Option Nat} {y : Nat × Nat} : ∀ {n i : Nat}, y ∈ startsF cl bl n i ↔ i ≤ y.1 ∧ y.1 < i + n ∧ (cl y.1 = some y.2 ∨ bl y.1 = some y.2)
  | 0, i => by
    constructor
    · intro h
      cases h
    · rintro ⟨h1, h2, _⟩
      omega
  | n + 1, i => by
    unfold startsF
    rw [List.mem_append, starts_mem, List.mem_map]
    constructor
    · rintro (⟨e, he, rfl⟩ | ⟨h1, h2, h3⟩)
      · refine ⟨Nat.le_refl _, by show i < _; omega, ?_⟩
        rcases List.mem_append.mp he with q | q
        · exact .inl (Option.mem_toList.mp q)
        · exact .inr (Option.mem_toList.mp q)
      · exact ⟨by omega, by omega, h3⟩
    · rintro ⟨h1, h2, h3⟩
      by_cases c : y.1 = i
      · refine .inl ⟨y.2, ?_, Prod.ext c.symm rfl⟩
        rw [c] at h3
        rcases h3 with q | q
        · exact List.mem_append_left _ (Option.mem_toList.mpr q)
        · exact List.mem_append_right _ (Option.mem_toList.mpr q)
      · exact .inr ⟨by omega, by omega, h3⟩
theorem starts_sorted {cl bl : Nat → Option Nat} (h : ∀ i, cl i = none ∨ bl i = none) : ∀ {n i : Nat}, Sorted1 (startsF cl bl n i)
  | 0, i => .nil
  | n + 1, i => by
    unfold startsF Sorted1
    rw [List.pairwise_append]
    refine ⟨?_, starts_sorted h, fun y hy z hz => ?_⟩
    · rcases h i with q | q
      · rw [q]
        cases bl i with
        | none => exact .nil
        | some m => exact List.pairwise_singleton _ _
      · rw [q]
        cases cl i with
        | none => exact .nil
        | some m => exact List.pairwise_singleton _ _
    · obtain ⟨e, _, rfl⟩ := List.mem_map.mp hy
      have := (starts_mem.mp hz).1
      show i < z.1
      omega
/-- **folds, by parts' numbers** -/
theorem folds_num {L : Nat → Nat} {K : List (List Nat)} {R : List (Nat × Nat)} (hR : ∀ y ∈ R, y.1 ≤ y.2 ∧ y.2 < K.length ∧ ∀ t, y.1 ≤ t → t ≤ y.2 → plainAt K t) (hRk : R.Pairwise fun y z => y.1 ≠ z.1) (hb : bend 0 K = some 0) :
    svm L (fun j => R.lookup j) (fun j => (Pm L K).lookup j) K.length 0 [] = ((Pm L K ++ R).foldr WrNeat.foldInto []).map fun y => (L y.1, L y.2, cnt (Pm L K) y) := by
  have A : At L K 0 [] [] := ⟨rfl, fun y hy => (by cases hy), fun b hb => (by cases hb), .nil, hb⟩
  have h := svm_is (fun y hy => ⟨(hR y hy).1, (hR y hy).2.2⟩) hRk (n := K.length) (i := 0) (Nat.zero_add _) A
  refine (show svm L (fun j => R.lookup j) (fun j => (Pm L K).lookup j) K.length 0 [] = _ from h).trans ?_
  congr 1
  have kb : ∀ a e, (a, e) ∈ prs 0 K [] → ∃ k, K[a]? = some k ∧ k ∈ BEG := fun a e h => by
    rcases (prs_kind _ h).2 with q | ⟨k, q1, q2⟩
    · cases q
    · exact ⟨k, q1, q2⟩
  have dis : ∀ y ∈ Pm L K, ∀ z ∈ R, y.1 ≠ z.1 := fun y hy z hz e => by
    obtain ⟨k, k1, k2⟩ := kb y.1 y.2 (List.mem_filter.mp hy).1
    rw [e] at k1
    exact ((hR z hz).2.2 z.1 (Nat.le_refl _) (hR z hz).1 k k1).1 k2
  refine sorted_eq (starts_sorted fun i => ?_) (sort_sorted ?_) fun y => ?_
  · cases e1 : R.lookup i with
    | none => exact .inl rfl
    | some a =>
      refine .inr ?_
      cases e2 : (Pm L K).lookup i with
      | none => rfl
      | some b => exact absurd rfl (dis (i, b) ((lookup_iff P_keys).mp e2) (i, a) ((lookup_iff hRk).mp e1))
  · rw [List.pairwise_append]
    exact ⟨P_keys, hRk, dis⟩
  · rw [starts_mem, sort_mem, List.mem_append, lookup_iff hRk, lookup_iff P_keys]
    constructor
    · rintro ⟨_, _, h | h⟩
      · exact .inr h
      · exact .inl h
    · intro h
      refine ⟨Nat.zero_le _, ?_, h.symm⟩
      rcases h with h | h
      · obtain ⟨k, k1, _⟩ := kb y.1 y.2 (List.mem_filter.mp h).1
        have := (List.getElem?_eq_some_iff.mp k1).1
        omega
      · have := hR y h
        omega
end La
set_option maxHeartbeats 4000000
/-! Folds: the specification's are the mirror's; no library. -/
namespace La
open EwTree EwNeat WrNeat
/-! ### brackets, by tokens and by kinds -/
theorem clM_zero {k : List Nat} : clM k = 0 ↔ k ∈ BEG := by
  unfold clM
  split
  · rename_i c
    exact ⟨fun _ => c, fun _ => rfl⟩
  · rename_i c
    refine ⟨fun h => ?_, fun h => absurd h c⟩
    repeat' split at h
    all_goals cases h
theorem clM_fin {k : List Nat} (hb : k ∉ BEG) : (clM k = 1 ∨ clM k = 2) ↔ k ∈ FIN := by
  unfold clM
  rw [if_neg hb]
  split
  · rename_i c
    refine ⟨fun _ => c, fun _ => ?_⟩
    split
    · exact .inr rfl
    · exact .inl rfl
  · rename_i c
    refine ⟨fun h => ?_, fun h => absurd h c⟩
    rcases h with h | h
    · repeat' split at h
      all_goals cases h
    · repeat' split at h
      all_goals cases h
abbrev opensT (x : Tok) : Prop := x.kind = 5 ∧ (x.bytes = word "(" ∨ x.bytes = word "[" ∨ x.bytes = word "{")
abbrev closesT (x : Tok) : Prop := x.kind = 5 ∧ isClosing x.bytes = true
theorem clS_zero {x : Tok} : clS x.kind x.bytes = 0 ↔ opensT x := by
  unfold clS
  split
  · rename_i c
    split
    · rename_i c2
      exact ⟨fun _ => ⟨c, c2⟩, fun _ => rfl⟩
    · rename_i c2
      refine ⟨fun h => ?_, fun h => absurd h.2 c2⟩
      repeat' split at h
      all_goals cases h
  · rename_i c
    refine ⟨fun h => ?_, fun h => absurd h.1 c⟩
    repeat' split at h
    all_goals cases h
theorem closing_iff {b : Bytes} : isClosing b = true ↔ b = word ")" ∨ b = word "]" ∨ b = word "}" := by
  unfold isClosing
  rw [Bool.or_eq_true, Bool.or_eq_true, beq_iff_eq, beq_iff_eq, beq_iff_eq]
theorem clS_fin {x : Tok} (hb : ¬ opensT x) : (clS x.kind x.bytes = 1 ∨ clS x.kind x.bytes = 2) ↔ closesT x := by
  show _ ↔ (x.kind = 5 ∧ isClosing x.bytes = true)
  unfold clS
  rw [closing_iff]
  by_cases c : x.kind = 5
  · have c2 : ¬ (x.bytes = word "(" ∨ x.bytes = word "[" ∨ x.bytes = word "{") := fun h => hb ⟨c, h⟩
    rw [if_pos c, if_neg c2]
    by_cases c3 : x.bytes = word ")" ∨ x.bytes = word "]"
    · rw [if_pos c3]
      refine ⟨fun _ => ⟨c, ?_⟩, fun _ => .inl rfl⟩
      rcases c3 with q | q
      · exact .inl q
      · exact .inr (.inl q)
    · rw [if_neg c3]
      by_cases c4 : x.bytes = word "}"
      · rw [if_pos c4]
        exact ⟨fun _ => ⟨c, .inr (.inr c4)⟩, fun _ => .inr rfl⟩
      · rw [if_neg c4]
        refine ⟨fun h => ?_, fun h => ?_⟩
        · rcases h with h | h
          · repeat' split at h
            all_goals cases h
          · repeat' split at h
            all_goals cases h
        · rcases h.2 with q | q | q
          · exact absurd (.inl q) c3
          · exact absurd (.inr q) c3
          · exact absurd q c4
  · rw [if_neg c]
    refine ⟨fun h => ?_, fun h => absurd h.1 c⟩
    rcases h with h | h
    · repeat' split at h
      all_goals cases h
    · repeat' split at h
      all_goals cases h
theorem opens_iff {bs : Bytes} {p : Part} (h : Valid bs p) : opensT (toTok bs p) ↔ p.kind ∈ BEG := by
  rw [← clM_zero, cl_same h, clS_zero]
theorem closes_iff {bs : Bytes} {p : Part} (h : Valid bs p) (hb : p.kind ∉ BEG) : closesT (toTok bs p) ↔ p.kind ∈ FIN := by
  rw [← clM_fin hb, cl_same h, clS_fin fun q => hb ((opens_iff h).mp q)]
def loP (ps : List Part) (i : Nat) : Nat := (ps[i]?.map (·.lo)).getD 0
theorem loP_get {ps : List Part} {i : Nat} {p : Part} (h : ps[i]? = some p) : loP ps i = p.lo := by
  unfold loP
  rw [h]
  rfl
abbrev plP (ps : List Part) (y : Nat × Nat) : Nat × Nat := (loP ps y.1, loP ps y.2)
theorem pairs_step {x : Tok} {st : List Nat} {r : List Tok} : pairsOf st (x :: r) = if x.kind = 5 ∧ (x.bytes = word "(" ∨ x.bytes = word "[" ∨ x.bytes = word "{") then pairsOf (x.place :: st) r
    else if x.kind = 5 ∧ isClosing x.bytes = true then (match st with
      | p :: q => (p, x.place) :: pairsOf q r
      | [] => pairsOf [] r)
    else pairsOf st r := by
  cases st <;> rfl
theorem drop_cons {α : Type} {l : List α} {i : Nat} {x : α} {r : List α} (h : l.drop i = x :: r) : l[i]? = some x ∧ l.drop (i + 1) = r := by
  constructor
  · have : (l.drop i)[0]? = some x := by rw [h]; rfl
    rwa [List.getElem?_drop, Nat.add_zero] at this
  · have : l.drop (i + 1) = (l.drop i).drop 1 := by rw [List.drop_drop]
    rw [this, h]
    rfl
theorem prs_step {i : Nat} {k : List Nat} {r : List (List Nat)} {st : List Nat} : prs i (k :: r) st = if k ∈ BEG then prs (i + 1) r (i :: st) else if k ∈ FIN then (match st with
    | b :: s => (b, i) :: prs (i + 1) r s
    | [] => prs (i + 1) r []) else prs (i + 1) r st := by
  cases st <;> rfl
theorem pairs_is {bs : Bytes} {ps : List Part} : ∀ (r : List Part) (i : Nat) (st : List Nat), ps.drop i = r → (∀ p ∈ r, isCom p = false → Valid bs p) →
    pairsOf (st.map (loP ps)) ((r.filter fun p => !isCom p).map (toTok bs)) = (prs i (r.map (·.kind)) st).map (plP ps)
  | [], i, st, _, _ => by cases st <;> rfl
  | p :: r, i, st, hd, hv => by
    obtain ⟨hp, hd2⟩ := drop_cons hd
    have ih := fun st => pairs_is r (i + 1) st hd2 fun q hq => hv q (List.mem_cons_of_mem _ hq)
    have hlo := loP_get hp
    rw [List.map_cons, prs_step]
    cases hc : isCom p with
    | true =>
      have hk : p.kind = signs "#" := of_decide_eq_true hc
      rw [List.filter_cons_of_neg (by rw [hc]; simp), hk, if_neg (by decide), if_neg (by decide)]
      exact ih st
    | false =>
      have V := hv p List.mem_cons_self hc
      rw [List.filter_cons_of_pos (by rw [hc]; rfl), List.map_cons, pairs_step]
      by_cases c1 : p.kind ∈ BEG
      · rw [if_pos c1, if_pos ((opens_iff V).mpr c1)]
        have := ih (i :: st)
        rw [List.map_cons, hlo] at this
        exact this
      · rw [if_neg c1, if_neg fun q => c1 ((opens_iff V).mp q)]
        by_cases c2 : p.kind ∈ FIN
        · rw [if_pos c2, if_pos ((closes_iff V c1).mpr c2)]
          cases st with
          | nil => exact ih []
          | cons b s =>
            show (loP ps b, p.lo) :: _ = (loP ps b, loP ps i) :: _
            rw [hlo]
            exact congrArg _ (ih s)
        · rw [if_neg c2, if_neg fun q => c2 ((closes_iff V c1).mp q)]
          exact ih st
/-! ### rows of comments -/
theorem close_is {ps : List Part} (cur : Option (Nat × Nat × Nat)) : (match cur.map fun z => (loP ps z.1, loP ps z.2.1, z.2.2) with
      | some (a, b, n) => if 2 ≤ n then [(a, b)] else []
      | none => []) = (closeR cur).map (plP ps) := by
  cases cur with
  | none => rfl
  | some z =>
    obtain ⟨a, b, m⟩ := z
    show (if 2 ≤ m then [(loP ps a, loP ps b)] else []) = (if 2 ≤ m then [(a, b)] else []).map (plP ps)
    split <;> rfl
theorem rows_nil (t : Bytes) (cur : Option (Nat × Nat × Nat)) (own : Bool) : rowsFrom t cur own [] = match cur with
    | some (a, b, n) => if 2 ≤ n then [(a, b)] else []
    | none => [] := by
  cases cur <;> rfl
theorem rows_cons (t : Bytes) (cur : Option (Nat × Nat × Nat)) (own : Bool) (e : El) (r : List El) : rowsFrom t cur own (e :: r) =
    if e.tok.isNone = true ∧ own = true then (match cur with
      | some (a, b, n) => if lineOf t e.place = lineOf t b + 1 then rowsFrom t (some (a, e.place, n + 1)) ((r.head?.map fun (x : El) => decide (1 ≤ ends (between t e.halt_ x.place))).getD false) r
        else (match cur with
          | some (a, b, n) => if 2 ≤ n then [(a, b)] else []
          | none => []) ++ rowsFrom t (some (e.place, e.place, 1)) ((r.head?.map fun (x : El) => decide (1 ≤ ends (between t e.halt_ x.place))).getD false) r
      | none => rowsFrom t (some (e.place, e.place, 1)) ((r.head?.map fun (x : El) => decide (1 ≤ ends (between t e.halt_ x.place))).getD false) r)
    else (match cur with
          | some (a, b, n) => if 2 ≤ n then [(a, b)] else []
          | none => []) ++ rowsFrom t none ((r.head?.map fun (x : El) => decide (1 ≤ ends (between t e.halt_ x.place))).getD false) r := by
  cases cur <;> rfl
theorem els_head {k : Nat} {ps : List Part} : (elsOf k ps).head?.map (fun x => x.place) = ps.head?.map (·.lo) := by
  cases ps with
  | nil => rfl
  | cons p r =>
    unfold elsOf
    split <;> rfl
theorem crs_step {byI : Nat → Bool} {L : Nat → Nat} (n i : Nat) (cur : Option (Nat × Nat × Nat)) : crs byI L (n + 1) i cur = if byI i = true then (match cur with
      | some (a, b, m) => if L i = L b + 1 then crs byI L n (i + 1) (some (a, i, m + 1)) else closeR cur ++ crs byI L n (i + 1) (some (i, i, 1))
      | none => crs byI L n (i + 1) (some (i, i, 1)))
    else closeR cur ++ crs byI L n (i + 1) none := by
  cases cur <;> rfl
theorem rows_is {bs : Bytes} {ps : List Part} (ho : InOrder bs 0 ps) : ∀ {n i k : Nat} {cur : Option (Nat × Nat × Nat)} {own : Bool}, i + n = ps.length → CurOk (byIt bs ps) i cur → (i < ps.length → own = (decide (i = 0) || decide (0 < brk bs ps i))) →
    rowsFrom bs (cur.map fun z => (loP ps z.1, loP ps z.2.1, z.2.2)) own (elsOf k (ps.drop i)) = (crs (byIt bs ps) (lineAt bs ps) n i cur).map (plP ps)
  | 0, i, k, cur, own, hn, _, _ => by
    rw [List.drop_eq_nil_of_le (by omega)]
    show rowsFrom bs _ own [] = _
    rw [rows_nil, close_is]
    rfl
  | n + 1, i, k, cur, own, hn, hc, hown => by
    have hi : i < ps.length := by omega
    have hp : ps[i]? = some ps[i] := List.getElem?_eq_getElem hi
    rw [List.drop_eq_getElem_cons hi]
    have hlo := loP_get hp
    have hline := line_is ho hp
    -- the element, and what's behind it
    obtain ⟨e, k2, he, he1, he2, he3⟩ : ∃ e k2, elsOf k (ps[i] :: ps.drop (i + 1)) = e :: elsOf k2 (ps.drop (i + 1)) ∧ e.place = ps[i].lo ∧ e.halt_ = ps[i].hi ∧ e.tok.isNone = isCom ps[i] := by
      cases c : isCom ps[i] with
      | true => exact ⟨⟨ps[i].lo, ps[i].hi, none⟩, k, by unfold elsOf; rw [if_pos c]; cases ps.drop (i + 1) <;> rfl, rfl, rfl, rfl⟩
      | false => exact ⟨⟨ps[i].lo, ps[i].hi, some k⟩, k + 1, by unfold elsOf; rw [if_neg (by rw [c]; simp)]; cases ps.drop (i + 1) <;> rfl, rfl, rfl, rfl⟩
    rw [he, rows_cons, crs_step]
    have hnext : i + 1 < ps.length → ((elsOf k2 (ps.drop (i + 1))).head?.map fun (x : El) => decide (1 ≤ ends (between bs e.halt_ x.place))).getD false = (decide (i + 1 = 0) || decide (0 < brk bs ps (i + 1))) := fun h => by
      have hq : ps[i + 1]? = some ps[i + 1] := List.getElem?_eq_getElem h
      have e1 : ((elsOf k2 (ps.drop (i + 1))).head?.map fun (x : El) => decide (1 ≤ ends (between bs e.halt_ x.place))) = ((elsOf k2 (ps.drop (i + 1))).head?.map fun x => x.place).map fun q => decide (1 ≤ ends (between bs e.halt_ q)) := by
        rw [Option.map_map]
        rfl
      rw [e1, els_head, List.drop_eq_getElem_cons h, he2]
      have e2 : brk bs ps (i + 1) = ends (between bs ps[i].hi ps[i + 1].lo) := by
        unfold brk gapOf gapHi gapLo between
        rw [hq, if_neg (Nat.succ_ne_zero i), Nat.add_sub_cancel, hp]
        show ends ((bs.take ps[i + 1].lo).drop ps[i].hi) = _
        rw [List.drop_take]
      rw [e2, decide_eq_false (Nat.succ_ne_zero i)]
      rfl
    have hby : (e.tok.isNone = true ∧ own = true) ↔ byIt bs ps i = true := by
      rw [he3, hown hi]
      unfold byIt
      rw [hp, Bool.and_eq_true]
      exact Iff.rfl
    have new : byIt bs ps i = true → CurOk (byIt bs ps) (i + 1) (some (i, i, 1)) := cur_new
    have ihN : byIt bs ps i = true → rowsFrom bs (some (e.place, e.place, 1)) ((elsOf k2 (ps.drop (i + 1))).head?.map (fun (x : El) => decide (1 ≤ ends (between bs e.halt_ x.place))) |>.getD false) (elsOf k2 (ps.drop (i + 1))) = (crs (byIt bs ps) (lineAt bs ps) n (i + 1) (some (i, i, 1))).map (plP ps) := fun c => by
      have := rows_is ho (n := n) (i := i + 1) (k := k2) (cur := some (i, i, 1)) (by omega) (new c) hnext
      rw [← this, he1, ← hlo]
      rfl
    by_cases c : byIt bs ps i = true
    · rw [if_pos (hby.mpr c), if_pos c]
      cases cur with
      | none => exact ihN c
      | some z =>
        obtain ⟨a, b, m⟩ := z
        obtain ⟨h1, h2, h3, h4⟩ := hc
        have hb : ps[b]? = some (ps[b]'(by omega)) := List.getElem?_eq_getElem _
        have hbl := line_is ho hb
        simp only [Option.map_some]
        have hcond : (lineOf bs e.place = lineOf bs (loP ps b) + 1) ↔ (lineAt bs ps i = lineAt bs ps b + 1) := by
          rw [he1, loP_get hb]
          show (ends (bs.take ps[i].lo) = ends (bs.take (ps[b]'(by omega)).lo) + 1) ↔ _
          rw [hline, hbl]
        by_cases c2 : lineAt bs ps i = lineAt bs ps b + 1
        · rw [if_pos (hcond.mpr c2), if_pos c2]
          have := rows_is ho (n := n) (i := i + 1) (k := k2) (cur := some (a, i, m + 1)) (by omega) ⟨by omega, rfl, by omega, fun t t1 t2 => by
            by_cases q : t = i
            · rw [q]; exact c
            · exact h4 t t1 (by omega)⟩ hnext
          rw [← this, he1, ← hlo]
          rfl
        · rw [if_neg fun q => c2 (hcond.mp q), if_neg c2, List.map_append, ← ihN c, ← close_is]
          rfl
    · rw [if_neg fun q => c (hby.mp q), if_neg c, List.map_append, close_is]
      have := rows_is ho (n := n) (i := i + 1) (k := k2) (cur := none) (by omega) trivial hnext
      rw [← this]
      rfl
/-! ### all folds -/
theorem loP_lt {bs : Bytes} {ps : List Part} (ho : InOrder bs 0 ps) {i j : Nat} (hj : j < ps.length) (h : i < j) : loP ps i < loP ps j := by
  have hp : ps[i]? = some (ps[i]'(by omega)) := List.getElem?_eq_getElem _
  have hq : ps[j]? = some ps[j] := List.getElem?_eq_getElem hj
  rw [loP_get hp, loP_get hq]
  have h1 := (ho.get hp).2.1
  have h2 := ho.next hp hq h
  omega
theorem loP_iff {bs : Bytes} {ps : List Part} (ho : InOrder bs 0 ps) {i j : Nat} (hi : i < ps.length) (hj : j < ps.length) : loP ps i < loP ps j ↔ i < j := by
  constructor
  · intro h
    rcases Nat.lt_or_ge i j with q | q
    · exact q
    · rcases Nat.lt_or_eq_of_le q with q | q
      · have := loP_lt ho hi q
        omega
      · rw [q] at h
        exact absurd h (Nat.lt_irrefl _)
  · exact loP_lt ho hj
theorem into_map {ps : List Part} {x : Nat × Nat} : ∀ {l : List (Nat × Nat)}, (∀ y ∈ l, (loP ps x.1 ≤ loP ps y.1 ↔ x.1 ≤ y.1)) → foldInto (plP ps x) (l.map (plP ps)) = (foldInto x l).map (plP ps)
  | [], _ => rfl
  | y :: r, h => by
    have hy := h y List.mem_cons_self
    have ih := into_map (ps := ps) (x := x) (l := r) fun z hz => h z (List.mem_cons_of_mem _ hz)
    rw [List.map_cons]
    show (if (plP ps x).1 ≤ (plP ps y).1 then plP ps x :: plP ps y :: r.map (plP ps) else plP ps y :: foldInto (plP ps x) (r.map (plP ps))) = (if x.1 ≤ y.1 then x :: y :: r else y :: foldInto x r).map (plP ps)
    by_cases c : x.1 ≤ y.1
    · rw [if_pos c, if_pos (hy.mpr c)]
      rfl
    · rw [if_neg c, if_neg fun q => c (hy.mp q), ih]
      rfl
theorem sort_map {ps : List Part} : ∀ {l : List (Nat × Nat)}, (∀ x ∈ l, ∀ y ∈ l, (loP ps x.1 ≤ loP ps y.1 ↔ x.1 ≤ y.1)) → (l.map (plP ps)).foldr foldInto [] = (l.foldr foldInto []).map (plP ps)
  | [], _ => rfl
  | x :: l, h => by
    rw [List.map_cons, List.foldr_cons, List.foldr_cons, sort_map fun a ha b hb => h a (List.mem_cons_of_mem _ ha) b (List.mem_cons_of_mem _ hb), into_map]
    intro y hy
    exact h x List.mem_cons_self y (List.mem_cons_of_mem _ (sort_mem.mp hy))
theorem byIt_plain {bs : Bytes} {ps : List Part} {t : Nat} (h : byIt bs ps t = true) : plainAt (ps.map (·.kind)) t := by
  intro k hk
  unfold byIt at h
  rw [Bool.and_eq_true] at h
  rw [List.getElem?_map] at hk
  cases e : ps[t]? with
  | none =>
    rw [e] at hk
    cases hk
  | some p =>
    rw [e] at hk h
    cases hk
    have hc : p.kind = signs "#" := of_decide_eq_true h.1
    show p.kind ∉ BEG ∧ p.kind ∉ FIN
    rw [hc]
    decide
def rowsN (bs : Bytes) (ps : List Part) : List (Nat × Nat) := crs (byIt bs ps) (lineAt bs ps) ps.length 0 none
/-- **the specification's folds are the mirror's** -/
theorem folds_is {bs : Bytes} (hf : (scan bs).2 = none) (hb : bend 0 ((scan bs).1.map (·.kind)) = some 0) :
    foldsOf bs = svm (lineAt bs (scan bs).1) (fun j => (rowsN bs (scan bs).1).lookup j) (fun j => (Pm (lineAt bs (scan bs).1) ((scan bs).1.map (·.kind))).lookup j) (scan bs).1.length 0 [] := by
  have ho := parts_order bs
  have hel := elements_is hf
  have htk : (tokens bs).1 = ((scan bs).1.filter fun p => !isCom p).map (toTok bs) := by rw [tokens_is]; rfl
  have hv : ∀ p ∈ (scan bs).1, isCom p = false → Valid bs p := scan_valid _ _
  generalize hps : (scan bs).1 = ps at *
  have hR : ∀ y ∈ rowsN bs ps, y.1 ≤ y.2 ∧ y.2 < (ps.map (·.kind)).length ∧ ∀ t, y.1 ≤ t → t ≤ y.2 → plainAt (ps.map (·.kind)) t := fun y hy => by
    obtain ⟨h1, h2, h3, _⟩ := crs_ok (cur := none) trivial y hy
    rw [List.length_map]
    exact ⟨h1, by omega, fun t t1 t2 => byIt_plain (h3 t t1 t2)⟩
  have hRk : (rowsN bs ps).Pairwise fun y z => y.1 ≠ z.1 := (crs_sorted (cur := none) trivial).imp fun h => Nat.ne_of_lt h
  have hfn := folds_num (L := lineAt bs ps) hR hRk hb
  rw [List.length_map] at hfn
  rw [hfn]
  -- places of valid numbers
  have vP : ∀ y ∈ prs 0 (ps.map (·.kind)) [], y.1 < ps.length ∧ y.2 < ps.length := fun y hy => by
    have h1 := (prs_ge y hy).2.1
    rw [List.length_map] at h1
    have h2 := prs_lt y hy fun b hb => by cases hb
    exact ⟨by omega, by omega⟩
  have vA : ∀ y ∈ Pm (lineAt bs ps) (ps.map (·.kind)) ++ rowsN bs ps, y.1 < ps.length ∧ y.2 < ps.length := fun y hy => by
    rcases List.mem_append.mp hy with q | q
    · exact vP y (List.mem_filter.mp q).1
    · have := hR y q
      rw [List.length_map] at this
      exact ⟨by omega, this.2.1⟩
  have lineL : ∀ i, i < ps.length → lineOf bs (loP ps i) = lineAt bs ps i := fun i hi => by
    have hp : ps[i]? = some ps[i] := List.getElem?_eq_getElem hi
    rw [loP_get hp]
    exact line_is ho hp
  have epairs : (pairsOf [] (tokens bs).1).filter (fun (x : Nat × Nat) => decide (lineOf bs x.1 < lineOf bs x.2)) = (Pm (lineAt bs ps) (ps.map (·.kind))).map (plP ps) := by
    have h1 := pairs_is (bs := bs) (ps := ps) ps 0 [] rfl hv
    rw [htk]
    rw [show pairsOf [] ((ps.filter fun p => !isCom p).map (toTok bs)) = _ from h1, List.filter_map]
    congr 1
    refine List.filter_congr fun y hy => ?_
    obtain ⟨v1, v2⟩ := vP y hy
    show decide (lineOf bs (loP ps y.1) < lineOf bs (loP ps y.2)) = decide (lineAt bs ps y.1 < lineAt bs ps y.2)
    rw [lineL _ v1, lineL _ v2]
  have erows : rowsFrom bs none true (elements bs) = (rowsN bs ps).map (plP ps) := by
    rw [hel]
    exact rows_is ho (n := ps.length) (i := 0) (k := 0) (cur := none) (own := true) (Nat.zero_add _) trivial fun _ => rfl
  unfold foldsOf
  simp only
  rw [epairs, erows, ← List.map_append, sort_map fun x hx y hy => ?_, List.map_map]
  · refine List.map_congr_left fun y hy => ?_
    obtain ⟨v1, v2⟩ := vA y (sort_mem.mp hy)
    show (lineOf bs (loP ps y.1), lineOf bs (loP ps y.2), _) = (lineAt bs ps y.1, lineAt bs ps y.2, _)
    rw [lineL _ v1, lineL _ v2]
    congr 2
    unfold cnt
    rw [List.filter_map, List.length_map]
    congr 1
    refine List.filter_congr fun z hz => ?_
    obtain ⟨w1, w2⟩ := vP z (List.mem_filter.mp hz).1
    show (decide (loP ps z.1 < loP ps y.1) && decide (loP ps y.2 < loP ps z.2)) = (decide (z.1 < y.1) && decide (y.2 < z.2))
    rw [decide_eq_decide.mpr (loP_iff ho w1 v1), decide_eq_decide.mpr (loP_iff ho v2 w2)]
  · obtain ⟨v1, _⟩ := vA x hx
    obtain ⟨w1, _⟩ := vA y hy
    have := loP_iff ho w1 v1
    omega
end La
set_option maxHeartbeats 4000000
/-! An accepted text's run, its brackets; no library. -/
namespace La
open EwTree
theorem bend_plain {d : Nat} : ∀ {ps : List Part}, bend d (ps.map (·.kind)) = bend d ((ps.filter fun p => !isCom p).map (·.kind))
  | [] => rfl
  | p :: r => by
    cases c : isCom p with
    | true =>
      have hk : p.kind = signs "#" := of_decide_eq_true c
      rw [List.filter_cons_of_neg (by rw [c]; simp), List.map_cons, bend_cons, hk, if_neg (by decide), if_neg (by decide)]
      exact bend_plain
    | false =>
      rw [List.filter_cons_of_pos (by rw [c]; rfl), List.map_cons, List.map_cons, bend_cons, bend_cons]
      split
      · exact bend_plain
      · split
        · cases d with
          | zero => rfl
          | succ d => exact bend_plain
        · exact bend_plain
/-- **an accepted text is eaten whole** -/
theorem accepted {bs : Bytes} {x} (h : EwTree.read bs = .ok x) (cm : List Bool) (hc : cm.length = (kindsOf bs).length + 1) :
    ∃ n s, runX (kindsOf bs) cm n [.form "Program"] .first = some (true, s) ∧ Eat (kindsOf bs) cm [.form "Program"] .first s ∧ s.at_ = (kindsOf bs).length ∧ (EwTree.tokens bs).2 = none := by
  obtain ⟨n, ok, s, hr, q⟩ := run_ends bs cm
  rw [← kinds_is] at hr
  cases ok with
  | false =>
    rw [if_neg Bool.false_ne_true, h] at q
    cases q
  | true =>
    rw [if_pos rfl] at q
    have S := Safe.start (ks := kindsOf bs) (cm := cm) hc
    have E := eat_of_run n [.form "Program"] .first s hr S rfl
    have e1 : (kindsOf bs).length ≤ s.at_ := by
      have := List.drop_eq_nil_iff.mp q.1
      rw [kinds_is, List.length_map]
      exact this
    have e2 := E.top (Nat.zero_le _)
    refine ⟨n, s, hr, E, by omega, ?_⟩
    cases t : (EwTree.tokens bs).2 with
    | none => rfl
    | some e =>
      rw [t, h] at q
      cases q.2
theorem accepted_bend {bs : Bytes} {x} (h : EwTree.read bs = .ok x) : bend 0 ((scan bs).1.map (·.kind)) = some 0 := by
  obtain ⟨n, s, _, E, ha, _⟩ := accepted h (List.replicate ((kindsOf bs).length + 1) false) (by rw [List.length_replicate])
  have hb := E.bend (Nat.zero_le _) 0 0 rfl
  rw [ha] at hb
  have e : segK (kindsOf bs) RS.first.at_ (kindsOf bs).length = kindsOf bs := by
    unfold segK
    rw [List.take_length]
    rfl
  rw [e] at hb
  rw [bend_plain]
  exact hb
end La
set_option maxHeartbeats 4000000
/-! folds: the mirror is the specification. -/
namespace La
open PySem PySem.Spec PyProof.Rows L2
theorem survey_is {bs : Bytes} {x} (h : EwTree.read bs = .ok x) : WrNeat.foldsOf bs = surveyM bs (scan bs).1 := by
  rw [folds_is (ok_nof h) (accepted_bend h)]
  unfold surveyM
  have e1 : (fun n => (cFin bs (scan bs).1).lookup n) = fun j => (rowsN bs (scan bs).1).lookup j := by
    funext j
    have := (cst_crs (byI := byIt bs (scan bs).1) (L := lineAt bs (scan bs).1) j (n := (scan bs).1.length) (i := 0) (acc := [])).1
    unfold cFin rowsN
    rw [this]
    cases (crs (byIt bs (scan bs).1) (lineAt bs (scan bs).1) (scan bs).1.length 0 none).lookup j <;> rfl
  have e2 : (fun n => (bFin bs (scan bs).1).lookup n) = fun j => (Pm (lineAt bs (scan bs).1) ((scan bs).1.map (·.kind))).lookup j := by
    funext j
    unfold bFin
    rw [bst_prs]
    exact lookup_rev P_keys
  rw [e1, e2]
theorem flat_tri (l : List (Nat × Nat × Nat)) : (l.map triI).flatten = l.flatMap fun (x : Nat × Nat × Nat) => WrNeatNeutral.ofNats [x.1, x.2.1, x.2.2] := by
  rw [List.flatMap_def]
  congr 1
theorem folds_told (bs : Bytes) : WrNeatNeutral.told (WrNeat.answer (.folds bs)) = foldsM bs := by
  unfold WrNeat.answer
  show WrNeatNeutral.told (if WrNeat.short bs = false then _ else if ([bs].all WrNeat.shallow) = false then _ else _) = _
  have hall : [bs].all WrNeat.shallow = WrNeat.shallow bs := by simp
  rw [hall]
  unfold foldsM
  cases h1 : WrNeat.short bs with
  | false =>
    have e := refused_long h1
    rw [e, if_neg (show ¬ ([-1] : List Int) = [] by simp)]
    rfl
  | true =>
    rw [if_neg (by simp)]
    cases h2 : WrNeat.shallow bs with
    | false =>
      have e := refused_deep h1 h2
      rw [e, if_neg (show ¬ ([-6] : List Int) = [] by simp)]
      rfl
    | true =>
      have e := refused_read h1 h2
      rw [if_neg (by simp)]
      show WrNeatNeutral.told (WrNeat.ofText bs (.folds (WrNeat.foldsOf bs))) = _
      unfold WrNeat.ofText
      cases q : EwTree.read bs with
      | error y =>
        rw [q] at e
        replace e : refusedOf bs = [-2, (y.1 : Int), (y.2 : Int)] := e
        rw [e, if_neg (show ¬ ([-2, (y.1 : Int), (y.2 : Int)] : List Int) = [] by simp)]
        rfl
      | ok y =>
        rw [q] at e
        replace e : refusedOf bs = [] := e
        rw [e, if_pos rfl, survey_is q]
        show (0 : Int) :: ((surveyM bs (scan bs).1).length : Int) :: _ = 0 :: (((surveyM bs (scan bs).1).map triI).length : Int) :: ((surveyM bs (scan bs).1).map triI).flatten
        rw [List.length_map, flat_tri]
theorem folds_spec (t : List Int) : PyWrneat.folds t = foldsM (WrNeatNeutral.text t) := by
  rw [← folds_told]
  rfl
theorem folds_bal (bs : Bytes) (h : refusedOf bs = []) : bok 0 ((scan bs).1.map (·.kind)) = true := by
  unfold refusedOf at h
  split at h
  · cases h
  · split at h
    · cases h
    · split at h
      · cases h
      · rename_i x q
        exact bend_ok (accepted_bend q)
end La
set_option maxHeartbeats 4000000
/-! The end of a specification's row where the written part is only said to be there. -/
namespace La
open PySem PySem.Spec PyProof.Rows L2
/-- a def at fa, and the promise that it keeps, at some written part -/
def AtE (r : PySem.W.OpenSpec) (CX : CXT) (k : Nat) (ps : List Str) (w : World) (mg : Str → Option Value) (fa : Addr) (h : Heap) : Prop :=
  ∃ (K : PySem.W.Frag) (sp : Sp) (fd : FuncData), K.In h ∧ (∀ (s : Shared) (us : List Value), us.length = ps.length → BindsTo s fd ⟨us, []⟩ (ps.zip us)) ∧
    (∀ base : Heap, K.In base → base.Ns mainGlobals mg → FnOk r.prog w K mg base CX k fa fd ps sp) ∧
    ∀ (H : Hp) (xs : List V) (a : PySem.W.Codec.denoteAll r.args), OnlyF H → PySem.W.Codec.withinAll r.args a = true → PySem.W.Codec.app r.args r.asked a = true →
      DwAll K H xs (PySem.W.Codec.encAll r.args a) → sp xs H (fun v G => Dw K G v (r.ret.enc (PySem.W.Codec.app r.args r.f a))) fun _ _ _ => False
theorem walkE {r : PySem.W.OpenSpec} {k : Nat} {q : Program} {loose : List Str} {XP : (Str → Option Value) → Heap → Prop} {YP : World → Heap → Prop} {d : PySem.DefRec} {CX : CXT} {ps : List Str}
    (said : r.wellSaid = true) (nodef : d.params.defaults = []) (len : r.args.length = ps.length) (room : Room k callerA)
    (at_ : ∀ (w : World) (mg : Str → Option Value) (fa : Addr) (h : Heap), YP w h → h.Ns mainGlobals mg → mg d.name = some (.ref fa) → AtE r CX k ps w mg fa h)
    (out : ∀ (H : Hp) (s : Shared) (e : Value) (s' : Shared), CX [] H s (fun _ _ _ => False) e s' → False) :
    PySem.W.WalkOS q loose XP YP r d [] fun f vs => PySem.call f vs := by
  intro w t0 t1 mg mb G Y fa o pm cd doc dV kV ho hd hcd hD hmg hg args vals as pre lay rd wl lo
  obtain ⟨a, c1, c2⟩ := PySem.W.os_pre_some pre
  obtain ⟨c3, wi⟩ := PySem.W.Codec.encAll_of_decAll r.args args a c1
  subst c3
  obtain ⟨K, sp, fd, KX, hb, hF, hS⟩ := at_ w mg fa _ Y G.T.g hmg
  have body := spec_call (R := []) (cl := PySem.classAt t0.heap) (d0 := r.ret.enc (PySem.W.Codec.app r.args r.f a)) KX G.T.g G.T.b G.T.builtins G.T.nolimit hg wl (pl_encAll _ _) (layable_weight lay) room hF hb (by rw [encAll_len]; exact len)
    (fun H xs hO h => hS H xs a hO wi c2 h) fun H e s' => out H t1 e s'
  refine PySem.W.enter_call (codeAny_mono body fun z s' hz => ?_)
  obtain ⟨u, as', rfl, k1, k2, k3, k4⟩ := hz
  exact ⟨.inl ⟨u, _, as', rfl, fun _ => rfl, k1, (PySem.W.OpenSpec.post_iff said wi _ _).mpr rfl, fun z => Bool.noConfusion (show false = true from z)⟩, k2, k3, k4⟩
end La
set_option maxHeartbeats 0
namespace La
open PySem PySem.Spec PyProof.Rows L2
theorem said : R.wellSaid = true := by decide +kernel
theorem at_folds (w : World) (mg : Str → Option Value) (fa : Addr) (h : Heap) (Y : hk.says w h) (G : h.Ns mainGlobals mg) (hmg : mg "folds" = some (.ref fa)) : AtE R CX0 9 ["text"] w mg fa h := by
  obtain ⟨K, KX, c⟩ := Y
  have e : Env w K mg := ⟨⟨h, KX, G⟩, c⟩
  obtain ⟨fd, F⟩ := e.d.def_ 48 (d := d_folds) rfl
  have e1 := hmg.symm.trans (e.glo (x := "folds") (List.mem_of_getElem? (i := 29) rfl))
  cases e1
  have b := FunD.bindsA (ps := ["text"]) F fun _ _ _ _ _ _ us hl => match us, hl with | [_], _ => rfl
  refine ⟨K, spFolds K, fd, KX, fun s us hu => b s us hu, fun base _ _ => ok_folds e F, fun H xs a hO wi ask hx => ?_⟩
  cases hx with
  | cons h1 h2 =>
    cases h2
    cases h1 with
    | lst s1 a1 =>
      have e1 := ints_dw a.1 _ a1
      subst e1
      have q : ((PySem.W.Codec.inLen 0 5000 a.1 && a.1.all (PySem.W.Codec.inInt 0 255)) && true) = true := wi
      obtain ⟨q1, _⟩ := He.ba q
      obtain ⟨l1, r1⟩ := He.ba q1
      rw [text_is r1] at s1
      refine ⟨_, _, rfl, s1, ?_, folds_bal _, fun H' p hp => ?_⟩
      · rw [text_len]
        exact (PySem.W.Codec.inNat_iff.mp l1).2
      · show Dw K H' (.ref p) (PySem.W.WData.list ((PyWrneat.folds a.1).map PySem.W.WData.int))
        rw [folds_spec]
        exact .lst (.of hp) (dw_ints _)
end La
open PySem PySem.W PySem.Calls PyProof.Rows
theorem PySem.Challenge.cw_laidout_s08_folds_holds : PySem.Challenge.rw_laidout_s08_folds.Holds := by
  w_on
  refine HandSHeadRun.head_spec (r := La.R) (q := La.qv) (H := La.hk) (ob := La.ob) (M := 8000) (loose := La.names) (d := HandSHeadRun.topDef La.R.prog La.askAt) (kwd := []) La.ob_eq (by kernel_rfl) (fun s => by kernel_rfl) La.run (by kernel_rfl) (by kernel_rfl) (by kernel_rfl) os_shapes La.said (by decide +kernel) ⟨rfl, rfl, rfl, rfl, rfl, by decide +kernel⟩ ?hw ?hc
  case hw => exact ⟨[.list []], by decide +kernel, by decide +kernel⟩
  case hc =>
    refine La.walkE (k := 9) (CX := L2.CX0) (ps := ["text"]) La.said (by kernel_rfl) rfl ⟨rfl, by decide, by decide⟩ (fun w mg fa h Y G hmg => La.at_folds w mg fa h Y G ?_) fun _ _ _ _ z => z
    have e : (HandSHeadRun.topDef La.R.prog La.askAt).name = ("folds" : PySem.Str) := by kernel_rfl
    rw [← e]
    exact hmg
