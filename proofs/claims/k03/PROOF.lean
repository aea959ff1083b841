import PyProof.Rows.All
import Wide.All
import OpenK.AllK
import Wide.FinOn
import HandS.ForMost
import HandS.ForExc
import HandS.Walk
import HandS.Conv
import HandS.Wide
import HandS.IsInst
import HandS.TupMul
import HandS.SetFor
import HandS.Iter
import KE.GoesEnum
import HandS.TupAny
import HandS.SortInts
import PyProof.ReprRoads
import PyProof.ReprLen
import HandS.Style
import HandS.EndBits
import PyProof.Rows.ReprOcc
import HandS.Strs
import HandS.Sort
import HandS.DictComp
import HandS.Small
import HandS.WideMore
import HandS.Exc
import HandS.TryMany
import HandS.SetBool
import HandS.Gcd
import HandS.TupSets
import HandS.SortRule
import HandS.ExcOwn
import HandS.More
import PyProof.StrOps2
import HandS.StrMore
import PySem.Challenge.RW_unpassed_k03_tables_and_texts_as_strings
set_option Elab.async false
set_option linter.all false
set_option maxRecDepth 100000
set_option maxHeartbeats 4000000
set_option autoImplicit false
set_option exponentiation.threshold 700
/-! U0: tuples made, known to have no dict of their own: rules of the hand layer's kind. -/
namespace U
abbrev Hw := L2.Hp
open PySem PySem.Spec PyProof.Rows L2
section
variable {X : Cx} {es : List Expr} {t : TA} {pos : Pos}
theorem laidZ {pins : List (Addr × Obj)} {s : Shared} {σ : L2.St} {H : Hw} {tk : Tok} {xs : List V} {its : List Value} (I : Inv X pins σ H s) (hz : xs.length ≤ sizeLine) (r : Vals xs its) :
    Inv X pins σ (upd H s.heap.objs.size (.frz { cls := .type "tuple", data := .seq its.toArray } (.tup xs))) { s with heap := s.heap.push { cls := .type "tuple", data := .seq its.toArray }, toks := tk } :=
  I.laid (t' := tk) (o := .frz { cls := .type "tuple", data := .seq its.toArray } (.tup xs)) (fun b u e => Heap.get?_push_of_some _ e) (Nat.le_refl _) ⟨Heap.get?_push_size _ rfl, hz, its, r, IsTup.new _ _⟩
def tTupZ (t : TA) : TE := fun σ H Q => t σ H fun xs H1 => xs.length ≤ sizeLine ∧ ∀ (p : Addr) (o : Obj), o.dict = none → H1 p = none → Q (.ref p) (upd H1 p (.frz o (.tup xs)))
theorem pe_tupZ {x1 : Nat} (h : PA X es t) : PE X (.Tuple es x1 pos) (tTupZ t) := by
  refine ⟨fun pins s σ H Q I hq => ?_⟩
  refine wpAny_Tuple_spliced (thn (h.run pos pins s σ H _ I hq) fun us s1 ⟨xs, H1, I1, r, z, q⟩ => ⟨by rw [← r.length]; exact z, ?_⟩)
  exact ⟨.ref s1.heap.objs.size, _, laidZ (tk := s1.toks) I1 z r, rfl, q _ _ rfl (I1.hok.fresh (Nat.le_refl _))⟩
theorem call_tupleZ : CallR X (.type "tuple") (fun xs H Q => ∃ p ys, xs = [.ref p] ∧ SqL X.K H p ys ∧ ∀ (l : Addr) (o : Obj), o.dict = none → H l = none → Q (.ref l) (upd H l (.frz o (.tup ys)))) := by
  intro pins s σ H xs us Q I r h
  obtain ⟨p, ys, rfl, hq, q⟩ := h
  obtain ⟨u, rfl, rx⟩ := vals1 r
  cases rx
  obtain ⟨its, r', pl, hz⟩ := I.list hq
  have hlen := r'.length
  refine call_tuple_list pl.isList (fun h' kp => ?_) (by simp only [List.size_toArray] <;> omega)
  have I1 : Inv X pins σ H { s with heap := h' } := I.kept (t' := s.toks) kp
  exact ⟨.ref h'.objs.size, _, laidZ (tk := s.toks) I1 hz r', rfl, q _ _ rfl (I1.hok.fresh (Nat.le_refl _))⟩
def rSlTZ (K : PySem.W.Frag) : V → Option Int → Option Int → Hw → VK → Prop := fun x lo hi H Q => ∃ a xs, x = .ref a ∧ SqT K H a xs ∧
  ¬ (HT.sIx xs.length 0 lo = 0 ∧ HT.sIx xs.length xs.length hi = xs.length) ∧ ∀ (p : Addr) (o : Obj), o.dict = none → H p = none → Q (.ref p) (upd H p (.frz o (.tup (cutV xs lo hi))))
theorem sl_tupZ : SlR X (rSlTZ X.K) := by
  intro pins s σ H x v vl vu lo hi sl Q I rx hs pl pu h
  obtain ⟨a, xs, rfl, hx, hw, q⟩ := h
  cases rx
  obtain ⟨its, r, ht, hz⟩ := I.tuple hx
  have hlen : its.toArray.size = xs.length := by rw [List.size_toArray]; exact r.length.symm
  refine ⟨"tuple", _, PyProof.Rows.slot_tuple_getitem.lookup, ht.typeIs, ?_⟩
  refine HT.getItem_tuple_cut ht hs pl pu (by rw [hlen]; exact hw) ?_ (by rw [hlen]; exact hz)
  rw [hlen]
  exact ⟨.ref s.heap.objs.size, _, laidZ (tk := s.toks) I (Nat.le_trans (cutV_length xs lo hi) hz) ((r.drop (HT.sIx xs.length 0 lo)).take (HT.sIx xs.length xs.length hi - HT.sIx xs.length 0 lo)), rfl, q _ _ rfl (I.hok.fresh (Nat.le_refl _))⟩
def rCatTZ (K : PySem.W.Frag) : R2 := fun x y H Q => ∃ a b xs ys, x = .ref a ∧ y = .ref b ∧ SqT K H a xs ∧ SqT K H b ys ∧ xs ≠ [] ∧ xs.length + ys.length ≤ sizeLine ∧
  (ys = [] → Q (.ref a) H) ∧ (ys ≠ [] → ∀ (p : Addr) (o : Obj), o.dict = none → H p = none → Q (.ref p) (upd H p (.frz o (.tup (xs ++ ys)))))
theorem op_catTZ : OpR X (binaryOp .Add) (rCatTZ X.K) := by
  intro pins s σ H x y v u Q I rx ry h
  obtain ⟨a, b, xs, ys, rfl, rfl, ha, hb, hx, hz, q1, q2⟩ := h
  cases rx
  cases ry
  obtain ⟨its, r1, p1, _⟩ := I.tuple ha
  obtain ⟨its2, r2, p2, _⟩ := I.tuple hb
  refine HT.cat_tup p1 p2 (fun z => hx (r1.nil_iff.mp z)) (fun z => ⟨.ref a, H, I, rfl, q1 (r2.nil_iff.mp z)⟩) (fun z => ?_) (by rw [← r1.length, ← r2.length]; exact hz)
  have L := laidZ (tk := s.toks) I (xs := xs ++ ys) (its := its ++ its2) (by rw [List.length_append]; exact hz) (r1.append r2)
  refine ⟨.ref s.heap.objs.size, _, L, rfl, ?_⟩
  exact q2 (fun w => z (r2.nil_iff.mpr w)) _ _ rfl (I.hok.fresh (Nat.le_refl _))
def rRepTZ (K : PySem.W.Frag) : R2 := fun x y H Q => ∃ l k xs, x = .ref l ∧ y = .int k ∧ SqT K H l xs ∧ xs ≠ [] ∧ 2 ≤ k ∧ xs.length * k.toNat ≤ 1000000 ∧ ∀ (p : Addr) (o : Obj), o.dict = none → H p = none → Q (.ref p) (upd H p (.frz o (.tup (List.replicate k.toNat xs).flatten)))
theorem op_repTZ {X : Cx} : OpR X (binaryOp .Mult) (rRepTZ X.K) := by
  intro pins s σ H x y v u Q I rx ry h
  obtain ⟨l, k, xs, rfl, rfl, he, hne, hk2, hz, q⟩ := h
  cases rx
  obtain ⟨t, rfl⟩ := ry
  obtain ⟨its, r, ⟨o, ho, hc, n, hd⟩, hzx⟩ := I.tuple he
  obtain ⟨oc, dd, dt, sl⟩ := o
  simp only at hc hd
  subst hc hd
  have hle : xs.length = its.length := r.length
  have hpos : 0 < its.length := by rw [← hle]; exact List.length_pos_iff.mpr hne
  have hempty : its.toArray.isEmpty = false := by
    cases its with
    | nil => cases hpos
    | cons _ _ => rfl
  have kn : ((k.toNat : Nat) : Int) = k := by omega
  have hk1 : k.toNat ≤ 1000000 := by
    have : 1 * k.toNat ≤ xs.length * k.toNat := Nat.mul_le_mul_right _ (by omega)
    omega
  have hm : ((its.toArray.size : Nat) : Int) * k ≤ 1000000 := by
    rw [List.size_toArray, ← hle, ← kn]
    have z := Int.ofNat_le.mpr hz
    rw [Int.natCast_mul] at z
    exact z
  have flen : (List.replicate k.toNat its).flatten.length ≤ sizeLine := by
    rw [PyProof.Rows.lm_len_rep_flat, ← hle, sizeLine_eq, Nat.mul_comm]
    omega
  have b0 : (decide (k < -(2 ^ 63)) || decide (k ≥ 2 ^ 63)) = false := by rw [decide_eq_false (by omega), decide_eq_false (by omega)] <;> rfl
  have b1 : (its.toArray.isEmpty || k == 1) = false := by rw [hempty, Bool.false_or]; exact beq_eq_false_iff_ne.mpr (by omega)
  have b2 : (decide (k ≤ 0) || its.toArray.isEmpty) = false := by rw [hempty, Bool.or_false]; exact decide_eq_false (by omega)
  have b4 : Builtin.Tuple.tupleTooMany (((its.toArray.size : Nat) : Int) * k) = false := by
    unfold Builtin.Tuple.tupleTooMany
    rw [sizeLine_eq]
    exact decide_eq_false (by omega)
  have go := tuple_mulW l its.toArray n dd sl k t b0 b1 b2 (by omega) b4 (by rw [size_rep, List.size_toArray]; exact flen)
  refine wpAny_binaryOp_repeat_ref (T := "tuple") (U := "int") (by decide) ⟨_, ho, rfl⟩ (fun s' => typeIs_int s' k t) noFill_tuple_mul F.fills_int_mul F.slot_int_rmul repeat_tuple F.slot_int_index.lookup ?_
  refine call_meets F.slot_int_rmul (typeIs_int s k t) F.entry_int_rmul (F.args_int_rmul_2 _ _) (int_rmul_tuple k t l its.toArray n dd sl) ⟨ho, rfl, ⟨_, ho, rfl⟩, ?_⟩
  refine call_meets F.slot_tuple_mul ⟨_, ho, rfl⟩ F.entry_tuple_mul (F.args_tuple_mul_2 _ _) go ⟨ho, ?_⟩
  rw [size_rep]
  have L := laidZ (tk := s.toks) I (xs := (List.replicate k.toNat xs).flatten) (its := (List.replicate k.toNat its).flatten) (by
    rw [PyProof.Rows.lm_len_rep_flat, sizeLine_eq, Nat.mul_comm]
    omega) (r.rep k.toNat)
  refine ⟨.ref s.heap.objs.size, _, L, rfl, ?_⟩
  exact q _ _ rfl (I.hok.fresh (Nat.le_refl _))

/-- t.count(i), t a tuple of ints that has no dict of its own -/
def rCntTZ (K : PySem.W.Frag) : V → List V → Hw → VK → Prop := fun x xs H Q => ∃ (a : Addr) (ns : List Int) (i : Int), x = .ref a ∧ xs = [.int i] ∧ SqT K H a (ns.map V.int) ∧ Q (.int (ns.count i : Nat)) H
theorem mt_tcount : MtR X "tuple.count" (rCntTZ X.K) := by
  intro pins s σ H x xs v us Q I rx rxs h
  obtain ⟨a, ns, i, rfl, rfl, hs, q⟩ := h
  cases rx
  obtain ⟨u, rfl, ru⟩ := rxs.one
  obtain ⟨t, rfl⟩ := ru
  obtain ⟨its, rv, ⟨⟨cls, dd, data, sl⟩, ho, hc, n, hd⟩, hlen⟩ := I.tuple hs
  simp only at hc hd
  subst hc hd
  have hi := ints_of_vals rv
  refine call_meets PySem.F.slot_tuple_count ⟨_, ho, rfl⟩ PySem.F.entry_tuple_count (PySem.F.args_tuple_count_2 _ _)
    (SeqAt.tuple_countAt a its.toArray n dd sl (.int i t) (eqk i)) ⟨ho, fun y hy => (eqk_gives hi y (by simpa using hy)).at _ _, ?_⟩
  have ec : its.toArray.toList.countP (eqk i) = ns.count i := eqk_count hi
  refine ⟨.int (ns.count i : Nat), H, I.tok _, ⟨s.toks, ?_⟩, q⟩
  show Value.int ((its.toArray.toList.countP (eqk i) : Nat) : Int) s.toks = Value.int ((ns.count i : Nat) : Int) s.toks
  rw [ec]
/-- a tuple that has no dict of its own: its methods can be called -/
theorem tyZ_is {pins : List (Addr × Obj)} {σ : L2.St} {H : Hw} {s : Shared} {p : Addr} {o : Obj} {xs : List V} {v : Value} (I : Inv X pins σ H s) (r : RelV (.ref p) v) (h : H p = some (.frz o (.tup xs))) (hd : o.dict = none) :
    s.TypeIs v "tuple" ∧ ∀ a, v = .ref a → ∃ ob, s.heap.get? a = some ob ∧ ob.dict = none := by
  cases r
  obtain ⟨e, hz, its, rv, o2, ho, hc, n, hdt⟩ := I.hok p _ h
  rw [e] at ho
  cases ho
  exact ⟨⟨_, e, hc⟩, fun a z => by cases z; exact ⟨_, e, hd⟩⟩
def tBMZ (r : V → List V → Hw → VK → Prop) (to : TE) (t : TA) : TE := fun σ H Q => to σ H fun x H1 => (∃ p o xs, x = .ref p ∧ H1 p = some (.frz o (.tup xs)) ∧ o.dict = none) ∧ t σ H1 fun xs H2 => r x xs H2 Q
theorem pe_bmZ {o e : Expr} {to : TE} {name : Str} {apos cpos : Pos} {id : String} {r : V → List V → Hw → VK → Prop} (slot : Slot "tuple" name id) (hty : typeOf (.builtin id) = pure (.type "method_descriptor")) (hm : MtR X id r) (ho : PE X o to) (ha : PA X (e :: es) t)
    (hbase : attributeBase o name X.env (eval o X.env) = eval o X.env := by rfl)
    (hfew : ((backTo cpos (starEach (e :: es) X.env)).all (fun x => !x.1) && (backToKw cpos (keywordEach [] X.env)).all (fun x => x.1.isSome)
      && decide ((e :: es).length + ([] : List Keyword).length + (if ([] : List Keyword).isEmpty then 0 else 1) < 30)) = true := by rfl)
    (hline : (apos.endLine == cpos.line) = true := by rfl) (hs : starEach (e :: es) X.env = (false, eval e X.env) :: starEach es X.env := by rfl) (hplain : (backTo cpos (starEach es X.env)).any (·.1) = false := by rfl) :
    PE X (.Call (.Attribute o name apos) (e :: es) [] cpos) (tBMZ r to t) := by
  refine ⟨fun pins s σ H Q I h => ?_⟩
  refine wpAny_Call_method_late hbase hfew hline rfl (thn (ho.run pins s σ H _ I h) fun v s1 ⟨x, H1, I1, r1, ⟨p, ob, xs, ex, hp, hd⟩, q1⟩ => ?_)
  subst ex
  obtain ⟨h1, h2⟩ := tyZ_is I1 r1 hp hd
  refine ⟨"tuple", id, PySem.F.plainAttrs_tuple, slot, hty, h1, h2, ?_⟩
  have hA := ha.run cpos pins s1 σ H1 _ I1 q1
  rw [hs] at hA ⊢
  refine Calls.callWith_builtin (by show (false || (backTo cpos (starEach es X.env)).any (·.1)) = false; rw [hplain] <;> rfl) (Calls.evalArgs_plain ?_)
  exact thn hA fun us s2 ⟨vs, H2, I2, r2, q2⟩ => hm pins s2 σ H2 _ vs v us Q I2 r1 r2 q2
end
/-- a tuple that has no dict of its own -/
def TupAt (H : Hw) (a : Addr) (xs : List V) : Prop := ∃ o : Obj, H a = some (.frz o (.tup xs)) ∧ o.dict = none
theorem tupAt_upd {H : Hw} {p : Addr} {o : Obj} {xs : List V} (hd : o.dict = none) : TupAt (upd H p (.frz o (.tup xs))) p xs := ⟨o, upd_same, hd⟩
theorem sqt_of {K : PySem.W.Frag} {H : Hw} {a : Addr} {xs : List V} (h : TupAt H a xs) : SqT K H a xs := by
  obtain ⟨o, e, _⟩ := h
  exact .inl (.inr ⟨o, e⟩)
theorem TupAt.known {H : Hw} {a : Addr} {xs : List V} (h : TupAt H a xs) : H a ≠ none := by
  obtain ⟨o, e, _⟩ := h
  rw [e]; simp
end U
/-! U1: data over the abstract heap. -/
namespace U
open PySem PySem.Spec PyProof.Rows L2
abbrev Sw := L2.St
/-- data: what a value stands for -/
inductive D where
  | non | bl (b : Bool) | int (i : Int) | str (x : Str)
  | lst (xs : List D) | tup (xs : List D) | dic (kvs : List (L2.Key × D))
  | ad (a : Addr)
abbrev Ex := Addr → Prop
mutual
inductive Rp (M : Ex) (H : Hw) : V → D → Prop
  | non : Rp M H .non .non
  | bl (b : Bool) : Rp M H (.bl b) (.bl b)
  | int (i : Int) : Rp M H (.int i) (.int i)
  | str (x : Str) : Rp M H (.str x) (.str x)
  | lst {a : Addr} {xs : List V} {ds : List D} : H a = some (.lst xs) → ¬ M a → RpA M H xs ds → Rp M H (.ref a) (.lst ds)
  | tup {a : Addr} {xs : List V} {ds : List D} : TupAt H a xs → ¬ M a → RpA M H xs ds → Rp M H (.ref a) (.tup ds)
  | dic {a : Addr} {kvs : List (L2.Key × V)} {ds : List (L2.Key × D)} : H a = some (.dK kvs) → ¬ M a → RpK M H kvs ds → Rp M H (.ref a) (.dic ds)
  | ad (a : Addr) : Rp M H (.ref a) (.ad a)
inductive RpA (M : Ex) (H : Hw) : List V → List D → Prop
  | nil : RpA M H [] []
  | cons {v : V} {vs : List V} {d : D} {ds : List D} : Rp M H v d → RpA M H vs ds → RpA M H (v :: vs) (d :: ds)
inductive RpK (M : Ex) (H : Hw) : List (L2.Key × V) → List (L2.Key × D) → Prop
  | nil : RpK M H [] []
  | cons {k : L2.Key} {v : V} {vs : List (L2.Key × V)} {d : D} {ds : List (L2.Key × D)} : Rp M H v d → RpK M H vs ds → RpK M H ((k, v) :: vs) ((k, d) :: ds)
end
section
variable {M M' : Ex} {H H' : Hw}
/-- from one heap and exclusion to another: at each tracked address outside M the new exclusion is outside too and the object stays -/
structure Goes (M M' : Ex) (H H' : Hw) : Prop where
  at_ : ∀ a o, ¬ M a → H a = some o → H' a = some o ∧ ¬ M' a
mutual
theorem Rp.to (g : Goes M M' H H') : ∀ (d : D) (v : V), Rp M H v d → Rp M' H' v d
  | .non, _, h => by cases h; exact .non
  | .bl _, _, h => by cases h; exact .bl _
  | .int _, _, h => by cases h; exact .int _
  | .str _, _, h => by cases h; exact .str _
  | .lst ds, _, h => by
    cases h with
    | lst r m p =>
      exact .lst (g.at_ _ _ m r).1 (g.at_ _ _ m r).2 (RpA.to g ds _ p)
  | .tup ds, _, h => by
    cases h with
    | tup r m p =>
      obtain ⟨o, e, hd⟩ := r
      exact .tup ⟨o, (g.at_ _ _ m e).1, hd⟩ (g.at_ _ _ m e).2 (RpA.to g ds _ p)
  | .dic ds, _, h => by
    cases h with
    | dic r m p =>
      exact .dic (g.at_ _ _ m r).1 (g.at_ _ _ m r).2 (RpK.to g ds _ p)
  | .ad _, _, h => by cases h; exact .ad _
theorem RpA.to (g : Goes M M' H H') : ∀ (ds : List D) (vs : List V), RpA M H vs ds → RpA M' H' vs ds
  | [], _, h => by cases h; exact .nil
  | d :: ds, _, h => by
    cases h with
    | cons a b => exact .cons (Rp.to g d _ a) (RpA.to g ds _ b)
theorem RpK.to (g : Goes M M' H H') : ∀ (ds : List (L2.Key × D)) (vs : List (L2.Key × V)), RpK M H vs ds → RpK M' H' vs ds
  | [], _, h => by cases h; exact .nil
  | (_, d) :: ds, _, h => by
    cases h with
    | cons a b => exact .cons (Rp.to g d _ a) (RpK.to g ds _ b)
end
theorem RpA.length : ∀ {vs : List V} {ds : List D}, RpA M H vs ds → vs.length = ds.length
  | [], [], _ => rfl
  | _ :: _, _ :: _, h => by
    cases h with
    | cons _ b => simp [RpA.length b]
  | [], _ :: _, h => by cases h
  | _ :: _, [], h => by cases h
theorem RpK.length : ∀ {vs : List (L2.Key × V)} {ds : List (L2.Key × D)}, RpK M H vs ds → vs.length = ds.length
  | [], [], _ => rfl
  | _ :: _, _ :: _, h => by
    cases h with
    | cons _ b => simp [RpK.length b]
  | [], _ :: _, h => by cases h
  | _ :: _, [], h => by cases h
theorem RpA.app : ∀ {vs ws : List V} {ds es : List D}, RpA M H vs ds → RpA M H ws es → RpA M H (vs ++ ws) (ds ++ es)
  | [], _, [], _, _, h => h
  | _ :: _, _, _ :: _, _, h, h2 => by
    cases h with
    | cons a b => exact .cons a (RpA.app b h2)
  | [], _, _ :: _, _, h, _ => by cases h
  | _ :: _, _, [], _, h, _ => by cases h
theorem RpA.at {i : Nat} : ∀ {vs : List V} {ds : List D}, RpA M H vs ds → ∀ {d : D}, ds[i]? = some d → ∃ v, vs[i]? = some v ∧ Rp M H v d := by
  induction i with
  | zero =>
    intro vs ds h d e
    cases h with
    | nil => cases e
    | cons a b => cases e; exact ⟨_, rfl, a⟩
  | succ i ih =>
    intro vs ds h d e
    cases h with
    | nil => cases e
    | cons a b => exact ih b (by simpa using e)
theorem RpA.atv {i : Nat} : ∀ {vs : List V} {ds : List D}, RpA M H vs ds → ∀ {v : V}, vs[i]? = some v → ∃ d, ds[i]? = some d ∧ Rp M H v d := by
  induction i with
  | zero =>
    intro vs ds h d e
    cases h with
    | nil => cases e
    | cons a b => cases e; exact ⟨_, rfl, a⟩
  | succ i ih =>
    intro vs ds h d e
    cases h with
    | nil => cases e
    | cons a b => exact ih b (by simpa using e)
theorem RpA.take (n : Nat) : ∀ {vs : List V} {ds : List D}, RpA M H vs ds → RpA M H (vs.take n) (ds.take n) := by
  induction n with
  | zero => intro vs ds _; exact .nil
  | succ n ih =>
    intro vs ds h
    cases h with
    | nil => exact .nil
    | cons a b => exact .cons a (ih b)
theorem RpA.drop (n : Nat) : ∀ {vs : List V} {ds : List D}, RpA M H vs ds → RpA M H (vs.drop n) (ds.drop n) := by
  induction n with
  | zero => intro vs ds h; exact h
  | succ n ih =>
    intro vs ds h
    cases h with
    | nil => exact .nil
    | cons a b => exact ih b
theorem RpA.set (n : Nat) {v : V} {d : D} (r : Rp M H v d) : ∀ {vs : List V} {ds : List D}, RpA M H vs ds → RpA M H (vs.set n v) (ds.set n d) := by
  induction n with
  | zero =>
    intro vs ds h
    cases h with
    | nil => exact .nil
    | cons a b => exact .cons r b
  | succ n ih =>
    intro vs ds h
    cases h with
    | nil => exact .nil
    | cons a b => exact .cons a (ih b)
theorem RpA.erase (n : Nat) : ∀ {vs : List V} {ds : List D}, RpA M H vs ds → RpA M H (vs.eraseIdx n) (ds.eraseIdx n) := by
  induction n with
  | zero =>
    intro vs ds h
    cases h with
    | nil => exact .nil
    | cons a b => exact b
  | succ n ih =>
    intro vs ds h
    cases h with
    | nil => exact .nil
    | cons a b => exact .cons a (ih b)
theorem RpA.rev : ∀ {vs : List V} {ds : List D}, RpA M H vs ds → RpA M H vs.reverse ds.reverse
  | [], [], _ => .nil
  | _ :: _, _ :: _, h => by
    cases h with
    | cons a b =>
      rw [List.reverse_cons, List.reverse_cons]
      exact RpA.app (RpA.rev b) (.cons a .nil)
  | [], _ :: _, h => by cases h
  | _ :: _, [], h => by cases h
theorem RpA.rep (k : Nat) {vs : List V} {ds : List D} (h : RpA M H vs ds) : RpA M H (List.replicate k vs).flatten (List.replicate k ds).flatten := by
  induction k with
  | zero => exact .nil
  | succ k ih =>
    rw [List.replicate_succ, List.flatten_cons, List.replicate_succ, List.flatten_cons]
    exact RpA.app h ih
theorem RpA.ints (ns : List Int) : RpA M H (ns.map V.int) (ns.map D.int) := by
  induction ns with
  | nil => exact .nil
  | cons n ns ih => exact .cons (.int n) ih
end
end U
/-! U2: environments of data; what an expression, a test, arguments, statements come to. -/
namespace U
open PySem PySem.Spec PyProof.Rows L2
/-- what a law keeps on changing: its addresses, and what holds of them -/
structure Vol where
  T : Ex
  J : Hw → Prop
  keep : ∀ {H H' : Hw}, J H → (∀ a, T a → H' a = H a) → J H'
  known : ∀ {H : Hw} {a : Addr}, J H → T a → H a ≠ none
def Vol.empty : Vol := ⟨fun _ => False, fun _ => True, fun _ _ => trivial, fun _ h => h.elim⟩
/-- a slot: unknown, data, a list or a dict that this body alone holds -/
inductive Sl where
  | un | dat (d : D) | own (ds : List D) | ownD (kvs : List (L2.Key × D))
abbrev Ga := List Sl
def Sl.mine : Sl → Bool
  | .own _ => true
  | .ownD _ => true
  | _ => false
def Ow (σ : Sw) (Γ : Ga) (a : Addr) : Prop := ∃ (i : Nat) (s : Sl), Γ[i]? = some s ∧ s.mine = true ∧ σ[i]? = some (some (V.ref a))
def Mx (M : Ex) (σ : Sw) (Γ : Ga) (a : Addr) : Prop := M a ∨ Ow σ Γ a
structure ER (U : Vol) (M : Ex) (H : Hw) (σ : Sw) (Γ : Ga) : Prop where
  tm : ∀ a, U.T a → M a
  kn : ∀ a, M a → H a ≠ none
  j : U.J H
  len : σ.length = Γ.length
  dat : ∀ (i : Nat) (d : D), Γ[i]? = some (.dat d) → ∃ v, σ[i]? = some (some v) ∧ Rp (Mx M σ Γ) H v d
  own : ∀ (i : Nat) (ds : List D), Γ[i]? = some (.own ds) → ∃ a xs, σ[i]? = some (some (.ref a)) ∧ H a = some (.lst xs) ∧ ¬ M a ∧ RpA (Mx M σ Γ) H xs ds
  ownD : ∀ (i : Nat) (kvs : List (L2.Key × D)), Γ[i]? = some (.ownD kvs) → ∃ a xs, σ[i]? = some (some (.ref a)) ∧ H a = some (.dK xs) ∧ ¬ M a ∧ RpK (Mx M σ Γ) H xs kvs
  sep : ∀ (i j : Nat) (s t : Sl) (a : Addr), Γ[i]? = some s → Γ[j]? = some t → s.mine = true → t.mine = true → σ[i]? = some (some (.ref a)) → σ[j]? = some (some (.ref a)) → i = j
structure Step (U : Vol) (σ : Sw) (Γ : Ga) (H : Hw) (σ' : Sw) (Γ' : Ga) (H' : Hw) : Prop where
  fr : ∀ a o, ¬ U.T a → ¬ Ow σ Γ a → H a = some o → H' a = some o
  og : ∀ a, Ow σ' Γ' a → Ow σ Γ a ∨ H a = none
def Grow (H H' : Hw) : Prop := ∀ a o, H a = some o → H' a = some o
theorem Grow.refl (H : Hw) : Grow H H := fun _ _ h => h
theorem Grow.trans {H H1 H2 : Hw} (a : Grow H H1) (b : Grow H1 H2) : Grow H H2 := fun x o h => b x o (a x o h)
theorem Grow.new {H : Hw} {p : Addr} {o : HO} (h : H p = none) : Grow H (upd H p o) := fun a u e => by
  rw [upd_ne (ne_of_none e h)]
  exact e
theorem Grow.goes {H H' : Hw} {M : Ex} (g : Grow H H') : Goes M M H H' := ⟨fun a o m e => ⟨g a o e, m⟩⟩
section
variable {U : Vol} {M : Ex} {H H1 H2 : Hw} {σ σ1 σ2 : Sw} {Γ Γ1 Γ2 : Ga}
theorem Step.refl : Step U σ Γ H σ Γ H := ⟨fun _ _ _ _ h => h, fun _ h => .inl h⟩
theorem ER.own_ne (r : ER U M H σ Γ) {a : Addr} (h : Ow σ Γ a) : ¬ M a ∧ H a ≠ none := by
  obtain ⟨i, s, h1, h2, h3⟩ := h
  cases s with
  | un => cases h2
  | dat d => cases h2
  | own ds =>
    obtain ⟨b, xs, e1, e2, e3, _⟩ := r.own i ds h1
    rw [h3] at e1
    cases e1
    exact ⟨e3, by rw [e2]; simp⟩
  | ownD ds =>
    obtain ⟨b, xs, e1, e2, e3, _⟩ := r.ownD i ds h1
    rw [h3] at e1
    cases e1
    exact ⟨e3, by rw [e2]; simp⟩
theorem ER.mx (r : ER U M H σ Γ) : ∀ a, Mx M σ Γ a → H a ≠ none := fun a h => h.elim (r.kn a) fun z => (r.own_ne z).2
theorem Step.trans (r1 : ER U M H1 σ1 Γ1) (a : Step U σ Γ H σ1 Γ1 H1) (b : Step U σ1 Γ1 H1 σ2 Γ2 H2) : Step U σ Γ H σ2 Γ2 H2 where
  fr := fun x o t n e => by
    refine b.fr x o t (fun z => ?_) (a.fr x o t n e)
    rcases a.og x z with z | z
    · exact n z
    · rw [e] at z; cases z
  og := fun x z => by
    rcases b.og x z with z | z
    · exact a.og x z
    · by_cases n : Ow σ Γ x
      · exact .inl n
      · refine .inr ?_
        cases e : H x with
        | none => rfl
        | some o =>
          have t : ¬ U.T x := fun t => r1.kn x (r1.tm x t) z
          rw [a.fr x o t n e] at z
          cases z
theorem ER.grow (r : ER U M H σ Γ) (g : Grow H H1) : ER U M H1 σ Γ where
  tm := r.tm
  kn := fun a m => by
    obtain ⟨o, e⟩ := Option.ne_none_iff_exists'.mp (r.kn a m)
    rw [g a o e]
    simp
  j := U.keep r.j fun a t => by
    obtain ⟨o, e⟩ := Option.ne_none_iff_exists'.mp (r.kn a (r.tm a t))
    rw [g a o e, e]
  len := r.len
  dat := fun i d e => by
    obtain ⟨v, h1, h2⟩ := r.dat i d e
    exact ⟨v, h1, Rp.to g.goes _ _ h2⟩
  own := fun i d e => by
    obtain ⟨a, xs, h1, h2, h3, h4⟩ := r.own i d e
    exact ⟨a, xs, h1, g _ _ h2, h3, RpA.to g.goes _ _ h4⟩
  ownD := fun i d e => by
    obtain ⟨a, xs, h1, h2, h3, h4⟩ := r.ownD i d e
    exact ⟨a, xs, h1, g _ _ h2, h3, RpK.to g.goes _ _ h4⟩
  sep := r.sep
end
end U
/-! U3: the judgements and how they go on. -/
namespace U
open PySem PySem.Spec PyProof.Rows L2
/-- a body's surroundings -/
structure Co where
  X : Cx
  U : Vol
  M : Ex
  E : Addr → Option (Str × D) → Ga → Prop
structure wpE (X : Cx) (e : Expr) (σ : Sw) (H : Hw) (Q : VK) : Prop where
  run : ∀ (pins : List (Addr × Obj)) (s : Shared), Inv X pins σ H s → wpAny (model X.prog X.w) X.A (eval e X.env) (EP X pins σ Q) X.xe s
structure wpT (X : Cx) (e : Expr) (σ : Sw) (H : Hw) (Q : Bool → Hw → Prop) : Prop where
  run : ∀ (pins : List (Addr × Obj)) (s : Shared), Inv X pins σ H s → wpAny (model X.prog X.w) X.A (isTrue e X.env (eval e X.env)) (TP X pins σ Q) X.xe s
structure wpA (X : Cx) (es : List Expr) (σ : Sw) (H : Hw) (Q : List V → Hw → Prop) : Prop where
  run : ∀ (pos : Pos) (pins : List (Addr × Obj)) (s : Shared), Inv X pins σ H s → wpAny (model X.prog X.w) X.A (spliced (backTo pos (starEach es X.env))) (AP X pins σ Q) X.xe s
structure wpK (X : Cx) (kws : List Keyword) (σ : Sw) (H : Hw) (Q : List V → Hw → Prop) : Prop where
  run : ∀ (pos : Pos) (pins : List (Addr × Obj)) (s : Shared), Inv X pins σ H s → wpAny (model X.prog X.w) X.A (evalAll ((backToKw pos (keywordEach kws X.env)).map (·.2))) (AP X pins σ Q) X.xe s
structure wpS (X : Cx) (st : Stmt) (D : Ends) (σ : Sw) (H : Hw) : Prop where
  run : ∀ (pins : List (Addr × Obj)) (s : Shared), Inv X pins σ H s → wpAny (model X.prog X.w) X.A (exec st X.env) (SP X pins D) X.xe s
structure wpB (X : Cx) (sts : List Stmt) (D : Ends) (σ : Sw) (H : Hw) : Prop where
  run : ∀ (pins : List (Addr × Obj)) (s : Shared), Inv X pins σ H s → wpAny (model X.prog X.w) X.A (execs sts X.env) (SP X pins D) X.xe s
section
variable {X : Cx} {e : Expr} {es : List Expr} {kws : List Keyword} {st : Stmt} {sts : List Stmt} {σ : Sw} {H : Hw}
theorem selfE : PE X e (wpE X e) := ⟨fun pins s _ _ _ I h => h.run pins s I⟩
theorem selfT : PT X e (wpT X e) := ⟨fun pins s _ _ _ I h => h.run pins s I⟩
theorem selfA : PA X es (wpA X es) := ⟨fun pos pins s _ _ _ I h => h.run pos pins s I⟩
theorem selfK : PK X kws (wpK X kws) := ⟨fun pos pins s _ _ _ I h => h.run pos pins s I⟩
theorem selfS : PS X st (wpS X st) := ⟨fun pins s _ _ _ I h => h.run pins s I⟩
theorem selfB : PSs X sts (wpB X sts) := ⟨fun pins s _ _ _ I h => h.run pins s I⟩
theorem outE {t : TE} {Q : VK} (h : PE X e t) (q : t σ H Q) : wpE X e σ H Q := ⟨fun pins s I => h.run pins s σ H Q I q⟩
theorem outT {t : TT} {Q : Bool → Hw → Prop} (h : PT X e t) (q : t σ H Q) : wpT X e σ H Q := ⟨fun pins s I => h.run pins s σ H Q I q⟩
theorem outA {t : TA} {Q : List V → Hw → Prop} (h : PA X es t) (q : t σ H Q) : wpA X es σ H Q := ⟨fun pos pins s I => h.run pos pins s σ H Q I q⟩
theorem outK {t : TA} {Q : List V → Hw → Prop} (h : PK X kws t) (q : t σ H Q) : wpK X kws σ H Q := ⟨fun pos pins s I => h.run pos pins s σ H Q I q⟩
theorem outS {t : TS} {D : Ends} (h : PS X st t) (q : t D σ H) : wpS X st D σ H := ⟨fun pins s I => h.run pins s σ H D I q⟩
theorem outB {t : TS} {D : Ends} (h : PSs X sts t) (q : t D σ H) : wpB X sts D σ H := ⟨fun pins s I => h.run pins s σ H D I q⟩
end
/-! ### goings -/
def sh (Γ : Ga) : List Bool := Γ.map Sl.mine
theorem sh_at {Γ Γ' : Ga} (h : sh Γ' = sh Γ) {i : Nat} {s : Sl} (e : Γ[i]? = some s) (m : s.mine = true) : ∃ t, Γ'[i]? = some t ∧ t.mine = true := by
  have q : (sh Γ')[i]? = some true := by
    rw [h]
    show (Γ.map Sl.mine)[i]? = some true
    rw [List.getElem?_map, e]
    simp [m]
  have q' : (Γ'.map Sl.mine)[i]? = some true := q
  rw [List.getElem?_map] at q'
  obtain ⟨t, h1, h2⟩ := Option.map_eq_some_iff.mp q'
  exact ⟨t, h1, h2⟩
theorem ow_sh {σ : Sw} {Γ Γ' : Ga} (h : sh Γ' = sh Γ) {a : Addr} (o : Ow σ Γ a) : Ow σ Γ' a := by
  obtain ⟨i, s, h1, h2, h3⟩ := o
  obtain ⟨t, q1, q2⟩ := sh_at h h1 h2
  exact ⟨i, t, q1, q2, h3⟩
theorem mx_sh {M : Ex} {σ : Sw} {Γ Γ' : Ga} (h : sh Γ' = sh Γ) {a : Addr} (o : Mx M σ Γ a) : Mx M σ Γ' a := o.elim .inl fun z => .inr (ow_sh h z)
/-- from (Γ, H) to (Γ', H'), the slots as they were -/
structure Go (c : Co) (σ : Sw) (Γ : Ga) (H : Hw) (Γ' : Ga) (H' : Hw) : Prop where
  st : Step c.U σ Γ H σ Γ' H'
  sh : sh Γ' = sh Γ
  er : ER c.U c.M H' σ Γ'
section
variable {c : Co} {σ : Sw} {Γ Γ1 Γ2 : Ga} {H H1 H2 : Hw}
theorem Go.refl (r : ER c.U c.M H σ Γ) : Go c σ Γ H Γ H := ⟨.refl, rfl, r⟩
theorem Go.trans (a : Go c σ Γ H Γ1 H1) (b : Go c σ Γ1 H1 Γ2 H2) : Go c σ Γ H Γ2 H2 := ⟨a.st.trans a.er b.st, b.sh.trans a.sh, b.er⟩
theorem Go.grow (a : Go c σ Γ H Γ1 H1) (g : Grow H1 H2) : Go c σ Γ H Γ1 H2 := a.trans ⟨⟨fun x o _ _ e => g x o e, fun x h => .inl h⟩, rfl, a.er.grow g⟩
/-- data outlives a going -/
theorem Go.goes (r : ER c.U c.M H σ Γ) (a : Go c σ Γ H Γ1 H1) : Goes (Mx c.M σ Γ) (Mx c.M σ Γ1) H H1 := ⟨fun x o m e => ⟨a.st.fr x o (fun t => m (.inl (r.tm x t))) (fun z => m (.inr z)) e, fun z => m (mx_sh a.sh.symm z)⟩⟩
end
/-- what is wanted of an exception, from here -/
def XW (c : Co) (σ : Sw) (Γ : Ga) (H : Hw) (W : WX) : Prop := ∀ (C : Addr) (fo : Option (Str × D)) (dx : Option Addr) (σ' : Sw) (Γ' : Ga) (H' : Hw), Step c.U σ Γ H σ' Γ' H' → ER c.U c.M H' σ' Γ' →
  (∀ f x, fo = some (f, x) → ∃ a v, dx = some a ∧ H' a = some (.xd [(f, v)]) ∧ Rp (Mx c.M σ' Γ') H' v x) → c.E C fo Γ' → W (.ref C) dx σ' H'
theorem XW.on {c : Co} {σ : Sw} {Γ : Ga} {H : Hw} {W : WX} (x : XW c σ Γ H W) {σ1 : Sw} {Γ1 : Ga} {H1 : Hw} (r : ER c.U c.M H1 σ1 Γ1) (s : Step c.U σ Γ H σ1 Γ1 H1) : XW c σ1 Γ1 H1 W :=
  fun C fo dx σ' Γ' H' s' r' f e => x C fo dx σ' Γ' H' (s.trans r s') r' f e
/-! ### the judgements -/
def Ev (c : Co) (e : Expr) (Γ : Ga) (P : D → Ga → Prop) : Prop := ∀ (σ : Sw) (H : Hw), ER c.U c.M H σ Γ → ∀ (Q : VK) (W : WX), Takes c.X W → XW c σ Γ H W →
  (∀ v d Γ' H', Go c σ Γ H Γ' H' → Rp (Mx c.M σ Γ') H' v d → P d Γ' → Q v H') → wpE c.X e σ H Q
def Tv (c : Co) (e : Expr) (Γ : Ga) (P : Bool → Ga → Prop) : Prop := ∀ (σ : Sw) (H : Hw), ER c.U c.M H σ Γ → ∀ (Q : Bool → Hw → Prop) (W : WX), Takes c.X W → XW c σ Γ H W →
  (∀ b Γ' H', Go c σ Γ H Γ' H' → P b Γ' → Q b H') → wpT c.X e σ H Q
def Av (c : Co) (es : List Expr) (Γ : Ga) (P : List D → Ga → Prop) : Prop := ∀ (σ : Sw) (H : Hw), ER c.U c.M H σ Γ → ∀ (Q : List V → Hw → Prop) (W : WX), Takes c.X W → XW c σ Γ H W →
  (∀ vs ds Γ' H', Go c σ Γ H Γ' H' → RpA (Mx c.M σ Γ') H' vs ds → P ds Γ' → Q vs H') → wpA c.X es σ H Q
def Kv (c : Co) (es : List Keyword) (Γ : Ga) (P : List D → Ga → Prop) : Prop := ∀ (σ : Sw) (H : Hw), ER c.U c.M H σ Γ → ∀ (Q : List V → Hw → Prop) (W : WX), Takes c.X W → XW c σ Γ H W →
  (∀ vs ds Γ' H', Go c σ Γ H Γ' H' → RpA (Mx c.M σ Γ') H' vs ds → P ds Γ' → Q vs H') → wpK c.X es σ H Q
/-- the ends of a statement -/
structure Oc where
  nx : Ga → Prop
  rt : D → Prop
  bk : Ga → Prop := fun _ => False
  ct : Ga → Prop := fun _ => False
structure Ends' (c : Co) (σ : Sw) (Γ : Ga) (H : Hw) (R : Oc) (W : WX) (Dd : Ends) : Prop where
  nx : ∀ σ' Γ' H', Step c.U σ Γ H σ' Γ' H' → ER c.U c.M H' σ' Γ' → R.nx Γ' → Dd.nx σ' H'
  rt : ∀ v d H', (∀ a o, ¬ c.U.T a → ¬ Ow σ Γ a → H a = some o → H' a = some o) → c.U.J H' → Rp c.M H' v d → R.rt d → Dd.rt v H'
  bk : ∀ σ' Γ' H', Step c.U σ Γ H σ' Γ' H' → ER c.U c.M H' σ' Γ' → R.bk Γ' → Dd.bk σ' H'
  ct : ∀ σ' Γ' H', Step c.U σ Γ H σ' Γ' H' → ER c.U c.M H' σ' Γ' → R.ct Γ' → Dd.ct σ' H'
  xw : XW c σ Γ H W
theorem Ends'.on {c : Co} {σ : Sw} {Γ : Ga} {H : Hw} {R : Oc} {W : WX} {Dd : Ends} (k : Ends' c σ Γ H R W Dd) {σ1 : Sw} {Γ1 : Ga} {H1 : Hw} (r : ER c.U c.M H1 σ1 Γ1) (s : Step c.U σ Γ H σ1 Γ1 H1) : Ends' c σ1 Γ1 H1 R W Dd where
  nx := fun σ' Γ' H' s' r' p => k.nx σ' Γ' H' (s.trans r s') r' p
  rt := fun v d H' f j p q => k.rt v d H' (fun a o t n e => f a o t (fun z => (s.og a z).elim n fun y => by rw [e] at y; cases y) (s.fr a o t n e)) j p q
  bk := fun σ' Γ' H' s' r' p => k.bk σ' Γ' H' (s.trans r s') r' p
  ct := fun σ' Γ' H' s' r' p => k.ct σ' Γ' H' (s.trans r s') r' p
  xw := k.xw.on r s
def S1 (c : Co) (st : Stmt) (Γ : Ga) (R : Oc) : Prop := ∀ (σ : Sw) (H : Hw), ER c.U c.M H σ Γ → ∀ (W : WX) (Dd : Ends), Takes c.X W → Ends' c σ Γ H R W Dd → wpS c.X st Dd σ H
def Sv (c : Co) (sts : List Stmt) (Γ : Ga) (R : Oc) : Prop := ∀ (σ : Sw) (H : Hw), ER c.U c.M H σ Γ → ∀ (W : WX) (Dd : Ends), Takes c.X W → Ends' c σ Γ H R W Dd → wpB c.X sts Dd σ H
/-- data to be read: what it holds is outside M, itself perhaps not -/
inductive Rq (M : Ex) (H : Hw) : V → D → Prop
  | of {v : V} {d : D} : Rp M H v d → Rq M H v d
  | lst {a : Addr} {xs : List V} {ds : List D} : H a = some (.lst xs) → RpA M H xs ds → Rq M H (.ref a) (.lst ds)
  | dic {a : Addr} {kvs : List (L2.Key × V)} {ds : List (L2.Key × D)} : H a = some (.dK kvs) → RpK M H kvs ds → Rq M H (.ref a) (.dic ds)
inductive RqA (M : Ex) (H : Hw) : List V → List D → Prop
  | nil : RqA M H [] []
  | cons {v : V} {vs : List V} {d : D} {ds : List D} : Rq M H v d → RqA M H vs ds → RqA M H (v :: vs) (d :: ds)
section
variable {M : Ex} {H : Hw} {v : V}
theorem RqA.of : ∀ {vs : List V} {ds : List D}, RpA M H vs ds → RqA M H vs ds
  | [], [], _ => .nil
  | _ :: _, _ :: _, h => by
    cases h with
    | cons a b => exact .cons (.of a) (RqA.of b)
  | [], _ :: _, h => by cases h
  | _ :: _, [], h => by cases h
theorem Rq.int_ {i : Int} (h : Rq M H v (.int i)) : v = .int i := by
  cases h with
  | of h => cases h; rfl
theorem Rq.bl_ {i : Bool} (h : Rq M H v (.bl i)) : v = .bl i := by
  cases h with
  | of h => cases h; rfl
theorem Rq.str_ {i : Str} (h : Rq M H v (.str i)) : v = .str i := by
  cases h with
  | of h => cases h; rfl
theorem Rq.non_ (h : Rq M H v .non) : v = .non := by
  cases h with
  | of h => cases h; rfl
theorem Rq.lst_ {ds : List D} (h : Rq M H v (.lst ds)) : ∃ a xs, v = .ref a ∧ H a = some (.lst xs) ∧ RpA M H xs ds := by
  cases h with
  | of h => cases h with
    | lst a b c => exact ⟨_, _, rfl, a, c⟩
  | lst a b => exact ⟨_, _, rfl, a, b⟩
theorem Rq.tup_ {ds : List D} (h : Rq M H v (.tup ds)) : ∃ a xs, v = .ref a ∧ TupAt H a xs ∧ ¬ M a ∧ RpA M H xs ds := by
  cases h with
  | of h => cases h with
    | tup a b c => exact ⟨_, _, rfl, a, b, c⟩
theorem Rq.dic_ {ds : List (L2.Key × D)} (h : Rq M H v (.dic ds)) : ∃ a xs, v = .ref a ∧ H a = some (.dK xs) ∧ RpK M H xs ds := by
  cases h with
  | of h => cases h with
    | dic a b c => exact ⟨_, _, rfl, a, c⟩
  | dic a b => exact ⟨_, _, rfl, a, b⟩
end
def EvQ (c : Co) (e : Expr) (Γ : Ga) (P : D → Ga → Prop) : Prop := ∀ (σ : Sw) (H : Hw), ER c.U c.M H σ Γ → ∀ (Q : VK) (W : WX), Takes c.X W → XW c σ Γ H W →
  (∀ v d Γ' H', Go c σ Γ H Γ' H' → Rq (Mx c.M σ Γ') H' v d → P d Γ' → Q v H') → wpE c.X e σ H Q
/-! ### operations by values -/
/-- x op y comes to z, new objects at most -/
def Vo2 (r : R2) (x y z : D) : Prop := ∀ (M : Ex) (H : Hw) (v w : V), (∀ a, M a → H a ≠ none) → Rq M H v x → Rq M H w y → ∀ Q : VK, (∀ u H', Grow H H' → Rp M H' u z → Q u H') → r v w H Q
def Vo1 (r : V → Hw → VK → Prop) (x z : D) : Prop := ∀ (M : Ex) (H : Hw) (v : V), (∀ a, M a → H a ≠ none) → Rq M H v x → ∀ Q : VK, (∀ u H', Grow H H' → Rp M H' u z → Q u H') → r v H Q
def Von (r : List V → Hw → VK → Prop) (xs : List D) (z : D) : Prop := ∀ (M : Ex) (H : Hw) (vs : List V), (∀ a, M a → H a ≠ none) → RqA M H vs xs → ∀ Q : VK, (∀ u H', Grow H H' → Rp M H' u z → Q u H') → r vs H Q
section
variable {c : Co} {Γ : Ga} {P : D → Ga → Prop} {e a b : Expr} {es : List Expr}
theorem ev_mono {P' : D → Ga → Prop} (h : Ev c e Γ P) (k : ∀ d Γ', P d Γ' → P' d Γ') : Ev c e Γ P' := fun σ H r Q W tk xw q => h σ H r Q W tk xw fun v d Γ' H' g p hp => q v d Γ' H' g p (k d Γ' hp)
theorem eq_of (h : Ev c e Γ P) : EvQ c e Γ P := fun σ H r Q W tk xw q => h σ H r Q W tk xw fun v d Γ' H' g p hp => q v d Γ' H' g (.of p) hp
theorem eq_own {x : Str} {pos : Pos} {ds : List D} (i : Nat) (hN : c.X.N[i]? = some x) (hv : Vis c.X.env.scope x) (hd : Γ[i]? = some (.own ds)) (h : P (.lst ds) Γ) (hdb : (x == ("__debug__" : Str)) = false := by decide) (hcd : (x == ("__classdict__" : Str)) = false := by decide) : EvQ c (.Name x pos) Γ P := fun σ H er Q W tk xw q => by
  obtain ⟨a, xs, e, h1, _, p⟩ := er.own i ds hd
  exact outE (pe_var hN hv hdb hcd) ⟨_, e, q _ _ Γ H (.refl er) (.lst h1 p) h⟩
theorem eq_ownD {x : Str} {pos : Pos} {ds : List (L2.Key × D)} (i : Nat) (hN : c.X.N[i]? = some x) (hv : Vis c.X.env.scope x) (hd : Γ[i]? = some (.ownD ds)) (h : P (.dic ds) Γ) (hdb : (x == ("__debug__" : Str)) = false := by decide) (hcd : (x == ("__classdict__" : Str)) = false := by decide) : EvQ c (.Name x pos) Γ P := fun σ H er Q W tk xw q => by
  obtain ⟨a, xs, e, h1, _, p⟩ := er.ownD i ds hd
  exact outE (pe_var hN hv hdb hcd) ⟨_, e, q _ _ Γ H (.refl er) (.dic h1 p) h⟩
theorem ev2 {r : R2} (pe : PE c.X a (wpE c.X a) → PE c.X b (wpE c.X b) → PE c.X e (tOp r (wpE c.X a) (wpE c.X b))) (h : Ev c a Γ fun x Γ1 => EvQ c b Γ1 fun y Γ2 => ∃ z, Vo2 r x y z ∧ P z Γ2) : Ev c e Γ P := fun σ H er Q W tk xw q => by
  refine outE (pe selfE selfE) (h σ H er _ W tk xw fun v x Γ1 H1 g1 p1 hp => hp σ H1 g1.er _ W tk (xw.on g1.er g1.st) fun w y Γ2 H2 g2 p2 hz => ?_)
  obtain ⟨z, vo, hz⟩ := hz
  exact vo (Mx c.M σ Γ2) H2 v w g2.er.mx (.of (Rp.to (g2.goes g1.er) _ _ p1)) p2 Q fun u H3 g3 p3 => q u z Γ2 H3 ((g1.trans g2).grow g3) p3 hz
/-- the left operand a list of this body's own, the right one changing nothing -/
theorem ev2o {r : R2} {x : Str} {pos : Pos} {ds : List D} (i : Nat) (hN : c.X.N[i]? = some x) (hv : Vis c.X.env.scope x) (hd : Γ[i]? = some (.own ds)) (pe : PE c.X (.Name x pos) (tVar i) → PE c.X b (wpE c.X b) → PE c.X e (tOp r (tVar i) (wpE c.X b)))
    (h : EvQ c b Γ fun y Γ2 => Γ2[i]? = some (.own ds) ∧ ∃ z, Vo2 r (.lst ds) y z ∧ P z Γ2) (hdb : (x == ("__debug__" : Str)) = false := by decide) (hcd : (x == ("__classdict__" : Str)) = false := by decide) : Ev c e Γ P := fun σ H er Q W tk xw q => by
  obtain ⟨a, xs, e, h1, _, p⟩ := er.own i ds hd
  refine outE (pe (pe_var hN hv hdb hcd) selfE) ⟨_, e, h σ H er _ W tk xw fun w y Γ2 H2 g2 p2 hz => ?_⟩
  obtain ⟨hk, z, vo, hz⟩ := hz
  obtain ⟨a', xs', e', h1', _, p'⟩ := g2.er.own i ds hk
  rw [e] at e'
  cases e'
  exact vo (Mx c.M σ Γ2) H2 _ w g2.er.mx (.lst h1' p') p2 Q fun u H3 g3 p3 => q u z Γ2 H3 (g2.grow g3) p3 hz
theorem ev2oD {r : R2} {x : Str} {pos : Pos} {ds : List (L2.Key × D)} (i : Nat) (hN : c.X.N[i]? = some x) (hv : Vis c.X.env.scope x) (hd : Γ[i]? = some (.ownD ds)) (pe : PE c.X (.Name x pos) (tVar i) → PE c.X b (wpE c.X b) → PE c.X e (tOp r (tVar i) (wpE c.X b)))
    (h : EvQ c b Γ fun y Γ2 => Γ2[i]? = some (.ownD ds) ∧ ∃ z, Vo2 r (.dic ds) y z ∧ P z Γ2) (hdb : (x == ("__debug__" : Str)) = false := by decide) (hcd : (x == ("__classdict__" : Str)) = false := by decide) : Ev c e Γ P := fun σ H er Q W tk xw q => by
  obtain ⟨a, xs, e, h1, _, p⟩ := er.ownD i ds hd
  refine outE (pe (pe_var hN hv hdb hcd) selfE) ⟨_, e, h σ H er _ W tk xw fun w y Γ2 H2 g2 p2 hz => ?_⟩
  obtain ⟨hk, z, vo, hz⟩ := hz
  obtain ⟨a', xs', e', h1', _, p'⟩ := g2.er.ownD i ds hk
  rw [e] at e'
  cases e'
  exact vo (Mx c.M σ Γ2) H2 _ w g2.er.mx (.dic h1' p') p2 Q fun u H3 g3 p3 => q u z Γ2 H3 (g2.grow g3) p3 hz
theorem ev1 {r : V → Hw → VK → Prop} (pe : PE c.X a (wpE c.X a) → PE c.X e (tUn r (wpE c.X a))) (h : EvQ c a Γ fun x Γ1 => ∃ z, Vo1 r x z ∧ P z Γ1) : Ev c e Γ P := fun σ H er Q W tk xw q => by
  refine outE (pe selfE) (h σ H er _ W tk xw fun v x Γ1 H1 g1 p1 hz => ?_)
  obtain ⟨z, vo, hz⟩ := hz
  exact vo (Mx c.M σ Γ1) H1 v g1.er.mx p1 Q fun u H3 g3 p3 => q u z Γ1 H3 (g1.grow g3) p3 hz
theorem evn {r : List V → Hw → VK → Prop} (pe : PA c.X es (wpA c.X es) → PE c.X e (tCB r (wpA c.X es))) (h : Av c es Γ fun xs Γ1 => ∃ z, Von r xs z ∧ P z Γ1) : Ev c e Γ P := fun σ H er Q W tk xw q => by
  refine outE (pe selfA) (h σ H er _ W tk xw fun v x Γ1 H1 g1 p1 hz => ?_)
  obtain ⟨z, vo, hz⟩ := hz
  exact vo (Mx c.M σ Γ1) H1 v g1.er.mx (.of p1) Q fun u H3 g3 p3 => q u z Γ1 H3 (g1.grow g3) p3 hz
/-- one argument, perhaps a list of this body's own -/
theorem evn1 {r : List V → Hw → VK → Prop} (pe : PA c.X [a] (tCons (wpE c.X a) tNil) → PE c.X e (tCB r (tCons (wpE c.X a) tNil))) (h : EvQ c a Γ fun x Γ1 => ∃ z, Von r [x] z ∧ P z Γ1) (hs : starEach [a] c.X.env = (false, eval a c.X.env) :: starEach [] c.X.env := by rfl) : Ev c e Γ P := fun σ H er Q W tk xw q => by
  refine outE (pe (pa_cons selfE pa_nil hs)) (h σ H er _ W tk xw fun v x Γ1 H1 g1 p1 hz => ?_)
  obtain ⟨z, vo, hz⟩ := hz
  exact vo (Mx c.M σ Γ1) H1 [v] g1.er.mx (.cons p1 .nil) Q fun u H3 g3 p3 => q u z Γ1 H3 (g1.grow g3) p3 hz
theorem av_nil {P : List D → Ga → Prop} (h : P [] Γ) : Av c [] Γ P := fun σ H er Q W tk xw q => outA pa_nil (q [] [] Γ H (.refl er) .nil h)
theorem av_cons {P : List D → Ga → Prop} (h : Ev c a Γ fun x Γ1 => Av c es Γ1 fun xs Γ2 => P (x :: xs) Γ2) (hs : starEach (a :: es) c.X.env = (false, eval a c.X.env) :: starEach es c.X.env := by rfl) : Av c (a :: es) Γ P := fun σ H er Q W tk xw q =>
  outA (pa_cons selfE selfA hs) (h σ H er _ W tk xw fun v x Γ1 H1 g1 p1 hp => hp σ H1 g1.er _ W tk (xw.on g1.er g1.st) fun vs xs Γ2 H2 g2 p2 hz => q _ _ Γ2 H2 (g1.trans g2) (.cons (Rp.to (g2.goes g1.er) _ _ p1) p2) hz)
theorem kv_nil {P : List D → Ga → Prop} (h : P [] Γ) : Kv c [] Γ P := fun σ H er Q W tk xw q => outK pk_nil (q [] [] Γ H (.refl er) .nil h)
theorem kv_cons {kws : List Keyword} {nm : Option Str} {kpos : Pos} {P : List D → Ga → Prop} (h : Ev c a Γ fun x Γ1 => Kv c kws Γ1 fun xs Γ2 => P (x :: xs) Γ2) : Kv c (⟨nm, a, kpos⟩ :: kws) Γ P := fun σ H er Q W tk xw q =>
  outK (pk_cons selfE selfK) (h σ H er _ W tk xw fun v x Γ1 H1 g1 p1 hp => hp σ H1 g1.er _ W tk (xw.on g1.er g1.st) fun vs xs Γ2 H2 g2 p2 hz => q _ _ Γ2 H2 (g1.trans g2) (.cons (Rp.to (g2.goes g1.er) _ _ p1) p2) hz)
/-- the left operand one's own list, in a comparison as a value, as a test -/
theorem ev_cmpo {op : CmpOp} {r : R2} {x : Str} {pos pos' : Pos} {ds : List D} (i : Nat) (hN : c.X.N[i]? = some x) (hv : Vis c.X.env.scope x) (hd : Γ[i]? = some (.own ds)) (ho : OpR c.X (compareOp op) r)
    (h : EvQ c b Γ fun y Γ2 => Γ2[i]? = some (.own ds) ∧ ∃ z, Vo2 r (.lst ds) y z ∧ P z Γ2) (hm : behindInMarks op b = false) (hdb : (x == ("__debug__" : Str)) = false := by decide) (hcd : (x == ("__classdict__" : Str)) = false := by decide) : Ev c (.Compare (.Name x pos') [op] [b] pos) Γ P := ev2o i hN hv hd (fun h1 h2 => pe_cmpR ho h1 h2 hm) h hdb hcd
/-! ### names and constants -/
theorem ev_var {x : Str} {pos : Pos} {d : D} (i : Nat) (hN : c.X.N[i]? = some x) (hv : Vis c.X.env.scope x) (hd : Γ[i]? = some (.dat d)) (h : P d Γ) (hdb : (x == ("__debug__" : Str)) = false := by decide) (hcd : (x == ("__classdict__" : Str)) = false := by decide) : Ev c (.Name x pos) Γ P := fun σ H er Q W tk xw q => by
  obtain ⟨v, e, p⟩ := er.dat i d hd
  exact outE (pe_var hN hv hdb hcd) ⟨v, e, q v d Γ H (.refl er) p h⟩
theorem ev_c {v : V} {d : D} (pe : PE c.X e (tC v)) (hv : ∀ M H, Rp M H v d) (h : P d Γ) : Ev c e Γ P := fun σ H er Q W tk xw q => outE pe (q v d Γ H (.refl er) (hv _ _) h)
theorem ev_int {i : Int} {j : Nat} {pos : Pos} (h : P (.int i) Γ) : Ev c (.Constant (.int i) j pos) Γ P := ev_c pe_int (fun _ _ => .int _) h
theorem ev_bl {i : Bool} {j : Nat} {pos : Pos} (h : P (.bl i) Γ) : Ev c (.Constant (.bool i) j pos) Γ P := ev_c pe_bl (fun _ _ => .bl _) h
theorem ev_non {j : Nat} {pos : Pos} (h : P .non Γ) : Ev c (.Constant .none j pos) Γ P := ev_c pe_non (fun _ _ => .non) h
theorem ev_str {x : Str} {j : Nat} {pos : Pos} (h : P (.str x) Γ) : Ev c (.Constant (.str x) j pos) Γ P := ev_c pe_str (fun _ _ => .str _) h
theorem ev_glob {x : Str} {i : Int} {t : Tok} {pos : Pos} (hm : c.X.mg x = some (.int i t)) (hg : Gl c.X x) (h : P (.int i) Γ) (hd : (x == ("__debug__" : Str)) = false := by decide) : Ev c (.Name x pos) Γ P := ev_c (pe_glob hg hm (v := .int i) ⟨t, rfl⟩ hd) (fun _ _ => .int _) h
theorem ev_globS {x : Str} {i : Str} {t : Tok} {pos : Pos} (hm : c.X.mg x = some (.str i t)) (hg : Gl c.X x) (h : P (.str i) Γ) (hd : (x == ("__debug__" : Str)) = false := by decide) : Ev c (.Name x pos) Γ P := ev_c (pe_glob hg hm (v := .str i) ⟨t, rfl⟩ hd) (fun _ _ => .str _) h
/-! ### tests -/
variable {T : Bool → Ga → Prop}
theorem tv_val (h : Ev c e Γ fun d Γ1 => ∃ k, d = .bl k ∧ T k Γ1) (he : ∀ whole, isTrue e c.X.env whole = (do let v ← whole; standAt e.pos; holding [v] (truthy v)) := by intro _; rfl) : Tv c e Γ T := fun σ H er Q W tk xw q =>
  outT (pt_val selfE he) (h σ H er _ W tk xw fun v d Γ1 H1 g p ⟨k, e, hk⟩ => by
    subst e
    cases p
    exact ⟨k, rfl, q k Γ1 H1 g hk⟩)
theorem tv_cmp {op : CmpOp} {r : R2} {pos : Pos} (ho : OpR c.X (compareOp op) r) (h : Ev c a Γ fun x Γ1 => EvQ c b Γ1 fun y Γ2 => ∃ k, Vo2 r x y (.bl k) ∧ T k Γ2) (hm : behindInMarks op b = false) : Tv c (.Compare a [op] [b] pos) Γ T := fun σ H er Q W tk xw q => by
  refine outT (pt_cmpR ho selfE selfE hm) (h σ H er _ W tk xw fun v x Γ1 H1 g1 p1 hp => hp σ H1 g1.er _ W tk (xw.on g1.er g1.st) fun w y Γ2 H2 g2 p2 hz => ?_)
  obtain ⟨k, vo, hz⟩ := hz
  refine vo (Mx c.M σ Γ2) H2 v w g2.er.mx (.of (Rp.to (g2.goes g1.er) _ _ p1)) p2 _ fun u H3 g3 p3 => ?_
  cases p3
  exact ⟨k, rfl, q k Γ2 H3 ((g1.trans g2).grow g3) hz⟩
theorem ev_cmp {op : CmpOp} {r : R2} {pos : Pos} (ho : OpR c.X (compareOp op) r) (h : Ev c a Γ fun x Γ1 => EvQ c b Γ1 fun y Γ2 => ∃ z, Vo2 r x y z ∧ P z Γ2) (hm : behindInMarks op b = false) : Ev c (.Compare a [op] [b] pos) Γ P := ev2 (fun h1 h2 => pe_cmpR ho h1 h2 hm) h
theorem ev_op {op : Operator} {r : R2} {pos : Pos} (ho : OpR c.X (binaryOp op) r) (h : Ev c a Γ fun x Γ1 => EvQ c b Γ1 fun y Γ2 => ∃ z, Vo2 r x y z ∧ P z Γ2) : Ev c (.BinOp a op b pos) Γ P := ev2 (fun h1 h2 => pe_op ho h1 h2) h
theorem ev_un {op : UnaryOp} {r : V → Hw → VK → Prop} {pos : Pos} (ho : UnR c.X (unaryOp op) r) (h : EvQ c a Γ fun x Γ1 => ∃ z, Vo1 r x z ∧ P z Γ1) : Ev c (.UnaryOp op a pos) Γ P := ev1 (fun h1 => pe_un ho h1) h
end
end U
/-! U4: slots stored, own lists made and changed; statements. -/
namespace U
open PySem PySem.Spec PyProof.Rows L2
section
variable {U : Vol} {M : Ex} {H H1 : Hw} {σ σ' : Sw} {Γ Γ' : Ga}
theorem at_set {α : Type} {l : List α} {i j : Nat} {x y : α} (h : (l.set i x)[j]? = some y) : (j = i ∧ y = x ∧ i < l.length) ∨ (j ≠ i ∧ l[j]? = some y) := by
  by_cases e : i = j
  · subst e
    rw [List.getElem?_set_self'] at h
    by_cases hl : i < l.length
    · rw [List.getElem?_eq_getElem hl] at h
      exact .inl ⟨rfl, (Option.some.inj h).symm, hl⟩
    · rw [List.getElem?_eq_none (by omega)] at h
      cases h
  · rw [List.getElem?_set_ne e] at h
    exact .inr ⟨fun z => e z.symm, h⟩
theorem set_at {α : Type} {l : List α} {i : Nat} {x : α} (h : i < l.length) : (l.set i x)[i]? = some x := by rw [List.getElem?_set_self h]
theorem set_off {α : Type} {l : List α} {i j : Nat} {x : α} (h : j ≠ i) : (l.set i x)[j]? = l[j]? := List.getElem?_set_ne fun z => h z.symm
/-- slots with data -/
theorem ow_set {i : Nat} {v : V} {s : Sl} (hs : s.mine = false) (a : Addr) (h : Ow (σ.set i (some v)) (Γ.set i s) a) : Ow σ Γ a := by
  obtain ⟨j, t, h1, h2, h3⟩ := h
  rcases at_set h1 with ⟨e, e2, _⟩ | ⟨e, h1⟩
  · rw [e2, hs] at h2
    cases h2
  · rw [set_off e] at h3
    exact ⟨j, t, h1, h2, h3⟩
theorem shrink (h : ∀ a, Ow σ' Γ' a → Ow σ Γ a) : Goes (Mx M σ Γ) (Mx M σ' Γ') H H := ⟨fun a o m e => ⟨e, fun z => m (z.elim .inl fun y => .inr (h a y))⟩⟩
theorem ER.set {v : V} {d : D} (r : ER U M H σ Γ) (i : Nat) (p : Rp (Mx M σ Γ) H v d) (hi : i < Γ.length) : ER U M H (σ.set i (some v)) (Γ.set i (.dat d)) := by
  have g : Goes (Mx M σ Γ) (Mx M (σ.set i (some v)) (Γ.set i (.dat d))) H H := shrink (ow_set rfl)
  have hσ : i < σ.length := by rw [r.len]; exact hi
  refine ⟨r.tm, r.kn, r.j, by rw [List.length_set, List.length_set, r.len], fun j e h => ?_, fun j e h => ?_, fun j e h => ?_, fun j k s t a h1 h2 m1 m2 h3 h4 => ?_⟩
  · rcases at_set h with ⟨e1, e2, _⟩ | ⟨e1, h⟩
    · cases e2
      subst e1
      exact ⟨v, set_at hσ, Rp.to g _ _ p⟩
    · obtain ⟨w, q1, q2⟩ := r.dat j e h
      exact ⟨w, (set_off e1).trans q1, Rp.to g _ _ q2⟩
  · rcases at_set h with ⟨e1, e2, _⟩ | ⟨e1, h⟩
    · cases e2
    · obtain ⟨a, xs, q1, q2, q3, q4⟩ := r.own j e h
      exact ⟨a, xs, (set_off e1).trans q1, q2, q3, RpA.to g _ _ q4⟩
  · rcases at_set h with ⟨e1, e2, _⟩ | ⟨e1, h⟩
    · cases e2
    · obtain ⟨a, xs, q1, q2, q3, q4⟩ := r.ownD j e h
      exact ⟨a, xs, (set_off e1).trans q1, q2, q3, RpK.to g _ _ q4⟩
  · rcases at_set h1 with ⟨e1, e2, _⟩ | ⟨e1, h1⟩
    · rw [e2] at m1; cases m1
    · rcases at_set h2 with ⟨e2, e3, _⟩ | ⟨e2, h2⟩
      · rw [e3] at m2; cases m2
      · rw [set_off e1] at h3
        rw [set_off e2] at h4
        exact r.sep j k s t a h1 h2 m1 m2 h3 h4
theorem step_set {v : V} {d : D} (i : Nat) : Step U σ Γ H (σ.set i (some v)) (Γ.set i (.dat d)) H := ⟨fun _ _ _ _ e => e, fun a h => .inl (ow_set rfl a h)⟩
/-- a slot forgotten -/
theorem ER.forget (r : ER U M H σ Γ) (i : Nat) (x : Option V) : ER U M H (σ.set i x) (Γ.set i .un) := by
  have ow : ∀ a, Ow (σ.set i x) (Γ.set i .un) a → Ow σ Γ a := fun a h => by
    obtain ⟨j, t, h1, h2, h3⟩ := h
    rcases at_set h1 with ⟨e, e2, _⟩ | ⟨e, h1⟩
    · rw [e2] at h2
      cases h2
    · rw [set_off e] at h3
      exact ⟨j, t, h1, h2, h3⟩
  have g : Goes (Mx M σ Γ) (Mx M (σ.set i x) (Γ.set i .un)) H H := shrink ow
  refine ⟨r.tm, r.kn, r.j, by rw [List.length_set, List.length_set, r.len], fun j e h => ?_, fun j e h => ?_, fun j e h => ?_, fun j k s t a h1 h2 m1 m2 h3 h4 => ?_⟩
  · rcases at_set h with ⟨e1, e2, _⟩ | ⟨e1, h⟩
    · cases e2
    · obtain ⟨w, q1, q2⟩ := r.dat j e h
      exact ⟨w, (set_off e1).trans q1, Rp.to g _ _ q2⟩
  · rcases at_set h with ⟨e1, e2, _⟩ | ⟨e1, h⟩
    · cases e2
    · obtain ⟨a, xs, q1, q2, q3, q4⟩ := r.own j e h
      exact ⟨a, xs, (set_off e1).trans q1, q2, q3, RpA.to g _ _ q4⟩
  · rcases at_set h with ⟨e1, e2, _⟩ | ⟨e1, h⟩
    · cases e2
    · obtain ⟨a, xs, q1, q2, q3, q4⟩ := r.ownD j e h
      exact ⟨a, xs, (set_off e1).trans q1, q2, q3, RpK.to g _ _ q4⟩
  · rcases at_set h1 with ⟨e1, e2, _⟩ | ⟨e1, h1⟩
    · rw [e2] at m1; cases m1
    · rcases at_set h2 with ⟨e2, e3, _⟩ | ⟨e2, h2⟩
      · rw [e3] at m2; cases m2
      · rw [set_off e1] at h3
        rw [set_off e2] at h4
        exact r.sep j k s t a h1 h2 m1 m2 h3 h4
/-- what of own lists, dicts: the object and what it stands for -/
inductive Ob (M : Ex) (H : Hw) : HO → Sl → Prop
  | lst {xs : List V} {ds : List D} : RpA M H xs ds → Ob M H (.lst xs) (.own ds)
  | dic {xs : List (L2.Key × V)} {ds : List (L2.Key × D)} : RpK M H xs ds → Ob M H (.dK xs) (.ownD ds)
theorem Ob.mine {o : HO} {s : Sl} (b : Ob M H o s) : s.mine = true := by cases b <;> rfl
theorem Ob.to {M' : Ex} {o : HO} {s : Sl} (g : Goes M M' H H1) (b : Ob M H o s) : Ob M' H1 o s := by
  cases b with
  | lst p => exact .lst (RpA.to g _ _ p)
  | dic p => exact .dic (RpK.to g _ _ p)
theorem ER.ob (r : ER U M H σ Γ) {i : Nat} {s : Sl} (h : Γ[i]? = some s) (m : s.mine = true) : ∃ a o, σ[i]? = some (some (.ref a)) ∧ H a = some o ∧ ¬ M a ∧ Ob (Mx M σ Γ) H o s := by
  cases s with
  | un => cases m
  | dat d => cases m
  | own ds =>
    obtain ⟨a, xs, q1, q2, q3, q4⟩ := r.own i ds h
    exact ⟨a, _, q1, q2, q3, .lst q4⟩
  | ownD ds =>
    obtain ⟨a, xs, q1, q2, q3, q4⟩ := r.ownD i ds h
    exact ⟨a, _, q1, q2, q3, .dic q4⟩
theorem ER.of (tm : ∀ a, U.T a → M a) (kn : ∀ a, M a → H a ≠ none) (j : U.J H) (len : σ.length = Γ.length)
    (dat : ∀ (i : Nat) (d : D), Γ[i]? = some (.dat d) → ∃ v, σ[i]? = some (some v) ∧ Rp (Mx M σ Γ) H v d)
    (ob : ∀ (i : Nat) (s : Sl), Γ[i]? = some s → s.mine = true → ∃ a o, σ[i]? = some (some (.ref a)) ∧ H a = some o ∧ ¬ M a ∧ Ob (Mx M σ Γ) H o s)
    (sep : ∀ (i j : Nat) (s t : Sl) (a : Addr), Γ[i]? = some s → Γ[j]? = some t → s.mine = true → t.mine = true → σ[i]? = some (some (.ref a)) → σ[j]? = some (some (.ref a)) → i = j) : ER U M H σ Γ := by
  refine ⟨tm, kn, j, len, dat, fun i ds h => ?_, fun i ds h => ?_, sep⟩
  · obtain ⟨a, o, q1, q2, q3, q4⟩ := ob i _ h rfl
    cases q4 with
    | lst p => exact ⟨a, _, q1, q2, q3, p⟩
  · obtain ⟨a, o, q1, q2, q3, q4⟩ := ob i _ h rfl
    cases q4 with
    | dic p => exact ⟨a, _, q1, q2, q3, p⟩
/-- a new object becomes one's own -/
theorem ER.make {p : Addr} {o : HO} {s : Sl} (r : ER U M H σ Γ) (i : Nat) (hi : i < Γ.length) (hp : H p = none) (b : Ob (Mx M σ Γ) H o s) :
    ER U M (upd H p o) (σ.set i (some (.ref p))) (Γ.set i s) ∧ Step U σ Γ H (σ.set i (some (.ref p))) (Γ.set i s) (upd H p o) := by
  have hσ : i < σ.length := by rw [r.len]; exact hi
  have gr : Grow H (upd H p o) := Grow.new hp
  have ow : ∀ a, Ow (σ.set i (some (.ref p))) (Γ.set i s) a → Ow σ Γ a ∨ a = p := fun a h => by
    obtain ⟨j, t, h1, h2, h3⟩ := h
    rcases at_set h1 with ⟨e, e2, _⟩ | ⟨e, h1⟩
    · subst e
      rw [set_at hσ] at h3
      cases h3
      exact .inr rfl
    · rw [set_off e] at h3
      exact .inl ⟨j, t, h1, h2, h3⟩
  have g : Goes (Mx M σ Γ) (Mx M (σ.set i (some (.ref p))) (Γ.set i s)) H (upd H p o) := ⟨fun a u m e => ⟨gr a u e, fun z => by
    rcases z with z | z
    · exact m (.inl z)
    · rcases ow a z with z | z
      · exact m (.inr z)
      · rw [z, hp] at e
        cases e⟩⟩
  have er := r.grow gr
  have pm : ¬ M p := fun z => r.kn p z hp
  refine ⟨ER.of r.tm er.kn er.j (by rw [List.length_set, List.length_set, r.len]) (fun j e h => ?_) (fun j t h m => ?_) (fun j k t u a h1 h2 m1 m2 h3 h4 => ?_), ⟨fun a u _ _ e => gr a u e, fun a h => (ow a h).elim .inl fun z => .inr (by rw [z]; exact hp)⟩⟩
  · rcases at_set h with ⟨e1, e2, _⟩ | ⟨e1, h⟩
    · have z := b.mine
      rw [← e2] at z
      cases z
    · obtain ⟨w, q1, q2⟩ := r.dat j e h
      exact ⟨w, (set_off e1).trans q1, Rp.to g _ _ q2⟩
  · rcases at_set h with ⟨e1, e2, _⟩ | ⟨e1, h⟩
    · subst e1
      subst e2
      exact ⟨p, o, set_at hσ, upd_same, pm, b.to g⟩
    · obtain ⟨a, u, q1, q2, q3, q4⟩ := r.ob h m
      exact ⟨a, u, (set_off e1).trans q1, gr _ _ q2, q3, q4.to g⟩
  · have ne : ∀ {j : Nat} {t : Sl}, Γ[j]? = some t → t.mine = true → σ[j]? = some (some (.ref p)) → False := fun {j t} h m e => by
      obtain ⟨a, u, q1, q2, _⟩ := r.ob h m
      rw [e] at q1
      cases q1
      rw [hp] at q2
      cases q2
    rcases at_set h1 with ⟨e1, _, _⟩ | ⟨e1, y1⟩
    · rcases at_set h2 with ⟨e2, _, _⟩ | ⟨e2, y2⟩
      · omega
      · rw [e1, set_at hσ] at h3
        cases h3
        rw [set_off e2] at h4
        exact (ne y2 m2 h4).elim
    · rcases at_set h2 with ⟨e2, _, _⟩ | ⟨e2, y2⟩
      · rw [e2, set_at hσ] at h4
        cases h4
        rw [set_off e1] at h3
        exact (ne y1 m1 h3).elim
      · rw [set_off e1] at h3
        rw [set_off e2] at h4
        exact r.sep j k t u a y1 y2 m1 m2 h3 h4
/-- one's own object is changed -/
theorem ER.mut {a : Addr} {o : HO} {s t : Sl} (r : ER U M H σ Γ) (i : Nat) (hs : Γ[i]? = some s) (ms : s.mine = true) (ha : σ[i]? = some (some (.ref a))) (b : Ob (Mx M σ Γ) H o t) :
    ER U M (upd H a o) σ (Γ.set i t) ∧ Step U σ Γ H σ (Γ.set i t) (upd H a o) ∧ sh (Γ.set i t) = sh Γ := by
  have hi : i < Γ.length := (List.getElem?_eq_some_iff.mp hs).1
  have oa : Ow σ Γ a := ⟨i, s, hs, ms, ha⟩
  have am : ¬ M a := (r.own_ne oa).1
  have es : sh (Γ.set i t) = sh Γ := by
    unfold sh
    apply List.ext_getElem?
    intro k
    rw [List.getElem?_map, List.getElem?_map]
    by_cases e : k = i
    · subst e
      rw [set_at hi, hs]
      show some t.mine = some s.mine
      rw [b.mine, ms]
    · rw [set_off e]
  have ow : ∀ x, Ow σ (Γ.set i t) x → Ow σ Γ x := fun x h => ow_sh es.symm h
  have fr : ∀ x u, x ≠ a → H x = some u → (upd H a o) x = some u := fun x u n e => by rw [upd_ne n]; exact e
  have g : Goes (Mx M σ Γ) (Mx M σ (Γ.set i t)) H (upd H a o) := ⟨fun x u m e => ⟨fr x u (fun z => m (.inr (by rw [z]; exact oa))) e, fun z => m (z.elim .inl fun y => .inr (ow x y))⟩⟩
  refine ⟨ER.of r.tm (fun x m z => ?_) (U.keep r.j fun x tx => upd_ne fun z => am (by rw [← z]; exact r.tm x tx)) (by rw [List.length_set, r.len]) (fun j e h => ?_) (fun j u h m => ?_) (fun j k u w x h1 h2 m1 m2 h3 h4 => ?_), ⟨fun x u _ n e => fr x u (fun z => n (by rw [z]; exact oa)) e, fun x h => .inl (ow x h)⟩, es⟩
  · rw [upd_ne fun y => am (by rw [← y]; exact m)] at z
    exact r.kn x m z
  · rcases at_set h with ⟨e1, e2, _⟩ | ⟨e1, h⟩
    · have z := b.mine
      rw [← e2] at z
      cases z
    · obtain ⟨w, q1, q2⟩ := r.dat j e h
      exact ⟨w, q1, Rp.to g _ _ q2⟩
  · rcases at_set h with ⟨e1, e2, _⟩ | ⟨e1, h⟩
    · subst e1
      subst e2
      exact ⟨a, o, ha, upd_same, am, b.to g⟩
    · obtain ⟨x, v, q1, q2, q3, q4⟩ := r.ob h m
      refine ⟨x, v, q1, fr _ _ (fun z => e1 ?_) q2, q3, q4.to g⟩
      rw [z] at q1
      exact r.sep j i u s a h hs m ms q1 ha
  · have old : ∀ {j : Nat} {u : Sl}, (Γ.set i t)[j]? = some u → u.mine = true → ∃ u', Γ[j]? = some u' ∧ u'.mine = true := fun {j u} h m => by
      rcases at_set h with ⟨e1, e2, _⟩ | ⟨e1, h⟩
      · subst e1
        exact ⟨s, hs, ms⟩
      · exact ⟨u, h, m⟩
    obtain ⟨u', p1, p2⟩ := old h1 m1
    obtain ⟨w', p3, p4⟩ := old h2 m2
    exact r.sep j k u' w' x p1 p3 p2 p4 h3 h4
/-- one's own list becomes data -/
theorem ER.freeze {ds : List D} (r : ER U M H σ Γ) (i : Nat) (hs : Γ[i]? = some (.own ds)) : ER U M H σ (Γ.set i (.dat (.lst ds))) ∧ Step U σ Γ H σ (Γ.set i (.dat (.lst ds))) H := by
  obtain ⟨a, xs, e1, e2, e3, e4⟩ := r.own i ds hs
  have ow : ∀ x, Ow σ (Γ.set i (.dat (.lst ds))) x → Ow σ Γ x := fun x h => by
    obtain ⟨j, t, h1, h2, h3⟩ := h
    rcases at_set h1 with ⟨e, e2, _⟩ | ⟨e, h1⟩
    · rw [e2] at h2
      cases h2
    · exact ⟨j, t, h1, h2, h3⟩
  have g : Goes (Mx M σ Γ) (Mx M σ (Γ.set i (.dat (.lst ds)))) H H := shrink ow
  have na : ¬ Mx M σ (Γ.set i (.dat (.lst ds))) a := fun z => by
    rcases z with z | z
    · exact e3 z
    · obtain ⟨j, t, h1, h2, h3⟩ := z
      rcases at_set h1 with ⟨e, e5, _⟩ | ⟨e, h1⟩
      · rw [e5] at h2
        cases h2
      · exact e (r.sep j i t _ a h1 hs h2 rfl h3 e1)
  refine ⟨ER.of r.tm r.kn r.j (by rw [List.length_set, r.len]) (fun j e h => ?_) (fun j t h m => ?_) (fun j k s t x h1 h2 m1 m2 h3 h4 => ?_), ⟨fun _ _ _ _ e => e, fun x h => .inl (ow x h)⟩⟩
  · rcases at_set h with ⟨q1, q2, _⟩ | ⟨q1, h⟩
    · subst q1
      cases q2
      exact ⟨_, e1, .lst e2 na (RpA.to g _ _ e4)⟩
    · obtain ⟨w, q1, q2⟩ := r.dat j e h
      exact ⟨w, q1, Rp.to g _ _ q2⟩
  · rcases at_set h with ⟨q1, q2, _⟩ | ⟨q1, h⟩
    · rw [q2] at m
      cases m
    · obtain ⟨x, v, p1, p2, p3, p4⟩ := r.ob h m
      exact ⟨x, v, p1, p2, p3, p4.to g⟩
  · rcases at_set h1 with ⟨q1, q2, _⟩ | ⟨q1, h1⟩
    · rw [q2] at m1; cases m1
    · rcases at_set h2 with ⟨q2, q3, _⟩ | ⟨q2, h2⟩
      · rw [q3] at m2; cases m2
      · exact r.sep j k s t x h1 h2 m1 m2 h3 h4
end
end U
/-! U5: statements, tests, displays, calls. -/
namespace U
open PySem PySem.Spec PyProof.Rows L2
/-- what a body's surroundings have -/
structure Bd (c : Co) (k : Nat) : Prop where
  calm : c.X.calm = true
  own : PassesOwn (model c.X.prog c.X.w) c.X.A c.X.env c.X.xe
  nd : c.X.N.Nodup
  hr : Room k c.X.A
  gd : c.X.A.guards = some []
theorem Go.length {c : Co} {σ : Sw} {Γ Γ' : Ga} {H H' : Hw} (g : Go c σ Γ H Γ' H') : Γ'.length = Γ.length := by
  have := congrArg List.length g.sh
  simpa [U.sh] using this
theorem ER.rp {U : Vol} {M : Ex} {H : Hw} {σ : Sw} {Γ : Ga} {v : V} {d : D} (r : ER U M H σ Γ) (p : Rp (Mx M σ Γ) H v d) : Rp M H v d := Rp.to ⟨fun a o m e => ⟨e, fun z => m (.inl z)⟩⟩ _ _ p
section
variable {c : Co} {k : Nat} {Γ : Ga} {R : Oc} {P : D → Ga → Prop} {T : Bool → Ga → Prop} {e a b : Expr} {es : List Expr} {st : Stmt} {sts : List Stmt} {pos pos' : Pos}
theorem Ends'.nxt {σ : Sw} {H : Hw} {W : WX} {Dd : Ends} {f : Ga → Prop} {g : L2.St → Hw → Prop} (k : Ends' c σ Γ H R W Dd) (h : ∀ σ' Γ' H', Step c.U σ Γ H σ' Γ' H' → ER c.U c.M H' σ' Γ' → f Γ' → g σ' H') : Ends' c σ Γ H { R with nx := f } W { Dd with nx := g } :=
  ⟨h, k.rt, k.bk, k.ct, k.xw⟩
theorem sv_nil (h : R.nx Γ) : Sv c [] Γ R := fun σ H er W Dd tk k => outB pss_nil (k.nx σ Γ H .refl er h)
theorem sv_cons (h : S1 c st Γ { R with nx := fun Γ1 => Sv c sts Γ1 R }) : Sv c (st :: sts) Γ R := fun σ H er W Dd tk k =>
  outB (pss_cons selfS selfB) (h σ H er W _ tk (k.nxt fun σ' Γ' H' s r p => p σ' H' r W Dd tk (k.on r s)))
theorem s1_mono {R' : Oc} (h : S1 c st Γ R) (h1 : ∀ Γ, R.nx Γ → R'.nx Γ) (h2 : ∀ d, R.rt d → R'.rt d) (h3 : ∀ Γ, R.bk Γ → R'.bk Γ) (h4 : ∀ Γ, R.ct Γ → R'.ct Γ) : S1 c st Γ R' := fun σ H er W Dd tk k =>
  h σ H er W Dd tk ⟨fun σ' Γ' H' s r p => k.nx σ' Γ' H' s r (h1 _ p), fun v d H' f j p q => k.rt v d H' f j p (h2 _ q), fun σ' Γ' H' s r p => k.bk σ' Γ' H' s r (h3 _ p), fun σ' Γ' H' s r p => k.ct σ' Γ' H' s r (h4 _ p), k.xw⟩
theorem sv_mono {R' : Oc} (h : Sv c sts Γ R) (h1 : ∀ Γ, R.nx Γ → R'.nx Γ) (h2 : ∀ d, R.rt d → R'.rt d) (h3 : ∀ Γ, R.bk Γ → R'.bk Γ) (h4 : ∀ Γ, R.ct Γ → R'.ct Γ) : Sv c sts Γ R' := fun σ H er W Dd tk k =>
  h σ H er W Dd tk ⟨fun σ' Γ' H' s r p => k.nx σ' Γ' H' s r (h1 _ p), fun v d H' f j p q => k.rt v d H' f j p (h2 _ q), fun σ' Γ' H' s r p => k.bk σ' Γ' H' s r (h3 _ p), fun σ' Γ' H' s r p => k.ct σ' Γ' H' s r (h4 _ p), k.xw⟩
/-- x = e -/
theorem s1_set (bd : Bd c k) {x : Str} (i : Nat) (hi : c.X.N[i]? = some x) (hx : Loc c.X.env.scope x) (hl : i < Γ.length) (h : Ev c e Γ fun d Γ1 => R.nx (Γ1.set i (.dat d)))
    (hs : swapsWith e (some (.Name x pos')) pos.line c.X.env = pure false := by rfl) (hf : c.X.fn x = true ∨ c.X.env.scope.names.lookup x = some .local := by first | exact .inl rfl | exact .inr rfl) : S1 c (.Assign [.Name x pos'] e pos) Γ R := fun σ H er W Dd tk k =>
  outS (ps_set bd.nd hi hx selfE hs hf) (h σ H er _ W tk k.xw fun v d Γ1 H1 g p hp => k.nx _ _ _ (g.st.trans g.er (step_set i)) (g.er.set i p (by rw [g.length]; exact hl)) hp)
/-- return e -/
theorem s1_ret (h : Ev c e Γ fun d _ => R.rt d) : S1 c (.Return (some e) pos) Γ R := fun σ H er W Dd tk k =>
  outS (ps_ret selfE) (h σ H er _ W tk k.xw fun v d Γ1 H1 g p hp => k.rt v d H1 (fun x o t n y => g.st.fr x o t n y) g.er.j (g.er.rp p) hp)
theorem s1_retN (h : R.rt .non) : S1 c (.Return none pos) Γ R := fun σ H er W Dd tk k =>
  outS ps_retN (k.rt .non .non H (fun x o t n y => y) er.j .non h)
/-- return of a list of this body's own -/
theorem s1_retOwn {x : Str} {ds : List D} (i : Nat) (hN : c.X.N[i]? = some x) (hv : Vis c.X.env.scope x) (hd : Γ[i]? = some (.own ds)) (h : R.rt (.lst ds)) (hdb : (x == ("__debug__" : Str)) = false := by decide) (hcd : (x == ("__classdict__" : Str)) = false := by decide) : S1 c (.Return (some (.Name x pos')) pos) Γ R := fun σ H er W Dd tk k => by
  obtain ⟨a, xs, e1, e2, e3, e4⟩ := er.own i ds hd
  exact outS (ps_ret (pe_var hN hv hdb hcd)) ⟨_, e1, k.rt _ _ H (fun x o t n y => y) er.j (.lst e2 e3 (RpA.to ⟨fun a o m e => ⟨e, fun z => m (.inl z)⟩⟩ _ _ e4)) h⟩
theorem s1_expr (h : Ev c e Γ fun _ Γ1 => R.nx Γ1) (hs : swapsWith e none pos.line c.X.env = pure false := by rfl) : S1 c (.Expr e pos) Γ R := fun σ H er W Dd tk k =>
  outS (ps_expr selfE hs) (h σ H er _ W tk k.xw fun v d Γ1 H1 g p hp => k.nx _ _ _ g.st g.er hp)
theorem s1_pass (h : R.nx Γ) : S1 c (.Pass pos) Γ R := fun σ H er W Dd tk k => outS ps_pass (k.nx σ Γ H .refl er h)
theorem s1_break (h : R.bk Γ) : S1 c (.Break pos) Γ R := fun σ H er W Dd tk k => outS ps_break (k.bk σ Γ H .refl er h)
theorem s1_continue (h : R.ct Γ) : S1 c (.Continue pos) Γ R := fun σ H er W Dd tk k => outS ps_continue (k.ct σ Γ H .refl er h)
theorem s1_if {ss ts : List Stmt} (h : Tv c e Γ fun k Γ1 => (k = true → Sv c ss Γ1 R) ∧ (k = false → Sv c ts Γ1 R)) : S1 c (.If e ss ts pos) Γ R := fun σ H er W Dd tk k =>
  outS (ps_if selfT selfB selfB) (h σ H er _ W tk k.xw fun q Γ1 H1 g hp => by
    cases q with
    | true =>
      show wpB c.X ss Dd σ H1
      exact hp.1 rfl σ H1 g.er W Dd tk (k.on g.er g.st)
    | false =>
      show wpB c.X ts Dd σ H1
      exact hp.2 rfl σ H1 g.er W Dd tk (k.on g.er g.st))
theorem s1_while (bd : Bd c k) {ss : List Stmt} (I : Nat → Ga → Prop) (m0 : Nat) (h0 : I m0 Γ) (hs : ∀ m Γ1, I m Γ1 → Tv c e Γ1 fun q Γ2 => (q = true → Sv c ss Γ2 { nx := fun Γ3 => ∃ m', m' < m ∧ I m' Γ3, ct := fun Γ3 => ∃ m', m' < m ∧ I m' Γ3, bk := R.nx, rt := R.rt }) ∧ (q = false → R.nx Γ2)) : S1 c (.While e ss [] pos) Γ R := fun σ H er W Dd tk k => by
  refine outS (ps_while bd.own selfT selfB) ⟨fun m σ1 H1 => ∃ Γ1, Step c.U σ Γ H σ1 Γ1 H1 ∧ ER c.U c.M H1 σ1 Γ1 ∧ I m Γ1, ⟨m0, Γ, .refl, er, h0⟩, fun m σ1 H1 ⟨Γ1, s1, r1, i1⟩ => ?_⟩
  refine hs m Γ1 i1 σ1 H1 r1 _ W tk (k.xw.on r1 s1) fun q Γ2 H2 g hp => ?_
  have s2 := s1.trans r1 g.st
  cases q with
  | false =>
    show Dd.nx σ1 H2
    exact k.nx σ1 Γ2 H2 s2 g.er (hp.2 rfl)
  | true =>
    refine iteT ⟨fun σ3 H3 => ∃ m', m' < m ∧ ∃ Γ3, Step c.U σ Γ H σ3 Γ3 H3 ∧ ER c.U c.M H3 σ3 Γ3 ∧ I m' Γ3, fun σ3 H3 z => z, ?_⟩
    have k2 := k.on g.er s2
    exact hp.1 rfl σ1 H2 g.er W _ tk ⟨fun σ' Γ' H' s r ⟨m', h1, h2⟩ => ⟨m', h1, Γ', s2.trans g.er s, r, h2⟩, k2.rt, k2.nx, fun σ' Γ' H' s r ⟨m', h1, h2⟩ => ⟨m', h1, Γ', s2.trans g.er s, r, h2⟩, k2.xw⟩
/-! ### tests -/
structure wpW (X : Cx) (e : Expr) (σ : Sw) (H : Hw) (Q : Bool → Hw → Prop) : Prop where
  run : ∀ (whole : Sem Value) (pins : List (Addr × Obj)) (s : Shared), Inv X pins σ H s → wpAny (model X.prog X.w) X.A (isTrue e X.env whole) (TP X pins σ Q) X.xe s
theorem selfW {X : Cx} {e : Expr} : PW X e (wpW X e) := ⟨fun wh pins s _ _ _ I h => h.run wh pins s I⟩
theorem outW {X : Cx} {e : Expr} {σ : Sw} {H : Hw} {t : TT} {Q : Bool → Hw → Prop} (h : PW X e t) (q : t σ H Q) : wpW X e σ H Q := ⟨fun wh pins s I => h.run wh pins s σ H Q I q⟩
def Wv (c : Co) (e : Expr) (Γ : Ga) (P : Bool → Ga → Prop) : Prop := ∀ (σ : Sw) (H : Hw), ER c.U c.M H σ Γ → ∀ (Q : Bool → Hw → Prop) (W : WX), Takes c.X W → XW c σ Γ H W →
  (∀ b Γ' H', Go c σ Γ H Γ' H' → P b Γ' → Q b H') → wpW c.X e σ H Q
theorem tv_w (h : Wv c e Γ T) : Tv c e Γ T := fun σ H er Q W tk xw q => outT selfW.pt (h σ H er Q W tk xw q)
theorem wv_one {op : BoolOp} (h : Tv c a Γ T) (ho : op = .And ∨ op = .Or) : Wv c (.BoolOp op [a] pos) Γ T := fun σ H er Q W tk xw q => by
  rcases ho with rfl | rfl
  · exact outW (pw_and1 selfT) (h σ H er Q W tk xw q)
  · exact outW (pw_or1 selfT) (h σ H er Q W tk xw q)
theorem wv_and {rest : List Expr} (h : Tv c a Γ fun q Γ1 => (q = true → Wv c (.BoolOp .And (b :: rest) pos) Γ1 T) ∧ (q = false → T false Γ1)) : Wv c (.BoolOp .And (a :: b :: rest) pos) Γ T := fun σ H er Q W tk xw q =>
  outW (pw_and selfT selfW) (h σ H er _ W tk xw fun w Γ1 H1 g hp => by
    cases w with
    | true =>
      show wpW c.X _ σ H1 Q
      exact hp.1 rfl σ H1 g.er Q W tk (xw.on g.er g.st) fun w Γ2 H2 g2 h2 => q w Γ2 H2 (g.trans g2) h2
    | false =>
      show Q false H1
      exact q false Γ1 H1 g (hp.2 rfl))
theorem wv_or {rest : List Expr} (h : Tv c a Γ fun q Γ1 => (q = false → Wv c (.BoolOp .Or (b :: rest) pos) Γ1 T) ∧ (q = true → T true Γ1)) : Wv c (.BoolOp .Or (a :: b :: rest) pos) Γ T := fun σ H er Q W tk xw q =>
  outW (pw_or selfT selfW) (h σ H er _ W tk xw fun w Γ1 H1 g hp => by
    cases w with
    | false =>
      show wpW c.X _ σ H1 Q
      exact hp.1 rfl σ H1 g.er Q W tk (xw.on g.er g.st) fun w Γ2 H2 g2 h2 => q w Γ2 H2 (g.trans g2) h2
    | true =>
      show Q true H1
      exact q true Γ1 H1 g (hp.2 rfl))
theorem tv_not (h : Tv c a Γ fun q Γ1 => T (!q) Γ1) : Tv c (.UnaryOp .Not a pos) Γ T := fun σ H er Q W tk xw q => outT (pt_not selfT) (h σ H er _ W tk xw fun w Γ1 H1 g hp => q _ Γ1 H1 g hp)
/-- and, or, not as values, of bools -/
theorem ev_one {op : BoolOp} (h : Ev c a Γ P) : Ev c (.BoolOp op [a] pos) Γ P := fun σ H er Q W tk xw q => outE (pe_one selfE) (h σ H er Q W tk xw q)
theorem ev_and {rest : List Expr} (h : Ev c a Γ fun d Γ1 => ∃ q, d = .bl q ∧ (q = true → Ev c (.BoolOp .And (b :: rest) pos) Γ1 P) ∧ (q = false → P (.bl false) Γ1)) : Ev c (.BoolOp .And (a :: b :: rest) pos) Γ P := fun σ H er Q W tk xw q =>
  outE (pe_and selfE selfE) (h σ H er _ W tk xw fun v d Γ1 H1 g p ⟨w, e, h1, h2⟩ => by
    subst e
    cases p
    refine ⟨w, rfl, ?_⟩
    cases w with
    | true =>
      show wpE c.X _ σ H1 Q
      exact h1 rfl σ H1 g.er Q W tk (xw.on g.er g.st) fun v d Γ2 H2 g2 p2 hp => q v d Γ2 H2 (g.trans g2) p2 hp
    | false =>
      show Q (.bl false) H1
      exact q _ _ Γ1 H1 g (.bl _) (h2 rfl))
theorem ev_or {rest : List Expr} (h : Ev c a Γ fun d Γ1 => ∃ q, d = .bl q ∧ (q = false → Ev c (.BoolOp .Or (b :: rest) pos) Γ1 P) ∧ (q = true → P (.bl true) Γ1)) : Ev c (.BoolOp .Or (a :: b :: rest) pos) Γ P := fun σ H er Q W tk xw q =>
  outE (pe_or selfE selfE) (h σ H er _ W tk xw fun v d Γ1 H1 g p ⟨w, e, h1, h2⟩ => by
    subst e
    cases p
    refine ⟨w, rfl, ?_⟩
    cases w with
    | false =>
      show wpE c.X _ σ H1 Q
      exact h1 rfl σ H1 g.er Q W tk (xw.on g.er g.st) fun v d Γ2 H2 g2 p2 hp => q v d Γ2 H2 (g.trans g2) p2 hp
    | true =>
      show Q (.bl true) H1
      exact q _ _ Γ1 H1 g (.bl _) (h2 rfl))
theorem ev_not (h : Ev c a Γ fun d Γ1 => ∃ q, d = .bl q ∧ P (.bl (!q)) Γ1) : Ev c (.UnaryOp .Not a pos) Γ P := fun σ H er Q W tk xw q =>
  outE (pe_not selfE) (h σ H er _ W tk xw fun v d Γ1 H1 g p ⟨w, e, h1⟩ => by
    subst e
    cases p
    exact ⟨w, rfl, q _ _ Γ1 H1 g (.bl _) h1⟩)
theorem ev_ifExp (h : Tv c e Γ fun q Γ1 => (q = true → Ev c a Γ1 P) ∧ (q = false → Ev c b Γ1 P)) : Ev c (.IfExp e a b pos) Γ P := fun σ H er Q W tk xw q =>
  outE (pe_ifExp selfT selfE selfE) (h σ H er _ W tk xw fun w Γ1 H1 g hp => by
    cases w with
    | true =>
      show wpE c.X a σ H1 Q
      exact hp.1 rfl σ H1 g.er Q W tk (xw.on g.er g.st) fun v d Γ2 H2 g2 p2 hp => q v d Γ2 H2 (g.trans g2) p2 hp
    | false =>
      show wpE c.X b σ H1 Q
      exact hp.2 rfl σ H1 g.er Q W tk (xw.on g.er g.st) fun v d Γ2 H2 g2 p2 hp => q v d Γ2 H2 (g.trans g2) p2 hp)
/-- a chain of two comparisons -/
theorem ev_chain {op op' : CmpOp} {r r' : R2} {e3 : Expr} (ho : OpR c.X (compareOp op) r) (ho' : OpR c.X (compareOp op') r')
    (h : Ev c a Γ fun x Γ1 => Ev c b Γ1 fun y Γ2 => ∃ q, Vo2 r x y (.bl q) ∧ (q = false → P (.bl false) Γ2) ∧ (q = true → Ev c e3 Γ2 fun z Γ3 => ∃ w, Vo2 r' y z w ∧ P w Γ3))
    (hm : lastMarks [op, op'] [b, e3] = false := by with_unfolding_all rfl) : Ev c (.Compare a [op, op'] [b, e3] pos) Γ P := fun σ H er Q W tk xw q => by
  refine outE (pe_chain ho ho' selfE selfE selfE hm) (h σ H er _ W tk xw fun v x Γ1 H1 g1 p1 hp => hp σ H1 g1.er _ W tk (xw.on g1.er g1.st) fun w y Γ2 H2 g2 p2 hz => ?_)
  obtain ⟨z, vo, h1, h2⟩ := hz
  refine vo (Mx c.M σ Γ2) H2 v w g2.er.mx (.of (Rp.to (g2.goes g1.er) _ _ p1)) (.of p2) _ fun u H3 g3 p3 => ?_
  have G := (g1.trans g2).grow g3
  cases p3
  refine ⟨z, rfl, ?_⟩
  cases z with
  | false =>
    show Q (.bl false) H3
    exact q _ _ Γ2 H3 G (.bl _) (h1 rfl)
  | true =>
    show wpE c.X e3 σ H3 _
    refine h2 rfl σ H3 G.er _ W tk (xw.on G.er G.st) fun u3 d3 Γ3 H4 g4 p4 ⟨w3, vo3, hp3⟩ => ?_
    exact vo3 (Mx c.M σ Γ3) H4 w u3 g4.er.mx (.of (Rp.to (g4.goes G.er) _ _ (Rp.to g3.goes _ _ p2))) (.of p4) Q fun u5 H5 g5 p5 => q _ _ Γ3 H5 ((G.trans g4).grow g5) p5 hp3
theorem tv_chain {op op' : CmpOp} {r r' : R2} {e3 : Expr} (ho : OpR c.X (compareOp op) r) (ho' : OpR c.X (compareOp op') r')
    (h : Ev c a Γ fun x Γ1 => Ev c b Γ1 fun y Γ2 => ∃ q, Vo2 r x y (.bl q) ∧ (q = false → T false Γ2) ∧ (q = true → Ev c e3 Γ2 fun z Γ3 => ∃ w, Vo2 r' y z (.bl w) ∧ T w Γ3))
    (hm : lastMarks [op, op'] [b, e3] = false := by with_unfolding_all rfl) : Tv c (.Compare a [op, op'] [b, e3] pos) Γ T := fun σ H er Q W tk xw q => by
  refine outT (pt_chain ho ho' selfE selfE selfE hm) (h σ H er _ W tk xw fun v x Γ1 H1 g1 p1 hp => hp σ H1 g1.er _ W tk (xw.on g1.er g1.st) fun w y Γ2 H2 g2 p2 hz => ?_)
  obtain ⟨z, vo, h1, h2⟩ := hz
  refine vo (Mx c.M σ Γ2) H2 v w g2.er.mx (.of (Rp.to (g2.goes g1.er) _ _ p1)) (.of p2) _ fun u H3 g3 p3 => ?_
  have G := (g1.trans g2).grow g3
  cases p3
  refine ⟨z, rfl, ?_⟩
  cases z with
  | false => exact ⟨false, rfl, q _ Γ2 H3 G (h1 rfl)⟩
  | true =>
    show wpE c.X e3 σ H3 _
    refine h2 rfl σ H3 G.er _ W tk (xw.on G.er G.st) fun u3 d3 Γ3 H4 g4 p4 ⟨w3, vo3, hp3⟩ => ?_
    refine vo3 (Mx c.M σ Γ3) H4 w u3 g4.er.mx (.of (Rp.to (g4.goes G.er) _ _ (Rp.to g3.goes _ _ p2))) (.of p4) _ fun u5 H5 g5 p5 => ?_
    cases p5
    exact ⟨w3, rfl, q _ Γ3 H5 ((G.trans g4).grow g5) hp3⟩
/-! ### displays -/
theorem ev_tup {ctx : Nat} (h : Av c es Γ fun ds Γ1 => ds.length ≤ 16777216 ∧ P (.tup ds) Γ1) : Ev c (.Tuple es ctx pos) Γ P := fun σ H er Q W tk xw q =>
  outE (pe_tupZ selfA) (h σ H er _ W tk xw fun vs ds Γ1 H1 g p ⟨hl, hp⟩ => ⟨by rw [p.length]; exact hl, fun t ob od ht => q _ _ Γ1 _ (g.grow (Grow.new ht)) (.tup (tupAt_upd od) (fun z => g.er.mx _ z ht) (RpA.to (Grow.new ht).goes _ _ p)) hp⟩)
theorem ev_lst (h : Av c es Γ fun ds Γ1 => ds.length ≤ 16777216 ∧ P (.lst ds) Γ1) : Ev c (.List es pos) Γ P := fun σ H er Q W tk xw q =>
  outE (pe_lst selfA) (h σ H er _ W tk xw fun vs ds Γ1 H1 g p ⟨hl, hp⟩ => ⟨by rw [p.length]; exact hl, fun t ht => q _ _ Γ1 _ (g.grow (Grow.new ht)) (.lst upd_same (fun z => g.er.mx _ z ht) (RpA.to (Grow.new ht).goes _ _ p)) hp⟩)
/-- x = [..], the list this body's own -/
theorem s1_setL (bd : Bd c k) {x : Str} (i : Nat) (hi : c.X.N[i]? = some x) (hx : Loc c.X.env.scope x) (hl : i < Γ.length) (h : Av c es Γ fun ds Γ1 => ds.length ≤ 16777216 ∧ R.nx (Γ1.set i (.own ds))) {lp : Pos}
    (hs : swapsWith (.List es lp) (some (.Name x pos')) pos.line c.X.env = pure false := by rfl) (hf : c.X.fn x = true ∨ c.X.env.scope.names.lookup x = some .local := by first | exact .inl rfl | exact .inr rfl) : S1 c (.Assign [.Name x pos'] (.List es lp) pos) Γ R := fun σ H er W Dd tk k =>
  outS (ps_set bd.nd hi hx (pe_lst selfA) hs hf) (h σ H er _ W tk k.xw fun vs ds Γ1 H1 g p ⟨hz, hp⟩ => ⟨by rw [p.length]; exact hz, fun t ht => by
    obtain ⟨r2, s2⟩ := g.er.make i (by rw [g.length]; exact hl) ht (.lst p)
    exact k.nx _ _ _ (g.st.trans g.er s2) r2 hp⟩)
/-- x.append(e) -/
theorem s1_append {x name : Str} {apos cpos npos : Pos} (i : Nat) (hN : c.X.N[i]? = some x) (hv : Vis c.X.env.scope x) (hn : name = "append") {s0 : List D} (hs0 : Γ[i]? = some (.own s0)) (h : Ev c e Γ fun d Γ1 => ∃ ds, Γ1[i]? = some (.own ds) ∧ ds.length < 16777216 ∧ R.nx (Γ1.set i (.own (ds ++ [d]))))
    (hdb : (x == ("__debug__" : Str)) = false := by decide) (hcd : (x == ("__classdict__" : Str)) = false := by decide)
    (hfew : ((backTo cpos (starEach [e] c.X.env)).all (fun x => !x.1) && (backToKw cpos (keywordEach [] c.X.env)).all (fun x => x.1.isSome) && decide (([e] : List Expr).length + ([] : List Keyword).length + (if ([] : List Keyword).isEmpty then 0 else 1) < 30)) = true := by rfl)
    (hbase : attributeBase (.Name x npos) "append" c.X.env (eval (.Name x npos) c.X.env) = eval (.Name x npos) c.X.env := by rfl)
    (hline : (apos.endLine == cpos.line) = true := by rfl) (hst : starEach [e] c.X.env = (false, eval e c.X.env) :: starEach [] c.X.env := by rfl)
    (hs : swapsWith (.Call (.Attribute (.Name x npos) "append" apos) [e] [] cpos) none pos.line c.X.env = pure false := by rfl) :
    S1 c (.Expr (.Call (.Attribute (.Name x npos) name apos) [e] [] cpos) pos) Γ R := fun σ H er W Dd tk k => by
  subst hn
  obtain ⟨a0, xs0, f1, f2, f3, f4⟩ := er.own i s0 hs0
  refine outS (ps_expr (pe_bm PySem.F.plainAttrs_list PySem.F.slot_list_append PySem.F.type_list_append mt_append (pe_var hN hv hdb hcd) (pa_cons selfE pa_nil hst) hbase hfew hline hst (by rfl)) hs) ⟨_, f1, .inl ⟨rfl, _, .inl (.inl f2)⟩, ?_⟩
  refine h σ H er _ W tk k.xw fun v d Γ1 H1 g p ⟨ds, h1, h2, h3⟩ => ?_
  obtain ⟨a1, xs1, q1, q2, q3, q4⟩ := g.er.own i ds h1
  have e1 := q1.symm.trans f1
  cases e1
  obtain ⟨r2, s2, _⟩ := g.er.mut i h1 rfl q1 (.lst (RpA.app q4 (.cons p .nil)))
  exact ⟨_, xs1, v, rfl, rfl, q2, by rw [q4.length]; exact h2, k.nx _ _ _ (g.st.trans g.er s2) r2 h3⟩
end
end U
/-! U6: defs and their promises over data; calls. -/
namespace U
open PySem PySem.Spec PyProof.Rows L2
/-- a promise over data: arguments, what is wanted of the answer, of an error -/
abbrev Fs := List D → (D → Prop) → (Addr → Option (Str × D) → Prop) → Prop
def FrT (U : Vol) (H H' : Hw) : Prop := ∀ a o, ¬ U.T a → H a = some o → H' a = some o
def lift (U : Vol) (n : Nat) (S : Fs) : Sp := fun vs H Q E => ∃ (M : Ex) (ds : List D) (P : D → Prop) (X : Addr → Option (Str × D) → Prop),
  (∀ a, U.T a → M a) ∧ (∀ a, M a → H a ≠ none) ∧ U.J H ∧ RpA M H vs ds ∧ ds.length = n ∧ S ds P X ∧
  (∀ v d H', FrT U H H' → U.J H' → Rp M H' v d → P d → Q v H') ∧
  (∀ C fo dx H', FrT U H H' → U.J H' → (∀ f x, fo = some (f, x) → ∃ a v, dx = some a ∧ H' a = some (.xd [(f, v)]) ∧ Rp M H' v x) → X C fo → E (.ref C) dx H')
/-- a def that keeps a promise, called where no repr is under way -/
structure FnG (P : Program) (w : World) (K : PySem.W.Frag) (mg : Str → Option Value) (base : Heap) (k : Nat) (f : Addr) (fd : FuncData) (ps : List Str) (sp : Sp) : Prop where
  len : ∀ vs H Q E, sp vs H Q E → vs.length = ps.length
  run : ∀ (A : Around) (outer : List Env) (s : Shared) (H : Hw) (args : Args) (us : List Value) (vs : List V) (Q : VK) (E : XK), Room k A → A.guards = some [] →
    Env0 P w K mg base A outer s H → BindsTo s fd args (ps.zip us) → Vals vs us → sp vs H Q E →
    codeAny (model P w) A (.call (.ref f) args) (CR (L2.CX P w) outer P w H s Q E) s
theorem FnG.mono {P : Program} {w : World} {K : PySem.W.Frag} {mg : Str → Option Value} {base : Heap} {j k : Nat} {f : Addr} {fd : FuncData} {ps : List Str} {sp : Sp} (F : FnG P w K mg base j f fd ps sp) (h : j ≤ k) : FnG P w K mg base k f fd ps sp :=
  ⟨F.len, fun A outer s H args us vs Q E hr => F.run A outer s H args us vs Q E (hr.mono h)⟩
section
variable {P : Program} {w : World} {K : PySem.W.Frag} {mg : Str → Option Value} {base : Heap}
/-- a def of the text by its body, under the same proviso -/
theorem fn_ofG {k : Nat} {f : Addr} {name qual : Str} {params : Arguments} {body : List Stmt} {scope : Scope} {dV kV doc pm cdv ct oc : Value} {an od : Option Addr}
    {osl : Array (Option Value)} {N ps : List Str} {sp : Sp} (lk : K.lookup f = some ⟨oc, od, .func (PySem.W.fnOf name qual params body scope dV kV doc pm an cdv ct), osl⟩)
    (hcd : PySem.W.codeIn K cdv qual = true) (sc : FnScope N ps scope) (len : ∀ vs H Q E, sp vs H Q E → vs.length = ps.length)
    (hbody : ∀ (A : Around) (outer : List Env) (s : Shared) (H : Hw) (vs : List V) (Q : VK) (E : XK), Room k (A.deeper (envOfC qual scope s.heap.objs.size f cdv)) → A.guards = some [] → sp vs H Q E →
      wpB (cxOf (L2.CX P w) P w K mg base N qual scope f cdv A outer s H E) body { nx := fun _ H' => Q .non H', rt := Q } (L2.start N vs) H) :
    FnG P w K mg base (k + 1) f (PySem.W.fnOf name qual params body scope dV kV doc pm an cdv ct) ps sp := by
  constructor
  · exact len
  intro A outer s H args us vs Q E hr hgd e0 hb rl hsp
  have KX : K.In s.heap := e0.mod.kin.keeps fun b o e => (e0.bs b o e).1
  have lim : s.heap.NoLimit := e0.mod.nolimit.keeps fun b o e => (e0.bs b o e).1
  have kinds : ∀ y ∈ ps.zip us, scope.names.lookup y.1 = some .local ∨ (scope.names.lookup y.1 = some .cell ∧ ((cellsFrom (s.heap.objs.size + 1) scope.names []).lookup y.1).isSome = true) := by
    rintro ⟨n, v⟩ hy
    have q := sc.par n (List.of_mem_zip hy).1
    exact q.imp id fun q => ⟨q, PySem.W.cellsFrom_some _ _ _ (.inl q)⟩
  apply codeAny_call_function hr.depth (KX _ _ lk) rfl sc.co sc.gen rfl (PySem.W.codeRec_of KX hcd) (hb _ _ _ _ _)
  apply wpAny_newFunctionEnv_cells sc.kind kinds
  intro env he s1 x
  cases he
  refine ⟨lim.keeps x.toInCall.keep, ?_⟩
  apply codeAny_func
  have I := inv_start (CX := L2.CX P w) (E := E) sc hr.hd e0 (len _ _ _ _ hsp) rl x
  refine wpAny_mono ((hbody A outer s H vs Q E (hr.deeper _) hgd hsp).run [] s1 I) ?_ (fun e s' hs => hs)
  intro fl s' hs
  cases fl with
  | ret u => exact let ⟨v, _, H', J, rv, q⟩ := hs; ⟨v, H', J.os, J.bare, J.base, J.hok, rv, q⟩
  | next => exact let ⟨_, H', J, q⟩ := hs; ⟨.non, H', J.os, J.bare, J.base, J.hok, (show RelV V.non Value.none from rfl), q⟩
  | brk => exact let ⟨_, _, _, q⟩ := hs; False.elim q
  | cont => exact let ⟨_, _, _, q⟩ := hs; False.elim q
end
/-- the environment at a def's entry -/
def Ga.start (n : Nat) (ds : List D) : Ga := ds.map Sl.dat ++ List.replicate (n - ds.length) Sl.un
theorem er_start {U : Vol} {M : Ex} {H : Hw} {vs : List V} {ds : List D} {N : List Str} (tm : ∀ a, U.T a → M a) (kn : ∀ a, M a → H a ≠ none) (j : U.J H) (r : RpA M H vs ds) (hn : ds.length ≤ N.length) :
    ER U M H (L2.start N vs) (Ga.start N.length ds) := by
  have nomine : ∀ (i : Nat) (s : Sl), (Ga.start N.length ds)[i]? = some s → s.mine = false := fun i s h => by
    unfold Ga.start at h
    by_cases hi : i < ds.length
    · rw [List.getElem?_append_left (by simpa using hi), List.getElem?_map, List.getElem?_eq_getElem hi] at h
      cases h
      rfl
    · rw [List.getElem?_append_right (by simpa using hi), List.getElem?_replicate] at h
      split at h
      · cases h; rfl
      · cases h
  have now : ∀ a, ¬ Ow (L2.start N vs) (Ga.start N.length ds) a := fun a ⟨i, s, h1, h2, _⟩ => by rw [nomine i s h1] at h2; cases h2
  refine ⟨tm, kn, j, ?_, fun i d h => ?_, fun i d h => ?_, fun i d h => ?_, fun i j s t a h1 h2 m1 => ?_⟩
  · unfold L2.start Ga.start
    rw [List.length_append, List.length_append, List.length_map, List.length_map, List.length_replicate, List.length_replicate, r.length]
  · unfold Ga.start at h
    by_cases hi : i < ds.length
    · rw [List.getElem?_append_left (by simpa using hi), List.getElem?_map] at h
      obtain ⟨d', e1, e2⟩ := Option.map_eq_some_iff.mp h
      cases e2
      obtain ⟨v, q1, q2⟩ := r.at e1
      refine ⟨v, ?_, Rp.to ⟨fun a o m e => ⟨e, fun z => z.elim m (now a)⟩⟩ _ _ q2⟩
      unfold L2.start
      rw [List.getElem?_append_left (by rw [List.length_map, r.length]; exact hi), List.getElem?_map, q1]
      rfl
    · rw [List.getElem?_append_right (by simpa using hi), List.getElem?_replicate] at h
      split at h <;> cases h
  · have z := nomine i _ h
    cases z
  · have z := nomine i _ h
    cases z
  · rw [nomine i s h1] at m1
    cases m1
/-- the surroundings of a def's body -/
def coOf (P : Program) (w : World) (K : PySem.W.Frag) (mg : Str → Option Value) (base : Heap) (N : List Str) (qual : Str) (scope : Scope) (f : Addr) (cdv : Value) (A : Around) (outer : List Env) (s : Shared) (H : Hw) (E : XK) (U : Vol) (M : Ex) (X : Addr → Option (Str × D) → Prop) : Co :=
  ⟨cxOf (L2.CX P w) P w K mg base N qual scope f cdv A outer s H E, U, M, fun C fo _ => X C fo⟩
section
variable {P : Program} {w : World} {K : PySem.W.Frag} {mg : Str → Option Value} {base : Heap}
/-- THE RULE for a def over data -/
theorem fn_data {x qual : Str} {st : Stmt} {f : Addr} {fd : FuncData} {N ps : List Str} {k n : Nat} {S : Fs} {U : Vol} (F : Fun K x qual st f fd) (sc : FnScope N ps (defScope st)) (hn : n = ps.length) (hN : ps.length ≤ N.length)
    (hbody : ∀ (cdv : Value) (A : Around) (outer : List Env) (s : Shared) (H : Hw) (E : XK) (M : Ex) (ds : List D) (Pd : D → Prop) (X : Addr → Option (Str × D) → Prop),
      Bd (coOf P w K mg base N qual (defScope st) f cdv A outer s H E U M X) k → ds.length = n → S ds Pd X →
      Sv (coOf P w K mg base N qual (defScope st) f cdv A outer s H E U M X) (defBody st) (Ga.start N.length ds) { nx := fun _ => Pd .non, rt := Pd }) :
    FnG P w K mg base (k + 1) f fd ps (lift U n S) := by
  obtain ⟨oc, od, kV, doc, pm, an, cdv, ct, osl, rfl, lk, hcd⟩ := F.ex
  refine fn_ofG lk hcd sc (fun vs H Q E ⟨M, ds, _, _, _, _, _, r, e, _⟩ => by rw [r.length, e, hn]) fun A outer s H vs Q E hr hgd hsp => ?_
  obtain ⟨M, ds, Pd, X, tm, kn, j, r, e, hS, q, qx⟩ := hsp
  refine hbody cdv A outer s H E M ds Pd X ⟨rfl, passes_of rfl, sc.nd, hr, hgd⟩ e hS _ H (er_start tm kn j r (by rw [e, hn]; exact hN)) (fun cls d _ H' => E cls d H') _ (takes_of rfl rfl rfl rfl) ?_
  have no : ∀ a, ¬ Ow (L2.start N vs) (Ga.start N.length ds) a := fun a ⟨i, s, h1, h2, _⟩ => by
    unfold Ga.start at h1
    by_cases hi : i < ds.length
    · rw [List.getElem?_append_left (by simpa using hi), List.getElem?_map, List.getElem?_eq_getElem hi] at h1
      cases h1
      cases h2
    · rw [List.getElem?_append_right (by simpa using hi), List.getElem?_replicate] at h1
      split at h1
      · cases h1; cases h2
      · cases h1
  exact ⟨fun σ' Γ' H' st r p => q .non .non H' (fun a o t e => st.fr a o t (no a) e) r.j .non p, fun v d H' fr j p h => q v d H' (fun a o t e => fr a o t (no a) e) j p h, fun _ _ _ _ _ z => z.elim, fun _ _ _ _ _ z => z.elim,
    fun C fo dx σ' Γ' H' st r hf hx => qx C fo dx H' (fun a o t e => st.fr a o t (no a) e) r.j (fun f x e => let ⟨a, v, h1, h2, h3⟩ := hf f x e; ⟨a, v, h1, h2, r.rp h3⟩) hx⟩
end
/-! ### calls -/
section
variable {c : Co} {k : Nat} {Γ : Ga} {P : D → Ga → Prop} {e : Expr} {es : List Expr} {pos p : Pos}
/-- the callee runs -/
theorem run_data {f : Addr} {fd : FuncData} {ps : List Str} {n j : Nat} {S : Fs} {pins : List (Addr × Obj)} {σ : Sw} {Γ0 : Ga} {H : Hw} {s : Shared} {args : Args} {us : List Value} {vs : List V} {ds : List D} {Q : VK} {W : WX}
    (F : FnG c.X.prog c.X.w c.X.K c.X.mg c.X.base j f fd ps (lift c.U n S)) (bd : Bd c k) (hj : j ≤ k) (hb : BindsTo s fd args (ps.zip us)) (er : ER c.U c.M H σ Γ0) (tk : Takes c.X W) (xw : XW c σ Γ0 H W) (I : Inv c.X pins σ H s) (rv : Vals vs us) (r : RpA (Mx c.M σ Γ0) H vs ds) (hn : ds.length = n)
    (q : ∀ v d Γ' H', Go c σ Γ0 H Γ' H' → Rp (Mx c.M σ Γ') H' v d → P d Γ' → Q v H') (h : S ds (fun d => P d Γ0) fun C fo => c.E C fo Γ0) :
    wpAny (model c.X.prog c.X.w) c.X.A (call (.ref f) args.pos args.kw) (EP c.X pins σ Q) c.X.xe s := by
  have go : ∀ H', FrT c.U H H' → c.U.J H' → Go c σ Γ0 H Γ0 H' := fun H' fr j => by
    have g : Goes (Mx c.M σ Γ0) (Mx c.M σ Γ0) H H' := ⟨fun a o m e => ⟨fr a o (fun t => m (.inl (er.tm a t))) e, m⟩⟩
    refine ⟨⟨fun a o t _ e => fr a o t e, fun a h => .inl h⟩, rfl, ER.of er.tm (fun a m => ?_) j er.len (fun i d e => ?_) (fun i s e m => ?_) er.sep⟩
    · by_cases t : c.U.T a
      · exact c.U.known j t
      · obtain ⟨o, e⟩ := Option.ne_none_iff_exists'.mp (er.kn a m)
        rw [fr a o t e]
        simp
    · obtain ⟨v, q1, q2⟩ := er.dat i d e
      exact ⟨v, q1, Rp.to g _ _ q2⟩
    · obtain ⟨a, o, q1, q2, q3, q4⟩ := er.ob e m
      exact ⟨a, o, q1, fr a o (fun t => q3 (er.tm a t)) q2, q3, q4.to g⟩
  have hsp : lift c.U n S vs H Q (fun cls d H' => W cls d σ H') :=
    ⟨Mx c.M σ Γ0, ds, _, _, fun a t => .inl (er.tm a t), er.mx, er.j, r, hn, h, fun v d H' fr j p hp => q v d Γ0 H' (go H' fr j) p hp, fun C fo dx H' fr j hf hx => xw C fo dx σ Γ0 H' (go H' fr j).st (go H' fr j).er hf hx⟩
  refine wpAny_call (codeAny_mono (F.run c.X.A c.X.stack s H args us vs Q _ (bd.hr.mono hj) bd.gd I.env0 hb rv hsp) fun r s' hq => ?_)
  cases r with
  | error e => exact tk e s' (XE.of_call I (fun _ _ _ h => h) hq)
  | ok fl =>
    cases fl with
    | ret u => exact I.after hq
    | next => exact False.elim hq
    | brk => exact False.elim hq
    | cont => exact False.elim hq
/-- f(e, ..) -/
theorem ev_call {x : Str} {f : Addr} {fd : FuncData} {ps : List Str} {n j : Nat} {S : Fs} (F : FnG c.X.prog c.X.w c.X.K c.X.mg c.X.base j f fd ps (lift c.U n S)) (bd : Bd c k) (hj : j ≤ k) (hm : c.X.mg x = some (.ref f)) (hk : PySem.W.keepIn c.X.K (.ref f) = true) (hb : Binds c.X.K fd ps []) (hg : Gl c.X x)
    (h : Av c (e :: es) Γ fun ds Γ1 => ds.length = n ∧ S ds (fun d => P d Γ1) fun C fo => c.E C fo Γ1)
    (hdb : (x == ("__debug__" : Str)) = false := by decide) (he : starEach (e :: es) c.X.env = (false, eval e c.X.env) :: starEach es c.X.env := by rfl) (hpl : (backTo pos (starEach es c.X.env)).any (·.1) = false := by rfl) :
    Ev c (.Call (.Name x p) (e :: es) [] pos) Γ P := fun σ H er Q W tk xw q => .mk fun pins s I => by
  refine wpAny_Call_Name_kw (ld_glob I hg hm ?_ hdb)
  refine PySem.W.callWith_K (h₀ := c.X.base) I.ok.mod.kin hk (thn ((h σ H er (fun vs H1 => ∃ ds Γ1, Go c σ Γ H Γ1 H1 ∧ RpA (Mx c.M σ Γ1) H1 vs ds ∧ ds.length = n ∧ S ds (fun d => P d Γ1) fun C fo => c.E C fo Γ1) W tk xw (fun vs ds Γ1 H1 g r hp => ⟨ds, Γ1, g, r, hp⟩)).run pos pins s I) fun us s1 ⟨vs, H1, I1, rv, ds, Γ1, g, r, hn, hS⟩ => ⟨I1.kIn, ?_⟩) he hpl
  have hl : us.length = ps.length := by
    rw [← rv.length]
    refine F.len vs H1 (fun _ _ => True) (fun _ _ _ => True) ⟨Mx c.M σ Γ1, ds, _, _, fun a t => .inl (g.er.tm a t), g.er.mx, g.er.j, r, hn, hS, fun _ _ _ _ _ _ _ => trivial, fun _ _ _ _ _ _ _ _ => trivial⟩
  have hb1 := hb s1 us I1.kIn (by rw [List.append_nil]; exact hl)
  rw [List.append_nil] at hb1
  exact run_data (args := ⟨us, []⟩) F bd hj hb1 g.er tk (xw.on g.er g.st) I1 rv r hn (fun v d Γ' H' g' p hp => q v d Γ' H' (g.trans g') p hp) hS
end
end U
/-! U6z: pairs that enumerate gives for a list, known to have no dict of their own. -/
namespace U
open PySem PySem.Spec PyProof.Rows L2
def IteZ (K : PySem.W.Frag) (a : Addr) : It := { Ite K a with yld := fun i H v H' => ∃ T x, ∃ ob : Obj, v = .ref T ∧ ob.dict = none ∧ H T = none ∧ H' = upd H T (.frz ob (.tup [.int (i : Nat), x])) ∧ ∀ xs, SqL K H a xs → xs[i]? = some x }
theorem turn_enumZ {P : Program} {w : World} {K : PySem.W.Frag} {elts : List Expr} {kk : Nat} {tpos : Pos} (a e it : Addr) :
    Turn P w K (.Tuple elts kk tpos) (IteZ K a) [e, it] e (fun i h => (∃ old, IsEnum h e it ((i : Nat) : Int) old) ∧ h.IsListIter it a i ∧ e ≠ it) := by
  have B := turn_enum (P := P) (w := w) (K := K) (elts := elts) (kk := kk) (tpos := tpos) a e it
  refine ⟨B.mem, B.obj, B.keep, ?_, B.done, B.self⟩
  intro X hP hw hK hc i pins s σ H E I hf st hg
  subst hP hw hK
  obtain ⟨⟨old, he⟩, hit, hne⟩ := st
  obtain ⟨xs, x, hq, hx⟩ := hg
  obtain ⟨its, rv, p, hz⟩ := I.list hq
  obtain ⟨u, hu, ru⟩ := rv.get hx
  have lte : ∀ b ∈ [e, it], b < s.heap.objs.size := fun b hb => by
    obtain ⟨_, q, _⟩ := hit
    rcases List.mem_cons.mp hb with z | z
    · rw [z]; exact Heap.lt_size he
    · rw [List.mem_singleton.mp z]; exact Heap.lt_size q
  refine wpAny_pyNext_enum_item he hit p.isList (x := u) (by simpa using hu) hne fun h' ho hit' hT hsz hk => ?_
  refine ⟨_, rfl, wpAny_letOwnedTupleGo_enum (s := { s with heap := h', toks := s.toks + 1 }) ho fun h'' he' sb => ?_⟩
  have hT2 := (sb.2 _ (Nat.ne_of_gt (lte e (by simp)))).trans hT
  have fr : ∀ b ob, b ∉ [e, it] → s.heap.get? b = some ob → h''.get? b = some ob := fun b ob hb q => (sb.2 b (fun z => hb (by simp [z]))).trans (hk b ob (fun z => hb (by simp [z])) (fun z => hb (by simp [z])) q)
  have new : ObjOk X.prog X.w (upd H s.heap.objs.size (.frz { cls := .type "tuple", data := .seq #[.int i s.toks, u] } (.tup [.int (i : Nat), x]))) h'' s.heap.objs.size (.frz { cls := .type "tuple", data := .seq #[.int i s.toks, u] } (.tup [.int (i : Nat), x])) :=
    ⟨hT2, by show 2 ≤ sizeLine; decide, [.int i s.toks, u], .cons ⟨_, rfl⟩ (.cons ru .nil), ⟨_, hT2, rfl, _, rfl⟩⟩
  refine ⟨.ref s.heap.objs.size, _, I.turnedNew (t' := s.toks + 1) (ch := [e, it]) fr hf (Nat.le_refl _) new, rfl, ⟨s.heap.objs.size, x, _, rfl, rfl, I.hok.fresh (Nat.le_refl _), rfl, fun ys hy => by rw [I.list_inj hy hq]; exact hx⟩, ⟨⟨u, ?_⟩, hit'.at fun o q => (sb.2 it (Ne.symm hne)).trans q, hne⟩, fun b hb => ?_⟩
  · rw [show ((i + 1 : Nat) : Int) = (i : Int) + 1 by omega]; exact he'
  · rw [upd_ne (Nat.ne_of_lt (lte b hb))]
    exact (hf b hb).1
def iEnumZ (K : PySem.W.Frag) (ta : TA) : TI := fun σ H R => ta σ H fun vs H1 => ∃ a xs, vs = [.ref a] ∧ SqL K H1 a xs ∧ R (IteZ K a) H1
theorem pi_enumZ {X : Cx} {e : Expr} {ta : TA} {p pos tpos : Pos} {elts : List Expr} {kk : Nat} (hg : Gl X "enumerate") (hm : X.mg "enumerate" = none) (ha : PA X [e] ta) (hs : starEach [e] X.env = [(false, eval e X.env)] := by rfl) :
    PI X (.Tuple elts kk tpos) (.Call (.Name "enumerate" p) [e] [] pos) (iEnumZ X.K ta) := by
  constructor
  intro pins s σ H R I h
  refine Call_ (ld_blt I hg hm boot_enumerate (PyProof.Rows.callWith_type1 (thn (ha.run pos pins s σ H _ I h) ?_) hs rfl))
  rintro us s1 ⟨vs, H1, I1, r1, a, xs, rfl, hq, q⟩
  cases r1 with
  | cons r rr =>
    cases rr
    cases r
    obtain ⟨its, rv, p', hz⟩ := I1.list hq
    refine call_enumerate_list p'.isList fun h' he hit hsz hk => wpAny_pyIter_enum he ⟨s1.heap.objs.size + 1, [s1.heap.objs.size + 1, s1.heap.objs.size], _, _, H1, rfl, I1.kept (t' := s1.toks) hk, turn_enumZ a (s1.heap.objs.size + 1) s1.heap.objs.size, ⟨⟨.none, he⟩, hit, Nat.succ_ne_self _⟩, fun b hb => ?_, q⟩
    have hle : s1.heap.objs.size ≤ b := by
      rcases List.mem_cons.mp hb with z | z
      · rw [z]; exact Nat.le_add_right _ _
      · rw [List.mem_singleton.mp z]; exact Nat.le_refl _
    exact I1.fpOk hle (I1.hok.fresh hle)
def ItzZ (K : PySem.W.Frag) (a b : Addr) : It := { Itz K a b with yld := fun i H v H' => ∃ T x y, ∃ ob : Obj, v = .ref T ∧ ob.dict = none ∧ H T = none ∧ H' = upd H T (.frz ob (.tup [x, y])) ∧ (∀ xs, SqL K H a xs → xs[i]? = some x) ∧ ∀ ys, SqL K H b ys → ys[i]? = some y }
theorem turn_zipZ {P : Program} {w : World} {K : PySem.W.Frag} {elts : List Expr} {kk : Nat} {tpos : Pos} {a b z TI TO i1 i2 : Addr} (D : ZipApart z TI TO i1 i2 a b) :
    Turn P w K (.Tuple elts kk tpos) (ItzZ K a b) [z, TI, TO, i1, i2] z (fun i h => IsZip h z TI TO .none ∧ IsPair h TI (.ref i1) (.ref i2) ∧ (∃ x y, IsPair h TO x y) ∧ h.IsListIter i1 a i ∧ h.IsListIter i2 b i) := by
  have B := turn_zip (P := P) (w := w) (K := K) (elts := elts) (kk := kk) (tpos := tpos) D
  refine ⟨B.mem, B.obj, B.keep, ?_, B.done, B.self⟩
  intro X hP hw hK hc i pins s σ H E I hf st hg
  have alls := B.obj i s.heap st
  subst hP hw hK
  obtain ⟨hz, hTI, ⟨x0, y0, hTO⟩, h1, h2⟩ := st
  obtain ⟨xs, ys, x, y, hqx, hqy, hx, hy⟩ := hg
  obtain ⟨its, rv, p, _⟩ := I.list hqx
  obtain ⟨its2, rv2, p2, _⟩ := I.list hqy
  obtain ⟨u, hu, ru⟩ := rv.get hx
  obtain ⟨u2, hu2, ru2⟩ := rv2.get hy
  have lte : ∀ c ∈ [z, TI, TO, i1, i2], c < s.heap.objs.size := fun c hcm => by
    obtain ⟨o, e, _⟩ := alls c hcm
    exact Heap.lt_size e
  refine wpAny_pyNext_zip_item D hz hTI hTO h1 h2 p.isList p2.isList (x := u) (y := u2) (by simpa using hu) (by simpa using hu2) fun h' z' TO' h1' h2' hT hsz hk => ?_
  refine ⟨_, rfl, wpAny_letOwnedTupleGo_zip (s := { s with heap := h' }) z' fun h'' z'' sb => ?_⟩
  have hT2 : h''.get? s.heap.objs.size = some { cls := .type "tuple", data := .seq #[u, u2] } := (sb.2 _ (Nat.ne_of_gt (lte z (by simp)))).trans hT
  have fr : ∀ c o, c ∉ [z, TI, TO, i1, i2] → s.heap.get? c = some o → h''.get? c = some o := fun c o hb q => (sb.2 c (fun q' => hb (by simp [q']))).trans (hk c o (fun q' => hb (by simp [q'])) (fun q' => hb (by simp [q'])) (fun q' => hb (by simp [q'])) (fun q' => hb (by simp [q'])) q)
  have new : ObjOk X.prog X.w (upd H s.heap.objs.size (.frz { cls := .type "tuple", data := .seq #[u, u2] } (.tup [x, y]))) h'' s.heap.objs.size (.frz { cls := .type "tuple", data := .seq #[u, u2] } (.tup [x, y])) :=
    ⟨hT2, by show 2 ≤ sizeLine; decide, [u, u2], .cons ru (.cons ru2 .nil), ⟨_, hT2, rfl, _, rfl⟩⟩
  refine ⟨.ref s.heap.objs.size, _, I.turnedNew (t' := s.toks) (ch := [z, TI, TO, i1, i2]) fr hf (Nat.le_refl _) new, rfl, ⟨s.heap.objs.size, x, y, _, rfl, rfl, I.hok.fresh (Nat.le_refl _), rfl, fun l hl => by rw [I.list_inj hl hqx]; exact hx, fun l hl => by rw [I.list_inj hl hqy]; exact hy⟩,
    ⟨z'', (sb.2 _ D.TIz).trans (hk _ _ D.TIz D.TITO D.TIi1 D.TIi2 hTI), ⟨u, u2, (sb.2 _ D.TOz).trans TO'⟩, h1'.at fun o q => (sb.2 _ D.i1z).trans q, h2'.at fun o q => (sb.2 _ D.i2z).trans q⟩, fun c hcm => ?_⟩
  rw [upd_ne (Nat.ne_of_lt (lte c hcm))]
  exact (hf c hcm).1
def iZipZ (K : PySem.W.Frag) (ta : TA) : TI := fun σ H R => ta σ H fun vs H1 => ∃ a b xs ys, vs = [.ref a, .ref b] ∧ SqL K H1 a xs ∧ SqL K H1 b ys ∧ R (ItzZ K a b) H1
theorem pi_zipZ {X : Cx} {e e2 : Expr} {ta : TA} {p pos tpos : Pos} {elts : List Expr} {kk : Nat} (hg : Gl X "zip") (hm : X.mg "zip" = none) (ha : PA X [e, e2] ta)
    (hs : starEach [e, e2] X.env = (false, eval e X.env) :: starEach [e2] X.env := by rfl) (hpl : (backTo pos (starEach [e2] X.env)).any (·.1) = false := by rfl) :
    PI X (.Tuple elts kk tpos) (.Call (.Name "zip" p) [e, e2] [] pos) (iZipZ X.K ta) := by
  constructor
  intro pins s σ H R I h
  refine Call_ (ld_blt I hg hm PyProof.Rows.boot_zip (PyProof.Rows.callWith_type1 (thn (ha.run pos pins s σ H _ I h) ?_) hs hpl))
  rintro us s1 ⟨vs, H1, I1, r1, a, b, xs, ys, rfl, hqx, hqy, q⟩
  cases r1 with
  | cons r rr =>
    cases rr with
    | cons r' rr =>
      cases rr
      cases r
      cases r'
      obtain ⟨its, rv, p1, _⟩ := I1.list hqx
      obtain ⟨its2, rv2, p2, _⟩ := I1.list hqy
      refine call_zip_2 p1.isList p2.isList fun h' hz hTI hTO h1 h2 hsz hk => wpAny_pyIter_zip hz ⟨s1.heap.objs.size + 4, [s1.heap.objs.size + 4, s1.heap.objs.size + 2, s1.heap.objs.size + 3, s1.heap.objs.size, s1.heap.objs.size + 1], _, _, H1, rfl, I1.kept (t' := s1.toks) hk,
        turn_zipZ (PySem.W.ktu_apart s1.heap.objs.size a b p1.lt p2.lt), ⟨hz, hTI, ⟨_, _, hTO⟩, h1, h2⟩, fun c hcm => ?_, q⟩
      have hle : s1.heap.objs.size ≤ c := by
        simp only [List.mem_cons, List.not_mem_nil, or_false] at hcm
        rcases hcm with e | e | e | e | e <;> (rw [e]; first | exact Nat.le_refl _ | exact Nat.le_add_right _ _)
      exact I1.fpOk hle (I1.hok.fresh hle)
end U
/-! U7: what is walked: lists, tuples, ranges, texts, enumerate, zip; for loops. -/
namespace U
open PySem PySem.Spec PyProof.Rows L2
/-! ### enumerate of anything that begins -/
theorem meets_enum_one {v : Value} {o : Obj} {G : Heap → Prop} (B : Begins v o G) :
    Meets (Builtin.«enumerate.__new__» ⟨[.type "enumerate", v], []⟩) (fun _ R s => G s.heap ∧
      R (.ok (.ret (.ref (s.heap.push o).objs.size))) { s with heap := (s.heap.push o).push { cls := .type "enumerate", data := .fields #[.none, .bool false, .ref s.heap.objs.size, rawInt 0, .none, .none] } }) := by
  apply Meets.of_wp
  rintro prog w A R ⟨hp, g, d, tk, os⟩ ⟨h1, h⟩
  have hsub := sub_enumerate
  have q2 : ∀ {A' : Around} {E : Value → Shared → Prop} {Q : Value → Shared → Prop}, Q (.ref hp.objs.size) ⟨hp.push o, g, d, tk, os⟩ → wpAny (model prog w) A' (pyIter v) Q E ⟨hp, g, d, tk, os⟩ := fun q => B.iter prog w _ _ ⟨hp, g, d, tk, os⟩ _ h1 q
  wp_walk using q2
  apply wpAny_stack_any
  intro st
  apply wpAny_pure
  split
  · rename_i c _ _ _ _ _
    cases (c == Value.type "enumerate") <;> (wp_walk using q2; exact ⟨_, rfl, h⟩)
  · wp_walk using q2
    exact ⟨_, rfl, h⟩
theorem enum_one {prog : Program} {w : World} {A : Around} {E : Value → Shared → Prop} {s : Shared} {v : Value} {o : Obj} {G : Heap → Prop} {Q : Value → Shared → Prop} (B : Begins v o G) (h1 : G s.heap)
    (h : ∀ h', IsEnum h' (s.heap.objs.size + 1) s.heap.objs.size 0 .none → h'.get? s.heap.objs.size = some o → (∀ b o, s.heap.get? b = some o → h'.get? b = some o) → Q (.ref (s.heap.objs.size + 1)) { s with heap := h' }) :
    wpAny (model prog w) A (call (.type "enumerate") [v]) Q E s := by
  apply callType_new F.called_enumerate (by decide) (F.typeCall_enumerate_1 _) (F.newCall_enumerate_1 _) (fun obj => F.args_object_init_2 obj _) F.entry_enumerate_new (meets_enum_one B)
  have hz : (s.heap.push o).objs.size = s.heap.objs.size + 1 := Heap.size_push ..
  refine ⟨h1, ?_⟩
  have he := Heap.get?_push_size (s.heap.push o) (o := { cls := .type "enumerate", data := .fields #[.none, .bool false, .ref s.heap.objs.size, rawInt 0, .none, .none] }) rfl
  rw [hz] at he ⊢
  exact ⟨⟨_, he, rfl⟩, h _ he (Heap.get?_push_of_some _ (Heap.get?_push_size _ B.free)) fun b u x => Heap.get?_push_of_some _ (Heap.get?_push_of_some _ x)⟩
/-- a tuple's items with their numbers, in new pairs -/
def IteT (K : PySem.W.Frag) (a : Addr) : It :=
  ⟨fun i H => ∃ (xs : List V) (x : V), SqT K H a xs ∧ xs[i]? = some x, fun i H v H' => ∃ t x, ∃ ob : Obj, v = .ref t ∧ ob.dict = none ∧ H t = none ∧ H' = upd H t (.frz ob (.tup [.int (i : Nat), x])) ∧ ∀ xs, SqT K H a xs → xs[i]? = some x, fun i H => ∃ xs : List V, SqT K H a xs ∧ xs.length ≤ i⟩
theorem turn_enumT {P : Program} {w : World} {K : PySem.W.Frag} {elts : List Expr} {kk : Nat} {tpos : Pos} (a e it : Addr) :
    Turn P w K (.Tuple elts kk tpos) (IteT K a) [e, it] e (fun i h => (∃ old, IsEnum h e it (i : Int) old) ∧ h.IsTupleIter it a i ∧ e ≠ it ∧ a ≠ it ∧ a ≠ e) := by
  have two : ∀ {b : Addr} {p : Addr → Prop}, p e → p it → b ∈ [e, it] → p b := fun {b p} h1 h2 hb => by
    rcases List.mem_cons.mp hb with z | z
    · rw [z]; exact h1
    · rw [List.mem_singleton.mp z]; exact h2
  have off : ∀ {a' : Addr}, e ≠ it → a ≠ e → e ∉ [it, a] := fun n1 n3 z => by
    rcases List.mem_cons.mp z with z | z
    · exact n1 z
    · exact n3 (List.mem_singleton.mp z).symm
  constructor
  · simp
  · rintro i h ⟨⟨old, he⟩, ⟨o, ho, hc, hd⟩, _⟩ b hb
    exact two (p := fun b => ∃ o, h.get? b = some o ∧ ∀ v, o.data ≠ .cell v) ⟨_, he, fun v q => nomatch q⟩ ⟨o, ho, fun v q => by rw [hd] at q; cases q⟩ hb
  · rintro i h h' ⟨⟨old, he⟩, hi, r⟩ k
    exact ⟨⟨old, k e (by simp) _ he⟩, hi.at fun o q => k it (by simp) o q, r⟩
  · intro X hP hw hK hc i pins s σ H E I hf st hg
    subst hP hw hK
    obtain ⟨⟨old, he⟩, hit, n1, n2, n3⟩ := st
    obtain ⟨xs, x, hq, hx⟩ := hg
    obtain ⟨its, rv, p, hz⟩ := I.tuple hq
    obtain ⟨u, hu, ru⟩ := rv.get hx
    have hi : i < its.toArray.size := by simpa using (List.getElem?_eq_some_iff.mp hu).1
    have hel : e < s.heap.objs.size := Heap.lt_size he
    have hil : it < s.heap.objs.size := by obtain ⟨_, q, _⟩ := hit; exact Heap.lt_size q
    refine wpAny_pyNext_enum_itemD (Draws.tuple (prog := X.prog) (w := X.w) (A := X.A.in1) (I.ok.hd hc) it a n2 its.toArray) he ⟨hit, p⟩ hi n1 (off (a' := a) n1 n3) fun y h' tk hy ho hst hT hsz hk => ?_
    have ey : y = u := Option.some.inj ((show its[i]? = some y by simpa using hy).symm.trans hu)
    subst ey
    refine ⟨_, rfl, wpAny_letOwnedTupleGo_enum (s := { s with heap := h', toks := tk + 1 }) ho fun h'' he' sb => ?_⟩
    have hT2 := (sb.2 _ (Nat.ne_of_gt hel)).trans hT
    have new : ∀ ob : Obj, h''.get? s.heap.objs.size = some ob → ob.cls = .type "tuple" → ob.data = .seq #[.int i tk, y] 0 ∨ (∃ n, ob.data = .seq [.int i tk, y].toArray n) → ObjOk X.prog X.w (upd H s.heap.objs.size (.frz ob (.tup [.int (i : Nat), x]))) h'' s.heap.objs.size (.frz ob (.tup [.int (i : Nat), x])) := fun ob e1 e2 e3 =>
      ⟨e1, by show 2 ≤ sizeLine; decide, [.int i tk, y], .cons ⟨_, rfl⟩ (.cons ru .nil), ⟨ob, e1, e2, e3.elim (fun z => ⟨0, z⟩) id⟩⟩
    have new := new _ hT2 rfl (.inr ⟨_, rfl⟩)
    have I1 := I.turnedNew (t' := tk + 1) (ch := [e, it]) (fun b ob hb q => (sb.2 b (fun z => hb (by simp [z]))).trans (hk b ob (fun z => hb (by simp [z])) (fun z => hb (by simp [z])) q)) hf (Nat.le_refl _) new
    refine ⟨.ref s.heap.objs.size, _, I1, rfl, ⟨_, x, _, rfl, rfl, I.hok.fresh (Nat.le_refl _), rfl, fun ys hy => by rw [I.tuple_inj hy hq]; exact hx⟩, ⟨⟨y, ?_⟩, hst.1.at fun o q => (sb.2 it (Ne.symm n1)).trans q, n1, n2, n3⟩, fun b hb => ?_⟩
    · rw [show ((i + 1 : Nat) : Int) = (i : Int) + 1 by omega]; exact he'
    · rw [upd_ne (Nat.ne_of_lt (two (p := fun b => b < s.heap.objs.size) hel hil hb))]
      exact (hf b hb).1
  · intro X hP hw hK hc i pins s σ H E I hf st hg
    subst hP hw hK
    obtain ⟨⟨old, he⟩, hit, n1, n2, n3⟩ := st
    obtain ⟨xs, hq, hx⟩ := hg
    obtain ⟨its, rv, p, hz⟩ := I.tuple hq
    obtain ⟨f0, f1, f2, f3, f4, f5⟩ := hf it (by simp)
    have hl := rv.length
    have hle : its.toArray.size ≤ i := by simp; omega
    refine wpAny_pyNext_enum_endD (e := e) (n := i) (St := fun j h => i ≤ j ∧ h.IsTupleIter it a i ∧ h.IsTuple a its.toArray) (P := fun _ _ => True) (fp := [it, a]) ⟨fun _ _ st => let ⟨o, ho, _⟩ := st.2.1; ⟨o, ho⟩, fun _ _ _ st hk => ⟨st.1, st.2.1.at fun o e => hk it (by simp) o e, st.2.2.at fun o e => hk a (by simp) o e⟩, fun j s Q E hi st hQ => absurd hi (Nat.not_lt.mpr st.1), fun s Q E st hE => wpAny_nextOf_tuple_end (I.ok.hd hc) st.2.1 st.2.2 (by simp; omega) hE⟩ he ⟨Nat.le_refl _, hit, p⟩ fun h' eb => ⟨rfl, I.turned (t' := s.toks) (fun b o hb q => eb b o hb q) f0 f1 f3 f4 f5⟩
  · rintro A i s Q E ⟨⟨_, he⟩, _⟩ h
    exact wpAny_pyIter_enum he h
def iEnumT (K : PySem.W.Frag) (ta : TA) : TI := fun σ H R => ta σ H fun vs H1 => ∃ a xs, vs = [.ref a] ∧ SqT K H1 a xs ∧ R (IteT K a) H1
theorem pi_enumT {X : Cx} {e : Expr} {ta : TA} {p pos tpos : Pos} {elts : List Expr} {kk : Nat} (hg : Gl X "enumerate") (hm : X.mg "enumerate" = none) (ha : PA X [e] ta) (hs : starEach [e] X.env = [(false, eval e X.env)] := by rfl) :
    PI X (.Tuple elts kk tpos) (.Call (.Name "enumerate" p) [e] [] pos) (iEnumT X.K ta) := by
  constructor
  intro pins s σ H R I h
  refine Call_ (ld_blt I hg hm boot_enumerate (PyProof.Rows.callWith_type1 (thn (ha.run pos pins s σ H _ I h) ?_) hs rfl))
  rintro us s1 ⟨vs, H1, I1, r1, a, xs, rfl, hq, q⟩
  cases r1 with
  | cons r rr =>
    cases rr
    cases r
    obtain ⟨its, rv, p', hz⟩ := I1.tuple hq
    have ha : a < s1.heap.objs.size := by obtain ⟨o, e, _⟩ := p'; exact Heap.lt_size e
    refine enum_one (begins_tuple a its.toArray) p' fun h' he hit hk => wpAny_pyIter_enum he ?_
    have I2 : Inv X pins σ H1 { s1 with heap := h' } := I1.kept (t' := s1.toks) hk
    refine ⟨s1.heap.objs.size + 1, [s1.heap.objs.size + 1, s1.heap.objs.size], _, _, H1, rfl, I2, turn_enumT a (s1.heap.objs.size + 1) s1.heap.objs.size, ⟨⟨.none, he⟩, ⟨_, hit, rfl, rfl⟩, Nat.succ_ne_self _, Nat.ne_of_lt ha, Nat.ne_of_lt (Nat.lt_succ_of_lt ha)⟩, fun b hb => ?_, q⟩
    have hle : s1.heap.objs.size ≤ b := by
      rcases List.mem_cons.mp hb with z | z
      · rw [z]; exact Nat.le_add_right _ _
      · rw [List.mem_singleton.mp z]; exact Nat.le_refl _
    exact I1.fpOk hle (I1.hok.fresh hle)
/-! ### what is walked, over data -/
structure wpI (X : Cx) (tg iter : Expr) (σ : Sw) (H : Hw) (R : It → Hw → Prop) : Prop where
  run : ∀ (pins : List (Addr × Obj)) (s : Shared), Inv X pins σ H s →
  wpAny (model X.prog X.w) X.A (eval iter X.env) (fun v s1 => wpAny (model X.prog X.w) X.A (pyIter v) (PIE X pins σ tg R) X.xe s1) X.xe s
theorem selfI {X : Cx} {tg iter : Expr} : PI X tg iter (wpI X tg iter) := ⟨fun pins s _ _ _ I h => h.run pins s I⟩
theorem outI {X : Cx} {tg iter : Expr} {σ : Sw} {H : Hw} {t : TI} {R : It → Hw → Prop} (h : PI X tg iter t) (q : t σ H R) : wpI X tg iter σ H R := ⟨fun pins s I => h.run pins s σ H R I q⟩
/-- as Step, but what stands in M0 may change -/
structure StepM (M0 : Ex) (U : Vol) (σ : Sw) (Γ : Ga) (H : Hw) (σ' : Sw) (Γ' : Ga) (H' : Hw) : Prop where
  fr : ∀ a o, ¬ U.T a → ¬ Ow σ Γ a → ¬ M0 a → H a = some o → H' a = some o
  og : ∀ a, Ow σ' Γ' a → Ow σ Γ a ∨ H a = none
theorem Step.m {M0 : Ex} {U : Vol} {σ σ1 : Sw} {Γ Γ1 : Ga} {H H1 : Hw} (s : Step U σ Γ H σ1 Γ1 H1) : StepM M0 U σ Γ H σ1 Γ1 H1 := ⟨fun a o t n _ e => s.fr a o t n e, s.og⟩
theorem StepM.goesM {U : Vol} {M M1 : Ex} {σ σ1 : Sw} {Γ Γ1 : Ga} {H H1 : Hw} (er : ER U M H σ Γ) (hM : ∀ a, M1 a → M a ∨ H a = none) (s : StepM M U σ Γ H σ1 Γ1 H1) : Goes (Mx M σ Γ) (Mx M1 σ1 Γ1) H H1 := ⟨fun a o m e => ⟨s.fr a o (fun t => m (.inl (er.tm a t))) (fun z => m (.inr z)) (fun z => m (.inl z)) e, fun z => by
  rcases z with z | z
  · rcases hM a z with z | z
    · exact m (.inl z)
    · rw [e] at z; cases z
  · rcases s.og a z with z | z
    · exact m (.inr z)
    · rw [e] at z; cases z⟩⟩
/-- J walks xs, wherever what stood at (σ, Γ, H) still stands -/
structure Src (c : Co) (σ : Sw) (Γ : Ga) (H : Hw) (J : It) (xs : List D) : Prop where
  go : ∀ i (M : Ex) σ1 Γ1 H1, (∀ a, M a → c.M a ∨ H a = none) → StepM c.M c.U σ Γ H σ1 Γ1 H1 → ER c.U M H1 σ1 Γ1 → i < xs.length → J.go i H1
  stop : ∀ (M : Ex) σ1 Γ1 H1, (∀ a, M a → c.M a ∨ H a = none) → StepM c.M c.U σ Γ H σ1 Γ1 H1 → ER c.U M H1 σ1 Γ1 → J.stop xs.length H1
  yld : ∀ i (M : Ex) σ1 Γ1 H1 v H2, (∀ a, M a → c.M a ∨ H a = none) → StepM c.M c.U σ Γ H σ1 Γ1 H1 → ER c.U M H1 σ1 Γ1 → i < xs.length → J.yld i H1 v H2 → Grow H1 H2 ∧ ∃ d, xs[i]? = some d ∧ Rp (Mx M σ1 Γ1) H2 v d
def Iv (c : Co) (tg iter : Expr) (Γ : Ga) (P : List D → Ga → Prop) : Prop := ∀ (σ : Sw) (H : Hw), ER c.U c.M H σ Γ → ∀ (R : It → Hw → Prop) (W : WX), Takes c.X W → XW c σ Γ H W →
  (∀ J xs Γ' H', Go c σ Γ H Γ' H' → Src c σ Γ' H' J xs → P xs Γ' → R J H') → wpI c.X tg iter σ H R
/-- data of before, now -/
theorem Step.goesM {U : Vol} {M M1 : Ex} {σ σ1 : Sw} {Γ Γ1 : Ga} {H H1 : Hw} (er : ER U M H σ Γ) (hM : ∀ a, M1 a → M a ∨ H a = none) (s : Step U σ Γ H σ1 Γ1 H1) : Goes (Mx M σ Γ) (Mx M1 σ1 Γ1) H H1 := ⟨fun a o m e => ⟨s.fr a o (fun t => m (.inl (er.tm a t))) (fun z => m (.inr z)) e, fun z => by
  rcases z with z | z
  · rcases hM a z with z | z
    · exact m (.inl z)
    · rw [e] at z; cases z
  · rcases s.og a z with z | z
    · exact m (.inr z)
    · rw [e] at z; cases z⟩⟩
theorem Step.goes {c : Co} {σ σ1 : Sw} {Γ Γ1 : Ga} {H H1 : Hw} (er : ER c.U c.M H σ Γ) (s : Step c.U σ Γ H σ1 Γ1 H1) : Goes (Mx c.M σ Γ) (Mx c.M σ1 Γ1) H H1 := s.goesM er fun _ h => .inl h
section
variable {c : Co} {Γ : Ga} {P : List D → Ga → Prop} {tg e : Expr} {es : List Expr} {pos p : Pos}
theorem sql_of {K : PySem.W.Frag} {H : Hw} {a : Addr} {xs : List V} (h : H a = some (.lst xs)) : SqL K H a xs := .inl (.inl h)
theorem src_list {σ : Sw} {H : Hw} {a : Addr} {vs : List V} {xs : List D} (er : ER c.U c.M H σ Γ) (h : H a = some (.lst vs)) (m : ¬ Mx c.M σ Γ a) (r : RpA (Mx c.M σ Γ) H vs xs) : Src c σ Γ H (Itl c.X.K a) xs := by
  have keep : ∀ σ1 Γ1 H1, StepM c.M c.U σ Γ H σ1 Γ1 H1 → H1 a = some (.lst vs) := fun σ1 Γ1 H1 s => s.fr a _ (fun t => m (.inl (er.tm a t))) (fun z => m (.inr z)) (fun z => m (.inl z)) h
  have W := walk_list (K := c.X.K) (a := a) (xs := vs)
  refine ⟨fun i M1 σ1 Γ1 H1 hM s _ hi => W.goes i H1 (by rw [r.length]; exact hi) (sql_of (keep _ _ _ s)), fun M1 σ1 Γ1 H1 hM s _ => by rw [← r.length]; exact W.stops H1 (sql_of (keep _ _ _ s)), fun i M1 σ1 Γ1 H1 v H2 hM s e1 hi y => ?_⟩
  obtain ⟨e2, y2⟩ := W.yields i H1 v H2 (by rw [r.length]; exact hi) (sql_of (keep _ _ _ s)) y
  subst e2
  obtain ⟨d, hd, rd⟩ := r.atv y2
  exact ⟨Grow.refl _, d, hd, Rp.to (s.goesM er hM) _ _ rd⟩
theorem src_tup {σ : Sw} {H : Hw} {a : Addr} {vs : List V} {xs : List D} (er : ER c.U c.M H σ Γ) (h : TupAt H a vs) (m : ¬ Mx c.M σ Γ a) (r : RpA (Mx c.M σ Γ) H vs xs) : Src c σ Γ H (Itt c.X.K a) xs := by
  have keep : ∀ σ1 Γ1 H1, StepM c.M c.U σ Γ H σ1 Γ1 H1 → TupAt H1 a vs := fun σ1 Γ1 H1 s => h.elim fun o h => ⟨o, s.fr a _ (fun t => m (.inl (er.tm a t))) (fun z => m (.inr z)) (fun z => m (.inl z)) h.1, h.2⟩
  have W := walk_tup (K := c.X.K) (a := a) (xs := vs)
  refine ⟨fun i M1 σ1 Γ1 H1 hM s _ hi => W.goes i H1 (by rw [r.length]; exact hi) (sqt_of (keep _ _ _ s)), fun M1 σ1 Γ1 H1 hM s _ => by rw [← r.length]; exact W.stops H1 (sqt_of (keep _ _ _ s)), fun i M1 σ1 Γ1 H1 v H2 hM s e1 hi y => ?_⟩
  obtain ⟨e2, y2⟩ := W.yields i H1 v H2 (by rw [r.length]; exact hi) (sqt_of (keep _ _ _ s)) y
  subst e2
  obtain ⟨d, hd, rd⟩ := r.atv y2
  exact ⟨Grow.refl _, d, hd, Rp.to (s.goesM er hM) _ _ rd⟩
theorem iv_list (h : Ev c e Γ fun d Γ1 => ∃ xs, d = .lst xs ∧ P xs Γ1) : Iv c tg e Γ P := fun σ H er R W tk xw q =>
  outI (pi_list selfE) (h σ H er _ W tk xw fun v d Γ1 H1 g p ⟨xs, e, hp⟩ => by
    subst e
    cases p with
    | lst h1 h2 h3 => exact ⟨_, rfl, ⟨_, sql_of h1⟩, q _ xs Γ1 H1 g (src_list g.er h1 h2 h3) hp⟩)
theorem iv_tup (h : Ev c e Γ fun d Γ1 => ∃ xs, d = .tup xs ∧ P xs Γ1) : Iv c tg e Γ P := fun σ H er R W tk xw q =>
  outI (pi_tup selfE) (h σ H er _ W tk xw fun v d Γ1 H1 g p ⟨xs, e, hp⟩ => by
    subst e
    cases p with
    | tup h1 h2 h3 => exact ⟨_, rfl, ⟨_, sqt_of h1⟩, q _ xs Γ1 H1 g (src_tup g.er h1 h2 h3) hp⟩)
/-- the ints lo, lo + 1, .. -/
def rangeD (lo : Int) (n : Nat) : List D := (List.range n).map fun i => D.int (lo + (i : Nat))
theorem rangeD_length (lo : Int) (n : Nat) : (rangeD lo n).length = n := by simp [rangeD]
theorem rangeD_at {lo : Int} {n i : Nat} (h : i < n) : (rangeD lo n)[i]? = some (.int (lo + (i : Nat))) := by simp [rangeD, h]
theorem src_range {σ : Sw} {H : Hw} (lo : Int) (n : Nat) : Src c σ Γ H (Itr lo n) (rangeD lo n) := by
  have W := walk_range (lo := lo) (n := n)
  refine ⟨fun i M1 σ1 Γ1 H1 hM s _ hi => W.goes i H1 (by rw [rangeD_length] at hi; exact hi) trivial, fun M1 σ1 Γ1 H1 hM s _ => by rw [rangeD_length]; exact W.stops H1 trivial, fun i M1 σ1 Γ1 H1 v H2 hM s e1 hi y => ?_⟩
  rw [rangeD_length] at hi
  obtain ⟨e2, y2⟩ := W.yields i H1 v H2 hi trivial y
  subst e2
  subst y2
  exact ⟨Grow.refl _, _, rangeD_at hi, .int _⟩
theorem iv_range1 (hm : c.X.mg "range" = none) (h : Ev c e Γ fun d Γ1 => ∃ n, d = .int n ∧ n < 2 ^ 60 ∧ -(2 ^ 60) ≤ n ∧ P (rangeD 0 n.toNat) Γ1) (hg : Gl c.X "range") (hs : starEach [e] c.X.env = [(false, eval e c.X.env)] := by rfl) : Iv c tg (.Call (.Name "range" p) [e] [] pos) Γ P := fun σ H er R W tk xw q =>
  outI (pi_range1 hg hm (pa_cons selfE pa_nil hs) hs) (h σ H er _ W tk xw fun v d Γ1 H1 g p ⟨n, e, h1, h2, hp⟩ => by
    subst e
    cases p
    exact ⟨n, rfl, by omega, by omega, q _ _ Γ1 H1 g (src_range 0 n.toNat) hp⟩)
theorem iv_range2 {e2 : Expr} (hm : c.X.mg "range" = none) (h : Ev c e Γ fun d Γ1 => ∃ lo, d = .int lo ∧ Ev c e2 Γ1 fun d2 Γ2 => ∃ n, d2 = .int n ∧ (-(2 ^ 60) ≤ lo ∧ lo < 2 ^ 60 ∧ n < 2 ^ 60 ∧ -(2 ^ 60) ≤ n) ∧ P (rangeD lo (n - lo).toNat) Γ2) (hg : Gl c.X "range") (hs : starEach [e, e2] c.X.env = [(false, eval e c.X.env), (false, eval e2 c.X.env)] := by rfl) (hs2 : starEach [e2] c.X.env = [(false, eval e2 c.X.env)] := by rfl) : Iv c tg (.Call (.Name "range" p) [e, e2] [] pos) Γ P := fun σ H er R W tk xw q =>
  outI (pi_range2 hg hm (pa_cons selfE (pa_cons selfE pa_nil hs2) (by rw [hs, hs2])) hs hs2) (h σ H er _ W tk xw fun v d Γ1 H1 g p ⟨lo, e, h2⟩ => by
    subst e
    cases p
    refine h2 σ H1 g.er _ W tk (xw.on g.er g.st) fun v2 d2 Γ2 H2 g2 p2 ⟨n, e, h3, hp⟩ => ?_
    subst e
    cases p2
    exact ⟨lo, n, rfl, ⟨by omega, by omega, by omega, by omega⟩, q _ _ Γ2 H2 (g.trans g2) (src_range lo _) hp⟩)
/-- items with their numbers -/
def enumD (xs : List D) : List D := xs.zipIdx.map fun x => .tup [.int (x.2 : Nat), x.1]
theorem enumD_length (xs : List D) : (enumD xs).length = xs.length := by simp [enumD]
theorem enumD_at {xs : List D} {i : Nat} {x : D} (h : xs[i]? = some x) : (enumD xs)[i]? = some (.tup [.int (i : Nat), x]) := by simp [enumD, h]
theorem iv_enumT (hm : c.X.mg "enumerate" = none) {elts : List Expr} {kk : Nat} {tpos : Pos} (h : Ev c e Γ fun d Γ1 => ∃ xs, d = .tup xs ∧ P (enumD xs) Γ1) (hg : Gl c.X "enumerate") (hs : starEach [e] c.X.env = [(false, eval e c.X.env)] := by rfl) : Iv c (.Tuple elts kk tpos) (.Call (.Name "enumerate" p) [e] [] pos) Γ P := fun σ H er R W tk xw q =>
  outI (pi_enumT hg hm (pa_cons selfE pa_nil hs) hs) (h σ H er _ W tk xw fun v d Γ1 H1 g p ⟨xs, e, hp⟩ => by
    subst e
    cases p with
    | @tup a vs _ h1 h2 r =>
      have keep : ∀ σ1 Γ1' H2, StepM c.M c.U σ Γ1 H1 σ1 Γ1' H2 → TupAt H2 a vs := fun σ1 Γ1' H2 s => h1.elim fun o h1 => ⟨o, s.fr a _ (fun t => h2 (.inl (g.er.tm a t))) (fun z => h2 (.inr z)) (fun z => h2 (.inl z)) h1.1, h1.2⟩
      refine ⟨a, vs, rfl, sqt_of h1, q _ _ Γ1 H1 g ⟨fun i M1 σ1 Γ1' H2 hM s _ hi => ?_, fun M1 σ1 Γ1' H2 hM s _ => ?_, fun i M1 σ1 Γ1' H2 v H3 hM s e1 hi y => ?_⟩ hp⟩
      · rw [enumD_length, ← r.length] at hi
        exact ⟨vs, vs[i], sqt_of (keep _ _ _ s), by simp [hi]⟩
      · rw [enumD_length, ← r.length]
        exact ⟨vs, sqt_of (keep _ _ _ s), Nat.le_refl _⟩
      · obtain ⟨t, x, ob, rfl, od, ht, rfl, hx⟩ := y
        obtain ⟨d, hd, rd⟩ := r.atv (hx vs (sqt_of (keep _ _ _ s)))
        have gr : Grow H2 (upd H2 t (.frz ob (.tup [.int (i : Nat), x]))) := Grow.new ht
        exact ⟨gr, _, enumD_at hd, .tup (tupAt_upd od) (fun z => e1.mx t z ht) (.cons (.int _) (.cons (Rp.to gr.goes _ _ (Rp.to (s.goesM g.er hM) _ _ rd)) .nil))⟩)
theorem iv_enumL (hm : c.X.mg "enumerate" = none) {elts : List Expr} {kk : Nat} {tpos : Pos} (h : Ev c e Γ fun d Γ1 => ∃ xs, d = .lst xs ∧ P (enumD xs) Γ1) (hg : Gl c.X "enumerate") (hs : starEach [e] c.X.env = [(false, eval e c.X.env)] := by rfl) : Iv c (.Tuple elts kk tpos) (.Call (.Name "enumerate" p) [e] [] pos) Γ P := fun σ H er R W tk xw q =>
  outI (pi_enumZ hg hm (pa_cons selfE pa_nil hs) hs) (h σ H er _ W tk xw fun v d Γ1 H1 g p ⟨xs, e, hp⟩ => by
    subst e
    cases p with
    | @lst a vs _ h1 h2 r =>
      have keep : ∀ σ1 Γ1' H2, StepM c.M c.U σ Γ1 H1 σ1 Γ1' H2 → H2 a = some (.lst vs) := fun σ1 Γ1' H2 s => s.fr a _ (fun t => h2 (.inl (g.er.tm a t))) (fun z => h2 (.inr z)) (fun z => h2 (.inl z)) h1
      refine ⟨a, vs, rfl, sql_of h1, q _ _ Γ1 H1 g ⟨fun i M1 σ1 Γ1' H2 hM s _ hi => ?_, fun M1 σ1 Γ1' H2 hM s _ => ?_, fun i M1 σ1 Γ1' H2 v H3 hM s e1 hi y => ?_⟩ hp⟩
      · rw [enumD_length, ← r.length] at hi
        exact ⟨vs, vs[i], sql_of (keep _ _ _ s), by simp [hi]⟩
      · rw [enumD_length, ← r.length]
        exact ⟨vs, sql_of (keep _ _ _ s), Nat.le_refl _⟩
      · obtain ⟨t, x, ob, rfl, od, ht, rfl, hx⟩ := y
        obtain ⟨d, hd, rd⟩ := r.atv (hx vs (sql_of (keep _ _ _ s)))
        have gr : Grow H2 (upd H2 t (.frz ob (.tup [.int (i : Nat), x]))) := Grow.new ht
        exact ⟨gr, _, enumD_at hd, .tup (tupAt_upd od) (fun z => e1.mx t z ht) (.cons (.int _) (.cons (Rp.to gr.goes _ _ (Rp.to (s.goesM g.er hM) _ _ rd)) .nil))⟩)
/-- zip of two lists -/
def zipD (xs ys : List D) : List D := (xs.zip ys).map fun x => .tup [x.1, x.2]
theorem zipD_at {xs ys : List D} {i : Nat} {x y : D} (h : xs[i]? = some x) (h' : ys[i]? = some y) : (zipD xs ys)[i]? = some (.tup [x, y]) := by
  have e : (xs.zip ys)[i]? = some (x, y) := by rw [List.getElem?_zip_eq_some]; exact ⟨h, h'⟩
  simp [zipD, e]
theorem iv_zipL {e2 : Expr} (hm : c.X.mg "zip" = none) {elts : List Expr} {kk : Nat} {tpos : Pos} (h : Av c [e, e2] Γ fun ds Γ1 => ∃ xs ys, ds = [.lst xs, .lst ys] ∧ P (zipD xs ys) Γ1) (hg : Gl c.X "zip")
    (hs : starEach [e, e2] c.X.env = (false, eval e c.X.env) :: starEach [e2] c.X.env := by rfl) (hpl : (backTo pos (starEach [e2] c.X.env)).any (·.1) = false := by rfl) : Iv c (.Tuple elts kk tpos) (.Call (.Name "zip" p) [e, e2] [] pos) Γ P := fun σ H er R W tk xw q =>
  outI (pi_zipZ hg hm selfA hs hpl) (h σ H er _ W tk xw fun ws ds Γ1 H1 g p ⟨xs, ys, e, hp⟩ => by
    subst e
    cases p with
    | cons p1 p2 =>
      cases p2 with
      | cons p2 p3 =>
        cases p3
        cases p1 with
        | @lst a vs _ h1 h2 r =>
          cases p2 with
          | @lst b us _ h1' h2' r' =>
            have keep : ∀ σ1 Γ1' H2, StepM c.M c.U σ Γ1 H1 σ1 Γ1' H2 → H2 a = some (.lst vs) := fun σ1 Γ1' H2 s => s.fr a _ (fun t => h2 (.inl (g.er.tm a t))) (fun z => h2 (.inr z)) (fun z => h2 (.inl z)) h1
            have keep' : ∀ σ1 Γ1' H2, StepM c.M c.U σ Γ1 H1 σ1 Γ1' H2 → H2 b = some (.lst us) := fun σ1 Γ1' H2 s => s.fr b _ (fun t => h2' (.inl (g.er.tm b t))) (fun z => h2' (.inr z)) (fun z => h2' (.inl z)) h1'
            have ln : (zipD xs ys).length = min vs.length us.length := by simp [zipD, r.length, r'.length]
            refine ⟨a, b, vs, us, rfl, sql_of h1, sql_of h1', q _ _ Γ1 H1 g ⟨fun i M1 σ1 Γ1' H2 hM s _ hi => ?_, fun M1 σ1 Γ1' H2 hM s _ => ?_, fun i M1 σ1 Γ1' H2 v H3 hM s e1 hi y => ?_⟩ hp⟩
            · rw [ln] at hi
              exact ⟨vs, us, vs[i]'(by omega), us[i]'(by omega), sql_of (keep _ _ _ s), sql_of (keep' _ _ _ s), by simp [show i < vs.length by omega], by simp [show i < us.length by omega]⟩
            · rw [ln]
              exact ⟨vs, us, sql_of (keep _ _ _ s), sql_of (keep' _ _ _ s), by omega⟩
            · obtain ⟨t, x, z, ob, rfl, od, ht, rfl, hx, hz⟩ := y
              obtain ⟨d, hd, rd⟩ := r.atv (hx vs (sql_of (keep _ _ _ s)))
              obtain ⟨d', hd', rd'⟩ := r'.atv (hz us (sql_of (keep' _ _ _ s)))
              have gr : Grow H2 (upd H2 t (.frz ob (.tup [x, z]))) := Grow.new ht
              exact ⟨gr, _, zipD_at hd hd', .tup (tupAt_upd od) (fun z => e1.mx t z ht) (.cons (Rp.to gr.goes _ _ (Rp.to (s.goesM g.er hM) _ _ rd)) (.cons (Rp.to gr.goes _ _ (Rp.to (s.goesM g.er hM) _ _ rd')) .nil))⟩)
/-- a text, sign by sign -/
def signsD (z : Str) : List D := z.cps.toList.map fun c => .str ⟨#[c]⟩
theorem iv_str (h : Ev c e Γ fun d Γ1 => ∃ z, d = .str z ∧ P (signsD z) Γ1) : Iv c tg e Γ P := fun σ H er R W tk xw q =>
  outI (pi_str selfE) (h σ H er _ W tk xw fun v d Γ1 H1 g p ⟨z, e, hp⟩ => by
    subst e
    cases p
    have ln : (signsD z).length = z.cps.size := by simp [signsD]
    refine ⟨z, rfl, q _ _ Γ1 H1 g ⟨fun i M1 σ1 Γ1' H2 hM s _ hi => ?_, fun M1 σ1 Γ1' H2 hM s _ => ?_, fun i M1 σ1 Γ1' H2 v H3 hM s e1 hi y => ?_⟩ hp⟩
    · rw [ln] at hi
      exact hi
    · rw [ln]
      exact Nat.le_refl _
    · obtain ⟨rfl, c, hc, rfl⟩ := y
      refine ⟨Grow.refl _, .str ⟨#[c]⟩, ?_, .str _⟩
      simp [signsD, hc])
end
/-! ### for loops -/
structure wpG (X : Cx) (tg : Expr) (v : V) (σ : Sw) (H : Hw) (Q : L2.St → Hw → Prop) : Prop where
  run : ∀ (pins : List (Addr × Obj)) (s : Shared) (u : Value), Inv X pins σ H s → RelV v u → wpAny (model X.prog X.w) X.A (assign tg X.env u) (fun _ s' => ∃ σ' H', Inv X pins σ' H' s' ∧ Q σ' H') X.xe s
theorem selfG {X : Cx} {tg : Expr} : PG X tg (wpG X tg) := ⟨fun pins s _ _ _ u _ I r h => h.run pins s u I r⟩
theorem outG {X : Cx} {tg : Expr} {t : TG} {v : V} {σ : Sw} {H : Hw} {Q : L2.St → Hw → Prop} (h : PG X tg t) (q : t v σ H Q) : wpG X tg v σ H Q := ⟨fun pins s u I r => h.run pins s σ H v u Q I r q⟩
/-- how a target takes an item: a name, a tuple of names -/
def Gv (c : Co) (tg : Expr) (Γ : Ga) (d : D) (P : Ga → Prop) : Prop := ∀ (σ : Sw) (H : Hw) (v : V), ER c.U c.M H σ Γ → Rp (Mx c.M σ Γ) H v d → ∀ Q : L2.St → Hw → Prop,
  (∀ σ' Γ' H', Step c.U σ Γ H σ' Γ' H' → ER c.U c.M H' σ' Γ' → P Γ' → Q σ' H') → wpG c.X tg v σ H Q
section
variable {c : Co} {k : Nat} {Γ : Ga} {R : Oc} {pos : Pos}
theorem gv_name {x : Str} {P : Ga → Prop} {d : D} (i : Nat) (nd : c.X.N.Nodup) (hi : c.X.N[i]? = some x) (hx : Loc c.X.env.scope x) (hl : i < Γ.length) (h : P (Γ.set i (.dat d))) (hf : c.X.fn x = true ∨ c.X.env.scope.names.lookup x = some .local := by first | exact .inl rfl | exact .inr rfl) : Gv c (.Name x pos) Γ d P := fun σ H v er p Q q =>
  outG (pg_name nd hi hx hf) (q _ _ _ (step_set i) (er.set i p hl) h)
theorem gv_two {x y : Str} {P : Ga → Prop} {d1 d2 : D} {p1 p2 : Pos} {ctx : Nat} (i j : Nat) (calm : c.X.calm = true) (nd : c.X.N.Nodup) (hi : c.X.N[i]? = some x) (hj : c.X.N[j]? = some y) (hx : Loc c.X.env.scope x) (hy : Loc c.X.env.scope y) (hl : i < Γ.length) (hl2 : j < Γ.length) (h : P ((Γ.set i (.dat d1)).set j (.dat d2)))
    (hf : c.X.fn x = true ∨ c.X.env.scope.names.lookup x = some .local := by first | exact .inl rfl | exact .inr rfl) (hf2 : c.X.fn y = true ∨ c.X.env.scope.names.lookup y = some .local := by first | exact .inl rfl | exact .inr rfl) : Gv c (.Tuple [.Name x p1, .Name y p2] ctx pos) Γ (.tup [d1, d2]) P := fun σ H v er p Q q => by
  cases p with
  | @tup a vs _ h1 h2 r2 =>
    cases r2 with
    | @cons v1 _ _ _ q1 r2 =>
      cases r2 with
      | @cons v2 _ _ _ q2 r2 =>
        cases r2
        have e1 := er.set i q1 hl
        have s1 : Step c.U σ Γ H (σ.set i (some v1)) (Γ.set i (.dat d1)) H := step_set i
        have e2 := e1.set j (Rp.to (s1.goes er) _ _ q2) (by rw [List.length_set]; exact hl2)
        exact outG (pg_tup calm (pgs_cons (pg_name nd hi hx hf) (pgs_cons (pg_name nd hj hy hf2) pgs_nil))) ⟨a, [v1, v2], rfl, sqt_of h1, rfl, v1, [v2], rfl, v2, [], rfl, rfl, q _ _ _ (s1.trans e1 (step_set j)) e2 h⟩
theorem s1_for (bd : Bd c k) {tg iter : Expr} {body : List Stmt} (h : Iv c tg iter Γ fun xs Γ1 => ∃ I : Nat → Ga → Prop, I 0 Γ1 ∧ (∀ i x Γ2, xs[i]? = some x → I i Γ2 → Gv c tg Γ2 x fun Γ3 => Sv c body Γ3 { nx := I (i + 1), ct := I (i + 1), bk := R.nx, rt := R.rt }) ∧ ∀ Γ2, I xs.length Γ2 → R.nx Γ2)
    (hs : ∀ x, foldedSetIterable iter c.X.env x = pure x := by intro _; rfl) : S1 c (.For tg iter body [] pos) Γ R := fun σ H er W Dd tk k => by
  refine outS (ps_for bd.own bd.calm selfI selfG selfB hs) (h σ H er _ W tk k.xw fun J xs Γ1 H1 g src ⟨I, h0, hs, hd⟩ => ?_)
  refine ⟨fun i m σ2 H2 => m = xs.length - i ∧ i ≤ xs.length ∧ ∃ Γ2, Step c.U σ Γ1 H1 σ2 Γ2 H2 ∧ ER c.U c.M H2 σ2 Γ2 ∧ I i Γ2, ⟨xs.length, by simp, Nat.zero_le _, Γ1, .refl, g.er, h0⟩, ?_⟩
  rintro i m σ2 H2 ⟨rfl, hi, Γ2, s2, r2, i2⟩
  have S2 := g.st.trans g.er s2
  by_cases hlt : i < xs.length
  · refine .inr ⟨src.go i _ σ2 Γ2 H2 (fun _ h => .inl h) s2.m r2 hlt, fun σ' H' => ∃ Γ', Step c.U σ Γ1 H1 σ' Γ' H' ∧ ER c.U c.M H' σ' Γ' ∧ I (i + 1) Γ', fun σ' H' z => ⟨xs.length - (i + 1), by omega, rfl, hlt, z⟩, fun v H3 y => ?_⟩
    obtain ⟨gr, d, hd', rd⟩ := src.yld i _ σ2 Γ2 H2 v H3 (fun _ h => .inl h) s2.m r2 hlt y
    have r3 := r2.grow gr
    have s3 : Step c.U σ Γ1 H1 σ2 Γ2 H3 := s2.trans r2 ⟨fun a o _ _ e => gr a o e, fun a h => .inl h⟩
    refine hs i d Γ2 hd' i2 σ2 H3 v r3 rd _ (fun σ4 Γ4 H4 s4 r4 sv => ?_)
    have s5 := s3.trans r3 s4
    have k5 := k.on r4 (g.st.trans g.er s5)
    exact sv σ4 H4 r4 W _ tk ⟨fun σ' Γ' H' s r p => ⟨Γ', s5.trans r4 s, r, p⟩, k5.rt, k5.nx, fun σ' Γ' H' s r p => ⟨Γ', s5.trans r4 s, r, p⟩, k5.xw⟩
  · have e : i = xs.length := by omega
    subst e
    exact .inl ⟨src.stop _ σ2 Γ2 H2 (fun _ h => .inl h) s2.m r2, k.nx σ2 Γ2 H2 S2 r2 (hd Γ2 i2)⟩
end
end U
/-! U8: list comprehensions. -/
namespace U
open PySem PySem.Spec PyProof.Rows L2
def unset : List Nat → Ga → Ga
  | [], Γ => Γ
  | v :: vs, Γ => (unset vs Γ).set v .un
theorem ER.unset {U : Vol} {M : Ex} {H : Hw} {σ : Sw} {Γ : Ga} (r : ER U M H σ Γ) : ∀ vs : List Nat, ER U M H (wipe σ vs) (unset vs Γ)
  | [] => r
  | v :: vs => (ER.unset r vs).forget v none
theorem wipe_off {σ : Sw} {i : Nat} : ∀ {vs : List Nat}, i ∉ vs → (wipe σ vs)[i]? = σ[i]?
  | [], _ => rfl
  | v :: vs, h => by
    unfold wipe
    rw [set_off (fun e => h (by rw [e]; exact List.mem_cons_self))]
    exact wipe_off fun z => h (List.mem_cons_of_mem _ z)
theorem unset_off {Γ : Ga} {i : Nat} : ∀ {vs : List Nat}, i ∉ vs → (unset vs Γ)[i]? = Γ[i]?
  | [], _ => rfl
  | v :: vs, h => by
    unfold unset
    rw [set_off (fun e => h (by rw [e]; exact List.mem_cons_self))]
    exact unset_off fun z => h (List.mem_cons_of_mem _ z)
theorem unset_on {Γ : Ga} {i : Nat} {s : Sl} : ∀ {vs : List Nat}, i ∈ vs → (unset vs Γ)[i]? = some s → s = .un
  | v :: vs, h, e => by
    unfold unset at e
    by_cases q : i = v
    · subst q
      rcases at_set e with ⟨_, z, _⟩ | ⟨z, _⟩
      · exact z
      · exact absurd rfl z
    · rw [set_off q] at e
      rcases List.mem_cons.mp h with z | z
      · exact absurd z q
      · exact unset_on z e
theorem wipe_ext {σ τ : Sw} {vs : List Nat} (hl : σ.length = τ.length) (h : ∀ i, i ∉ vs → σ[i]? = τ[i]?) : wipe σ vs = wipe τ vs := by
  have len : ∀ (σ : Sw) (vs : List Nat), (wipe σ vs).length = σ.length := fun σ vs => wipe_length σ vs
  have on : ∀ (σ : Sw) (i : Nat) (vs : List Nat), i ∈ vs → i < σ.length → (wipe σ vs)[i]? = some none := fun σ i vs => by
    induction vs with
    | nil => intro h; cases h
    | cons v vs ih =>
      intro h hl
      unfold wipe
      by_cases q : i = v
      · subst q
        exact set_at (by rw [len]; exact hl)
      · rw [set_off q]
        rcases List.mem_cons.mp h with z | z
        · exact absurd z q
        · exact ih z hl
  apply List.ext_getElem?
  intro i
  by_cases hi : i ∈ vs
  · by_cases hb : i < σ.length
    · rw [on σ i vs hi hb, on τ i vs hi (by rw [← hl]; exact hb)]
    · rw [List.getElem?_eq_none (by rw [len]; omega), List.getElem?_eq_none (by rw [len]; omega)]
  · rw [wipe_off hi, wipe_off hi]
    exact h i hi
/-- a target that stores in the slots vs alone, the heap as it is -/
def Gw (c : Co) (vs : List Nat) (tg : Expr) (Γ : Ga) (d : D) (P : Ga → Prop) : Prop := ∀ (σ : Sw) (H : Hw) (v : V), ER c.U c.M H σ Γ → Rp (Mx c.M σ Γ) H v d → ∀ Q : L2.St → Hw → Prop,
  (∀ σ' Γ', wipe σ' vs = wipe σ vs → unset vs Γ' = unset vs Γ → Step c.U σ Γ H σ' Γ' H → ER c.U c.M H σ' Γ' → P Γ' → Q σ' H) → wpG c.X tg v σ H Q
section
variable {c : Co} {k : Nat} {Γ : Ga} {pos : Pos}
theorem unset_len (Γ : Ga) : ∀ vs : List Nat, (unset vs Γ).length = Γ.length
  | [] => rfl
  | v :: vs => by unfold unset; rw [List.length_set, unset_len Γ vs]
theorem unset_ext {Γ Δ : Ga} {vs : List Nat} (hl : Γ.length = Δ.length) (h : ∀ i, i ∉ vs → Γ[i]? = Δ[i]?) : unset vs Γ = unset vs Δ := by
  apply List.ext_getElem?
  intro i
  by_cases hi : i ∈ vs
  · by_cases hb : i < Γ.length
    · have h1 : i < (unset vs Γ).length := by rw [unset_len]; exact hb
      have h2 : i < (unset vs Δ).length := by rw [unset_len, ← hl]; exact hb
      have a := List.getElem?_eq_getElem h1
      have b := List.getElem?_eq_getElem h2
      have a' := unset_on hi a
      have b' := unset_on hi b
      rw [a, b, a', b']
    · rw [List.getElem?_eq_none (by rw [unset_len]; omega), List.getElem?_eq_none (by rw [unset_len]; omega)]
  · rw [unset_off hi, unset_off hi]
    exact h i hi
theorem unset_idem (Γ : Ga) (vs : List Nat) : unset vs (unset vs Γ) = unset vs Γ := unset_ext (unset_len Γ vs) fun i hi => unset_off hi
theorem wipe_idem (σ : Sw) (vs : List Nat) : wipe (wipe σ vs) vs = wipe σ vs := wipe_ext (wipe_length σ vs) fun i hi => wipe_off hi
theorem gw_name {x : Str} {P : Ga → Prop} {d : D} (i : Nat) (nd : c.X.N.Nodup) (hi : c.X.N[i]? = some x) (hx : Loc c.X.env.scope x) (hl : i < Γ.length) (h : P (Γ.set i (.dat d))) (hf : c.X.fn x = true ∨ c.X.env.scope.names.lookup x = some .local := by first | exact .inl rfl | exact .inr rfl) : Gw c [i] (.Name x pos) Γ d P := fun σ H v er p Q q =>
  outG (pg_name nd hi hx hf) (q _ _ (wipe_ext (by rw [List.length_set]) fun j hj => set_off (by simpa using hj)) (unset_ext (by rw [List.length_set]) fun j hj => set_off (by simpa using hj)) (step_set i) (er.set i p hl) h)
theorem gw_two {x y : Str} {P : Ga → Prop} {d1 d2 : D} {p1 p2 : Pos} {ctx : Nat} (i j : Nat) (calm : c.X.calm = true) (nd : c.X.N.Nodup) (hi : c.X.N[i]? = some x) (hj : c.X.N[j]? = some y) (hx : Loc c.X.env.scope x) (hy : Loc c.X.env.scope y) (hl : i < Γ.length) (hl2 : j < Γ.length) (h : P ((Γ.set i (.dat d1)).set j (.dat d2)))
    (hf : c.X.fn x = true ∨ c.X.env.scope.names.lookup x = some .local := by first | exact .inl rfl | exact .inr rfl) (hf2 : c.X.fn y = true ∨ c.X.env.scope.names.lookup y = some .local := by first | exact .inl rfl | exact .inr rfl) : Gw c [i, j] (.Tuple [.Name x p1, .Name y p2] ctx pos) Γ (.tup [d1, d2]) P := fun σ H v er p Q q => by
  cases p with
  | @tup a vs _ h1 h2 r2 =>
    cases r2 with
    | @cons v1 _ _ _ q1 r2 =>
      cases r2 with
      | @cons v2 _ _ _ q2 r2 =>
        cases r2
        have e1 := er.set i q1 hl
        have s1 : Step c.U σ Γ H (σ.set i (some v1)) (Γ.set i (.dat d1)) H := step_set i
        have e2 := e1.set j (Rp.to (s1.goes er) _ _ q2) (by rw [List.length_set]; exact hl2)
        refine outG (pg_tup calm (pgs_cons (pg_name nd hi hx hf) (pgs_cons (pg_name nd hj hy hf2) pgs_nil))) ⟨a, [v1, v2], rfl, sqt_of h1, rfl, v1, [v2], rfl, v2, [], rfl, rfl, q _ _ (wipe_ext (by rw [List.length_set, List.length_set]) fun m hm => ?_) (unset_ext (by rw [List.length_set, List.length_set]) fun m hm => ?_) (s1.trans e1 (step_set j)) e2 h⟩
        all_goals
          have hm' : ¬ (m = i ∨ m = j) := by simpa using hm
          rw [set_off fun z => hm' (.inr z), set_off fun z => hm' (.inl z)]
/-- the surroundings of a comprehension's block; its list at Dl -/
def Co.inner (c : Co) (s : Shared) (H : Hw) (scope : Scope) (C : Addr) (cl : List (Str × Addr)) (fp : List Addr) (Dl : Addr) : Co :=
  ⟨c.X.blk s H scope (compEnvC scope cl C c.X.env) fp, c.U, fun a => c.M a ∨ a = Dl, fun _ _ _ => False⟩
theorem Bd.inner {c : Co} (bd : Bd c k) (s : Shared) (H : Hw) (scope : Scope) (C : Addr) (cl : List (Str × Addr)) (fp : List Addr) (Dl : Addr) : Bd (c.inner s H scope C cl fp Dl) k := ⟨bd.calm, PassesOwn.never, bd.nd, bd.hr, bd.gd⟩
/-- the tests of a comprehension: none, or one -/
def Fv (c : Co) (ifs : List Expr) (Γ : Ga) (P : Bool → Ga → Prop) : Prop := (ifs = [] ∧ P true Γ) ∨ ∃ t, ifs = [t] ∧ Tv c t Γ P
def wpF (X : Cx) (ifs : List Expr) : TT := fun σ H Q => (ifs = [] ∧ Q true H) ∨ ∃ t, ifs = [t] ∧ wpT X t σ H Q
theorem selfF {X : Cx} {ifs : List Expr} : PTs X ifs (wpF X ifs) := ⟨fun pins s σ H Q I h => by
  rcases h with ⟨rfl, h⟩ | ⟨t, rfl, h⟩
  · exact pts_nil.run pins s σ H Q I h
  · exact (pts_one selfT).run pins s σ H Q I h⟩
theorem ER.subM {U : Vol} {M M' : Ex} {H : Hw} {σ : Sw} (r : ER U M' H σ Γ) (tm : ∀ a, U.T a → M a) (sub : ∀ a, M a → M' a) : ER U M H σ Γ := by
  have g : Goes (Mx M' σ Γ) (Mx M σ Γ) H H := ⟨fun a o m e => ⟨e, fun z => m (z.elim (fun y => .inl (sub a y)) .inr)⟩⟩
  refine ER.of tm (fun a m => r.kn a (sub a m)) r.j r.len (fun i d h => ?_) (fun i s h m => ?_) r.sep
  · obtain ⟨v, h1, h2⟩ := r.dat i d h
    exact ⟨v, h1, Rp.to g _ _ h2⟩
  · obtain ⟨a, o, h1, h2, h3, h4⟩ := r.ob h m
    exact ⟨a, o, h1, h2, fun z => h3 (sub a z), h4.to g⟩
/-- a new object, kept apart -/
theorem ER.apart {U : Vol} {M : Ex} {H : Hw} {σ : Sw} {p : Addr} {o : HO} (r : ER U M H σ Γ) (hp : H p = none) : ER U (fun a => M a ∨ a = p) (upd H p o) σ Γ := by
  have gr : Grow H (upd H p o) := Grow.new hp
  have g : Goes (Mx M σ Γ) (Mx (fun a => M a ∨ a = p) σ Γ) H (upd H p o) := ⟨fun a u m e => ⟨gr a u e, fun z => by
    rcases z with (z | z) | z
    · exact m (.inl z)
    · rw [z, hp] at e; cases e
    · exact m (.inr z)⟩⟩
  refine ER.of (fun a t => .inl (r.tm a t)) (fun a m => ?_) (r.grow gr).j r.len (fun i d h => ?_) (fun i s h m => ?_) r.sep
  · rcases m with m | m
    · exact (r.grow gr).kn a m
    · rw [m, upd_same]; simp
  · obtain ⟨v, h1, h2⟩ := r.dat i d h
    exact ⟨v, h1, Rp.to g _ _ h2⟩
  · obtain ⟨a, u, h1, h2, h3, h4⟩ := r.ob h m
    refine ⟨a, u, h1, gr _ _ h2, fun z => z.elim h3 fun y => ?_, h4.to g⟩
    rw [y, hp] at h2; cases h2
/-- the object kept apart is changed -/
theorem ER.apartMut {U : Vol} {M : Ex} {H : Hw} {σ : Sw} {p : Addr} {o : HO} (r : ER U (fun a => M a ∨ a = p) H σ Γ) (np : ¬ U.T p) : ER U (fun a => M a ∨ a = p) (upd H p o) σ Γ := by
  have ne : ∀ a, ¬ Mx (fun a => M a ∨ a = p) σ Γ a → a ≠ p := fun a m z => m (.inl (.inr z))
  have g : Goes (Mx (fun a => M a ∨ a = p) σ Γ) (Mx (fun a => M a ∨ a = p) σ Γ) H (upd H p o) := ⟨fun a u m e => ⟨by rw [upd_ne (ne a m)]; exact e, m⟩⟩
  refine ER.of r.tm (fun a m => ?_) (U.keep r.j fun a t => upd_ne fun z => np (by rw [← z]; exact t)) r.len (fun i d h => ?_) (fun i s h m => ?_) r.sep
  · by_cases q : a = p
    · rw [q, upd_same]; simp
    · rw [upd_ne q]; exact r.kn a m
  · obtain ⟨v, h1, h2⟩ := r.dat i d h
    exact ⟨v, h1, Rp.to g _ _ h2⟩
  · obtain ⟨a, u, h1, h2, h3, h4⟩ := r.ob h m
    exact ⟨a, u, h1, by rw [upd_ne fun z => h3 (.inr z)]; exact h2, h3, h4.to g⟩
def wpGX (X : Cx) (scope : Scope) (tg : Expr) : TG := fun v σ H Q => ∀ (s : Shared) (H0 : Hw) (C : Addr) (cl : List (Str × Addr)) (fp : List Addr), wpG (X.blk s H0 scope (compEnvC scope cl C X.env) fp) tg v σ H Q
def wpFX (X : Cx) (scope : Scope) (ifs : List Expr) : TT := fun σ H Q => ∀ (s : Shared) (H0 : Hw) (C : Addr) (cl : List (Str × Addr)) (fp : List Addr), wpF (X.blk s H0 scope (compEnvC scope cl C X.env) fp) ifs σ H Q
def wpEX (X : Cx) (scope : Scope) (elt : Expr) : TE := fun σ H Q => ∀ (s : Shared) (H0 : Hw) (C : Addr) (cl : List (Str × Addr)) (fp : List Addr), wpE (X.blk s H0 scope (compEnvC scope cl C X.env) fp) elt σ H Q
theorem ow_unset {σ : Sw} {vs : List Nat} {a : Addr} (h : Ow (wipe σ vs) (unset vs Γ) a) : Ow σ Γ a := by
  obtain ⟨i, s, h1, h2, h3⟩ := h
  by_cases hi : i ∈ vs
  · rw [unset_on hi h1] at h2
    cases h2
  · rw [unset_off hi] at h1
    rw [wipe_off hi] at h3
    exact ⟨i, s, h1, h2, h3⟩
/-- the turns of a comprehension: the reading's own heart -/
structure Mid (c : Co) (σ : Sw) (Γ1 : Ga) (vs : List Nat) (H1 : Hw) (Dl : Addr) (accV : List V) (acc : List D) (H2 : Hw) : Prop where
  pres : ∀ a o, ¬ c.U.T a → ¬ Ow σ Γ1 a → H1 a = some o → H2 a = some o
  er : ER c.U (fun a => c.M a ∨ a = Dl) H2 (wipe σ vs) (unset vs Γ1)
  dl : H2 Dl = some (.lst accV)
  ra : RpA (Mx (fun a => c.M a ∨ a = Dl) (wipe σ vs) (unset vs Γ1)) H2 accV acc
theorem lc_data {P : List D → Prop} {elt tg : Expr} {ifs : List Expr} {scope : Scope} {vs : List Nat} {σ : Sw} {Γ1 : Ga} {H1 : Hw} {J : It} {xs : List D} {I : Nat → List D → Prop} {Dl : Addr} {Qd : Hw → Prop} (er : ER c.U c.M H1 σ Γ1) (src : Src c σ Γ1 H1 J xs) (hD : H1 Dl = none) (h0 : I 0 []) (hl : xs.length ≤ 1000000)
    (hs : ∀ i x acc, xs[i]? = some x → I i acc → acc.length ≤ i →
      ∀ (s : Shared) (H : Hw) (C : Addr) (cl : List (Str × Addr)) (fp : List Addr), Gw (c.inner s H scope C cl fp Dl) vs tg (unset vs Γ1) x fun Γ2 =>
        ∀ (s : Shared) (H : Hw) (C : Addr) (cl : List (Str × Addr)) (fp : List Addr), Fv (c.inner s H scope C cl fp Dl) ifs Γ2 fun b Γ3 => Γ3 = Γ2 ∧ (b = true →
          ∀ (s : Shared) (H : Hw) (C : Addr) (cl : List (Str × Addr)) (fp : List Addr), Ev (c.inner s H scope C cl fp Dl) elt Γ2 fun y Γ4 => Γ4 = Γ2 ∧ I (i + 1) (acc ++ [y])) ∧ (b = false → I (i + 1) acc))
    (hd : ∀ accV acc H2, Mid c σ Γ1 vs H1 Dl accV acc H2 → I xs.length acc → Qd H2) :
    ∃ W : Nat → Nat → Hw → Prop, (∃ m, W 0 m (upd H1 Dl (.lst []))) ∧ ∀ i m H, W i m H →
      (J.stop i H ∧ Qd H) ∨ (J.go i H ∧ ∃ Nx : Hw → Prop, (∀ H', Nx H' → ∃ m', m' < m ∧ W (i + 1) m' H') ∧ ∀ x H', J.yld i H x H' → wpGX c.X scope tg x (wipe σ vs) H' fun σ2 H2 => wipe σ2 vs = wipe σ vs ∧ wpFX c.X scope ifs σ2 H2 fun b H3 =>
        if b = true then wpEX c.X scope elt σ2 H3 fun y H4 => ∃ acc, H4 Dl = some (.lst acc) ∧ acc.length < sizeLine ∧ Nx (upd H4 Dl (.lst (acc ++ [y]))) else Nx H3) := by
  have npD : ¬ c.U.T Dl := fun t => er.kn Dl (er.tm Dl t) hD
  have hM : ∀ a, (c.M a ∨ a = Dl) → c.M a ∨ H1 a = none := fun a h => h.imp id fun z => by rw [z]; exact hD
  refine ⟨fun i m H2 => m = xs.length - i ∧ i ≤ xs.length ∧ ∃ accV acc, Mid c σ Γ1 vs H1 Dl accV acc H2 ∧ acc.length ≤ i ∧ I i acc, ⟨xs.length, by simp, Nat.zero_le _, [], [], ⟨fun a o _ _ e => Grow.new hD a o e, (er.unset vs).apart hD, upd_same, .nil⟩, Nat.le_refl _, h0⟩, ?_⟩
  rintro i m H2 ⟨rfl, hi, accV, acc, md, al, hI⟩
  have st : Step c.U σ Γ1 H1 (wipe σ vs) (unset vs Γ1) H2 := ⟨md.pres, fun a z => .inl (ow_unset z)⟩
  by_cases hlt : i < xs.length
  · refine .inr ⟨src.go i _ _ _ H2 hM st.m md.er hlt, fun H' => ∃ accV acc, Mid c σ Γ1 vs H1 Dl accV acc H' ∧ acc.length ≤ i + 1 ∧ I (i + 1) acc, fun H' z => ⟨xs.length - (i + 1), by omega, rfl, hlt, z⟩, fun v H3 y s H0 C cl fp => ?_⟩
    obtain ⟨gr, d, hd', rd⟩ := src.yld i _ _ _ H2 v H3 hM st.m md.er hlt y
    refine hs i d acc hd' hI al s H0 C cl fp (wipe σ vs) H3 v (md.er.grow gr) rd _ (fun σ4 Γ4 e4 u4 s4 r4 hF => ⟨e4.trans (wipe_idem σ vs), fun s H0 C cl fp => ?_⟩)
    rw [unset_idem] at u4
    rw [wipe_idem] at e4
    have xw0 : ∀ (s : Shared) (H0 : Hw) (C : Addr) (cl : List (Str × Addr)) (fp : List Addr) {Γ5 : Ga} {H5 : Hw}, XW (c.inner s H0 scope C cl fp Dl) σ4 Γ5 H5 (fun _ _ _ _ => False) := fun _ _ _ _ _ _ _ _ _ _ _ _ _ _ _ _ e => e
    have fin : ∀ {H5 : Hw} {accV' : List V} {acc' : List D}, (∀ a o, ¬ c.U.T a → ¬ Ow σ4 Γ4 a → H3 a = some o → H5 a = some o) → ER c.U (fun a => c.M a ∨ a = Dl) H5 σ4 Γ4 → RpA (Mx (fun a => c.M a ∨ a = Dl) σ4 Γ4) H5 accV' acc' → Mid c σ Γ1 vs H1 Dl (accV ++ accV') (acc ++ acc') (upd H5 Dl (.lst (accV ++ accV'))) := fun {H5 accV' acc'} fr r5 ra => by
      have noD : ¬ Ow σ4 Γ4 Dl := fun z => (r5.own_ne z).1 (.inr rfl)
      have keep : ∀ a o, ¬ c.U.T a → ¬ Ow (wipe σ vs) (unset vs Γ1) a → H2 a = some o → H5 a = some o := fun a o t n e => fr a o t (fun z => by
        rcases s4.og a z with z | z
        · exact n z
        · rw [gr a o e] at z; cases z) (gr a o e)
      have e5 : ER c.U (fun a => c.M a ∨ a = Dl) H5 (wipe σ vs) (unset vs Γ1) := by
        have z := r5.unset vs
        rw [u4, e4] at z
        exact z
      refine ⟨fun a o t n e => ?_, e5.apartMut npD, upd_same, RpA.app (RpA.to ⟨fun a o m e => ⟨?_, m⟩⟩ _ _ md.ra) (RpA.to ⟨fun a o m e => ⟨?_, fun z => m (z.elim .inl fun y => .inr ?_)⟩⟩ _ _ ra)⟩
      · rw [upd_ne (ne_of_none e hD)]
        exact keep a o t (fun z => n (ow_unset z)) (md.pres a o t n e)
      · rw [upd_ne fun z => m (.inl (.inr z))]
        exact keep a o (fun t => m (.inl (md.er.tm a t))) (fun z => m (.inr z)) e
      · rw [upd_ne fun z => m (.inl (.inr z))]
        exact e
      · rw [← e4, ← u4] at y
        exact ow_unset y
    have atD : ∀ {H5 : Hw}, (∀ a o, ¬ c.U.T a → ¬ Ow σ4 Γ4 a → H3 a = some o → H5 a = some o) → H5 Dl = some (.lst accV) := fun fr => fr Dl _ npD (fun z => (r4.own_ne z).1 (.inr rfl)) (gr _ _ md.dl)
    have body : ∀ (b : Bool) (H5 : Hw), (∀ a o, ¬ c.U.T a → ¬ Ow σ4 Γ4 a → H3 a = some o → H5 a = some o) → ER c.U (fun a => c.M a ∨ a = Dl) H5 σ4 Γ4 →
        ((b = true → ∀ (s : Shared) (H : Hw) (C : Addr) (cl : List (Str × Addr)) (fp : List Addr), Ev (c.inner s H scope C cl fp Dl) elt Γ4 fun y Γ5 => Γ5 = Γ4 ∧ I (i + 1) (acc ++ [y])) ∧ (b = false → I (i + 1) acc)) →
        if b = true then wpEX c.X scope elt σ4 H5 fun y H4 => ∃ acc, H4 Dl = some (.lst acc) ∧ acc.length < sizeLine ∧ ∃ accV acc', Mid c σ Γ1 vs H1 Dl accV acc' (upd H4 Dl (.lst (acc ++ [y]))) ∧ acc'.length ≤ i + 1 ∧ I (i + 1) acc'
        else ∃ accV acc', Mid c σ Γ1 vs H1 Dl accV acc' H5 ∧ acc'.length ≤ i + 1 ∧ I (i + 1) acc' := fun b H5 fr r5 hb => by
      cases b with
      | false =>
        show ∃ accV acc', Mid c σ Γ1 vs H1 Dl accV acc' H5 ∧ acc'.length ≤ i + 1 ∧ I (i + 1) acc'
        have z := fin (accV' := []) (acc' := []) fr r5 .nil
        rw [List.append_nil, List.append_nil] at z
        have e : upd H5 Dl (.lst accV) = H5 := by
          funext a
          unfold upd
          split
          · rename_i q
            rw [q]
            exact (atD fr).symm
          · rfl
        rw [e] at z
        exact ⟨accV, acc, z, by omega, hb.2 rfl⟩
      | true =>
        show wpEX c.X scope elt σ4 H5 _
        intro s H0 C cl fp
        refine hb.1 rfl s H0 C cl fp σ4 H5 r5 _ (fun _ _ _ _ => False) takes0 (xw0 s H0 C cl fp) fun w d Γ6 H6 g6 p6 ⟨e6, hI6⟩ => ?_
        subst e6
        have fr6 : ∀ a o, ¬ c.U.T a → ¬ Ow σ4 Γ6 a → H3 a = some o → H6 a = some o := fun a o t n e => g6.st.fr a o t n (fr a o t n e)
        refine ⟨accV, atD fr6, Nat.lt_of_lt_of_le (show accV.length < 1000001 by rw [md.ra.length]; omega) (by decide), _, _, fin fr6 g6.er (.cons p6 .nil), by simp; omega, hI6⟩
    rcases hF s H0 C cl fp with ⟨e, _, hb⟩ | ⟨t, e, ht⟩
    · exact .inl ⟨e, body true H3 (fun _ _ _ _ e => e) r4 hb⟩
    · exact .inr ⟨t, e, ht σ4 H3 r4 _ (fun _ _ _ _ => False) takes0 (xw0 s H0 C cl fp) fun b Γ5 H5 g5 ⟨e5, hb⟩ => by
        subst e5
        exact body b H5 (fun a o t n e => g5.st.fr a o t n e) g5.er hb⟩
  · have e : i = xs.length := by omega
    subst e
    exact .inl ⟨src.stop _ _ _ H2 hM st.m md.er, hd _ _ _ md hI⟩
/-- [elt for tg in iter if ..] -/
theorem ev_lc {P : D → Ga → Prop} {elt tg iter : Expr} {ifs : List Expr} {scope : Scope} (own : List (Str × Nat)) (bd : Bd c k) (ok : BlkOk c.X.N c.X.env.scope scope own)
    (h : Iv c tg iter Γ fun xs Γ1 => ∃ I : Nat → List D → Prop, I 0 [] ∧ xs.length ≤ 1000000 ∧ (∀ m ∈ own.map (·.2), ∀ s, Γ1[m]? = some s → s.mine = false) ∧
      (∀ i x acc, xs[i]? = some x → I i acc → acc.length ≤ i → ∀ (Dl : Addr) (s : Shared) (H : Hw) (C : Addr) (cl : List (Str × Addr)) (fp : List Addr), Gw (c.inner s H scope C cl fp Dl) (own.map (·.2)) tg (unset (own.map (·.2)) Γ1) x fun Γ2 =>
        ∀ (s : Shared) (H : Hw) (C : Addr) (cl : List (Str × Addr)) (fp : List Addr), Fv (c.inner s H scope C cl fp Dl) ifs Γ2 fun b Γ3 => Γ3 = Γ2 ∧ (b = true →
          ∀ (s : Shared) (H : Hw) (C : Addr) (cl : List (Str × Addr)) (fp : List Addr), Ev (c.inner s H scope C cl fp Dl) elt Γ2 fun y Γ4 => Γ4 = Γ2 ∧ I (i + 1) (acc ++ [y])) ∧ (b = false → I (i + 1) acc)) ∧
      ∀ acc, I xs.length acc → P (.lst acc) Γ1)
    (hs : ∀ x, foldedSetIterable iter c.X.env x = pure x := by intro _; rfl) : Ev c (.ListComp elt [⟨tg, iter, ifs, 0⟩] scope pos) Γ P := fun σ H er Q W tk xw q => by
  refine outE (pe_lc (own := own) (g := wpGX c.X scope tg) (tt := wpFX c.X scope ifs) (te := wpEX c.X scope elt) bd.calm bd.nd selfI ok (fun s H C cl fp => ⟨fun pins s' σ H' v u Q I r h => (h s H C cl fp).run pins s' u I r⟩)
    (fun s H C cl fp => ⟨fun pins s' σ H' Q I h => selfF.run pins s' σ H' Q I (h s H C cl fp)⟩) (fun s H C cl fp => ⟨fun pins s' σ H' Q I h => (h s H C cl fp).run pins s' I⟩) hs) ?_
  refine h σ H er _ W tk xw fun J xs Γ1 H1 g src ⟨I, h0, hl, hm, ht, hd⟩ Dl hD => ?_
  refine lc_data (P := fun acc => P (.lst acc) Γ1) g.er src hD h0 hl (fun i x acc hx hI al => ht i x acc hx hI al Dl) fun accV acc H2 md hI => ?_
  have st : Step c.U σ Γ1 H1 σ Γ1 H2 := ⟨md.pres, fun a z => .inl z⟩
  have ge : Goes (Mx c.M σ Γ1) (Mx c.M σ Γ1) H1 H2 := st.goes g.er
  have down : ∀ a, Ow σ Γ1 a → Ow (wipe σ (own.map (·.2))) (unset (own.map (·.2)) Γ1) a := fun a ⟨i, s, h1, h2, h3⟩ => by
    by_cases hi : i ∈ own.map (·.2)
    · rw [hm i hi s h1] at h2
      cases h2
    · exact ⟨i, s, by rw [unset_off hi]; exact h1, h2, by rw [wipe_off hi]; exact h3⟩
  have gd : Goes (Mx (fun a => c.M a ∨ a = Dl) (wipe σ (own.map (·.2))) (unset (own.map (·.2)) Γ1)) (Mx c.M σ Γ1) H2 H2 := ⟨fun a o m e => ⟨e, fun z => m (z.elim (fun y => .inl (.inl y)) fun y => .inr (down a y))⟩⟩
  have er2 : ER c.U c.M H2 σ Γ1 := by
    refine ER.of g.er.tm (fun a m => md.er.kn a (.inl m)) md.er.j g.er.len (fun i d h => ?_) (fun i s h m => ?_) g.er.sep
    · obtain ⟨v, h1, h2⟩ := g.er.dat i d h
      exact ⟨v, h1, Rp.to ge _ _ h2⟩
    · have hi : i ∉ own.map (·.2) := fun z => by rw [hm i z s h] at m; cases m
      obtain ⟨a, o, h1, h2, h3, h4⟩ := md.er.ob (i := i) (s := s) (by rw [unset_off hi]; exact h) m
      rw [wipe_off hi] at h1
      exact ⟨a, o, h1, h2, fun z => h3 (.inl z), h4.to gd⟩
  have nm : ¬ Mx c.M σ Γ1 Dl := fun z => g.er.mx Dl z hD
  exact q _ _ Γ1 H2 (g.trans ⟨st, rfl, er2⟩) (.lst md.dl nm (RpA.to gd _ _ md.ra)) (hd acc hI)
end
end U
/-! U8z: t + u, t[lo:hi], tuple(x), of any tuples, the new ones without a dict of their own. -/
namespace U
open PySem PySem.Spec PyProof.Rows L2
section
variable {X : Cx}
def rCatAZ (K : PySem.W.Frag) : R2 := fun x y H Q => ∃ a b xs ys, x = .ref a ∧ y = .ref b ∧ SqT K H a xs ∧ SqT K H b ys ∧ xs.length + ys.length ≤ sizeLine ∧
  (xs = [] → Q (.ref b) H) ∧ (xs ≠ [] → ys = [] → Q (.ref a) H) ∧ (xs ≠ [] → ys ≠ [] → ∀ (p : Addr) (o : Obj), o.dict = none → H p = none → Q (.ref p) (upd H p (.frz o (.tup (xs ++ ys)))))
theorem op_catAZ : OpR X (binaryOp .Add) (rCatAZ X.K) := by
  intro pins s σ H x y v u Q I rx ry h
  obtain ⟨a, b, xs, ys, rfl, rfl, ha, hb, hz, q0, q1, q2⟩ := h
  by_cases hx : xs = []
  · exact op_catA pins s σ H _ _ v u Q I rx ry ⟨a, b, xs, ys, rfl, rfl, ha, hb, hz, q0, fun n => absurd hx n, fun n => absurd hx n⟩
  · exact op_catTZ pins s σ H _ _ v u Q I rx ry ⟨a, b, xs, ys, rfl, rfl, ha, hb, hx, hz, q1 hx, q2 hx⟩
def rSlAZ (K : PySem.W.Frag) : V → Option Int → Option Int → Hw → VK → Prop := fun x lo hi H Q => ∃ a xs, x = .ref a ∧ SqT K H a xs ∧
  (HT.sIx xs.length 0 lo = 0 ∧ HT.sIx xs.length xs.length hi = xs.length → Q (.ref a) H) ∧ (¬ (HT.sIx xs.length 0 lo = 0 ∧ HT.sIx xs.length xs.length hi = xs.length) → ∀ (p : Addr) (o : Obj), o.dict = none → H p = none → Q (.ref p) (upd H p (.frz o (.tup (cutV xs lo hi)))))
theorem sl_tupAZ : SlR X (rSlAZ X.K) := by
  intro pins s σ H x v vl vu lo hi sl Q I rx hs pl pu h
  obtain ⟨a, xs, e, hx, q1, q2⟩ := h
  by_cases hw : HT.sIx xs.length 0 lo = 0 ∧ HT.sIx xs.length xs.length hi = xs.length
  · exact sl_tupA pins s σ H x v vl vu lo hi sl Q I rx hs pl pu ⟨a, xs, e, hx, q1, fun n => absurd hw n⟩
  · exact sl_tupZ pins s σ H x v vl vu lo hi sl Q I rx hs pl pu ⟨a, xs, e, hx, hw, q2 hw⟩
theorem call_tupleAZ : CallR X (.type "tuple") (fun xs H Q => ∃ p ys, xs = [.ref p] ∧ ((SqL X.K H p ys ∧ ∀ (l : Addr) (o : Obj), o.dict = none → H l = none → Q (.ref l) (upd H l (.frz o (.tup ys)))) ∨ (SqT X.K H p ys ∧ Q (.ref p) H))) := by
  intro pins s σ H xs us Q I r h
  obtain ⟨p, ys, e, h | h⟩ := h
  · exact call_tupleZ pins s σ H xs us Q I r ⟨p, ys, e, h⟩
  · exact call_tuple_of pins s σ H xs us Q I r ⟨p, ys, e, .inr h⟩
end
end U
/-! U9: operations over data. -/
namespace U
open PySem PySem.Spec PyProof.Rows L2
theorem sz {n : Nat} (h : n ≤ 16777216) : n ≤ sizeLine := Nat.le_trans h (by decide)
theorem szlt {n : Nat} (h : n < 16777216) : n < sizeLine := Nat.lt_of_lt_of_le h (by decide)
section
variable {X : Cx} {i j : Int} {ds es : List D}
theorem vo_I0 {g : Int → Int → Int} : Vo2 (rI0 fun i j => .int (g i j)) (.int i) (.int j) (.int (g i j)) := fun M H v w _ h1 h2 Q q => by
  cases h1.int_; cases h2.int_
  exact ⟨i, j, rfl, rfl, q _ H (Grow.refl H) (.int _)⟩
theorem vo_B0 {g : Int → Int → Bool} : Vo2 (rI0 fun i j => .bl (g i j)) (.int i) (.int j) (.bl (g i j)) := fun M H v w _ h1 h2 Q q => by
  cases h1.int_; cases h2.int_
  exact ⟨i, j, rfl, rfl, q _ H (Grow.refl H) (.bl _)⟩
theorem vo_I {C : Int → Int → Prop} {g : Int → Int → Int} (h : C i j) : Vo2 (rI C fun i j => .int (g i j)) (.int i) (.int j) (.int (g i j)) := fun M H v w _ h1 h2 Q q => by
  cases h1.int_; cases h2.int_
  exact ⟨i, j, rfl, rfl, h, q _ H (Grow.refl H) (.int _)⟩
theorem vo_neg : Vo1 (rU fun i => .int (-i)) (.int i) (.int (-i)) := fun M H v _ h1 Q q => by
  cases h1.int_
  exact ⟨i, rfl, q _ H (Grow.refl H) (.int _)⟩
/-- data without a heap -/
def D.sc : D → Option V
  | .non => some .non
  | .bl b => some (.bl b)
  | .int i => some (.int i)
  | .str x => some (.str x)
  | _ => none
theorem Rq.sc {M : Ex} {H : Hw} {v w : V} {d : D} (h : Rq M H v d) (e : d.sc = some w) : v = w := by
  cases d with
  | non => cases e; exact h.non_
  | bl b => cases e; exact h.bl_
  | int i => cases e; exact h.int_
  | str x => cases e; exact h.str_
  | lst _ => cases e
  | tup _ => cases e
  | dic _ => cases e
  | ad _ => cases e
theorem vo_eq {x y : D} {v w : V} (hx : x.sc = some v) (hy : y.sc = some w) (h : scal v w = true) : Vo2 rEq x y (.bl (decide (v = w))) := fun M H a b _ h1 h2 Q q => by
  cases h1.sc hx; cases h2.sc hy
  exact ⟨h, q _ H (Grow.refl H) (.bl _)⟩
theorem vo_ne {x y : D} {v w : V} (hx : x.sc = some v) (hy : y.sc = some w) (h : scal v w = true) : Vo2 rNe x y (.bl (!decide (v = w))) := fun M H a b _ h1 h2 Q q => by
  cases h1.sc hx; cases h2.sc hy
  exact ⟨h, q _ H (Grow.refl H) (.bl _)⟩
theorem vo_eqI : Vo2 rEq (.int i) (.int j) (.bl (decide (i = j))) := by
  have e : decide (V.int i = V.int j) = decide (i = j) := by
    by_cases h : i = j
    · subst h; simp
    · rw [decide_eq_false h, decide_eq_false fun z => h (V.int.inj z)]
  rw [← e]
  exact vo_eq rfl rfl rfl
theorem vo_neI : Vo2 rNe (.int i) (.int j) (.bl (!decide (i = j))) := by
  have e : decide (V.int i = V.int j) = decide (i = j) := by
    by_cases h : i = j
    · subst h; simp
    · rw [decide_eq_false h, decide_eq_false fun z => h (V.int.inj z)]
  rw [← e]
  exact vo_ne rfl rfl rfl
theorem vo_eqS {x y : Str} : Vo2 rEq (.str x) (.str y) (.bl (decide (x = y))) := by
  have e : decide (V.str x = V.str y) = decide (x = y) := by
    by_cases h : x = y
    · subst h; simp
    · rw [decide_eq_false h, decide_eq_false fun z => h (V.str.inj z)]
  rw [← e]
  exact vo_eq rfl rfl rfl
theorem vo_neS {x y : Str} : Vo2 rNe (.str x) (.str y) (.bl (!decide (x = y))) := by
  have e : decide (V.str x = V.str y) = decide (x = y) := by
    by_cases h : x = y
    · subst h; simp
    · rw [decide_eq_false h, decide_eq_false fun z => h (V.str.inj z)]
  rw [← e]
  exact vo_ne rfl rfl rfl
def D.isNon : D → Bool
  | .non => true
  | _ => false
theorem Rq.isNon {M : Ex} {H : Hw} {v : V} {d : D} (h : Rq M H v d) : decide (v = .non) = d.isNon := by
  cases h with
  | of h => cases h <;> simp [D.isNon]
  | lst => simp [D.isNon]
  | dic => simp [D.isNon]
theorem vo_isN {x : D} : Vo2 (fun x y H Q => y = .non ∧ Q (.bl (decide (x = .non))) H) x .non (.bl x.isNon) := fun M H v w _ h1 h2 Q q => by
  cases h2.non_
  refine ⟨rfl, ?_⟩
  rw [h1.isNon]
  exact q _ H (Grow.refl H) (.bl _)
theorem vo_notN {x : D} : Vo2 (fun x y H Q => y = .non ∧ Q (.bl (!decide (x = .non))) H) x .non (.bl (!x.isNon)) := fun M H v w _ h1 h2 Q q => by
  cases h2.non_
  refine ⟨rfl, ?_⟩
  rw [h1.isNon]
  exact q _ H (Grow.refl H) (.bl _)
/-! ### sequences -/
theorem RpA.ints_ {M : Ex} {H : Hw} : ∀ {ns : List Int} {vs : List V}, RpA M H vs (ns.map D.int) → vs = ns.map V.int
  | [], _, h => by cases h; rfl
  | n :: ns, _, h => by
    cases h with
    | cons a b =>
      cases a
      rw [RpA.ints_ b]
      rfl
theorem ints_flat (ns : List Int) : (ns.map V.int).all flatV = true := by
  rw [List.all_eq_true]
  intro v hv
  obtain ⟨n, _, rfl⟩ := List.mem_map.mp hv
  rfl
theorem ints_in (i : Int) (ns : List Int) : inV (.int i) (ns.map V.int) = decide (i ∈ ns) := by
  unfold inV
  rw [List.any_map]
  induction ns with
  | nil => rfl
  | cons n ns ih =>
    rw [List.any_cons, ih]
    show ((n == i) || decide (i ∈ ns)) = decide (i ∈ n :: ns)
    by_cases h : n = i
    · subst h; simp
    · have h' : ¬ i = n := fun z => h z.symm
      simp [h, h']
/-- a sequence of ints -/
def D.seqI (d : D) (ns : List Int) : Prop := d = .lst (ns.map D.int) ∨ d = .tup (ns.map D.int)
theorem vo_in {y : D} {ns : List Int} (hy : y.seqI ns) : Vo2 (rIn X.K false) (.int i) y (.bl (decide (i ∈ ns))) := fun M H v w _ h1 h2 Q q => by
  cases h1.int_
  have fin : Q (.bl (inV (.int i) (ns.map V.int))) H := by rw [ints_in]; exact q _ H (Grow.refl H) (.bl _)
  rcases hy with rfl | rfl
  · obtain ⟨a, xs, rfl, e, r⟩ := h2.lst_
    rw [r.ints_] at e
    exact ⟨a, _, rfl, .inl (sql_of e), rfl, ints_flat ns, fin⟩
  · obtain ⟨a, xs, rfl, e, _, r⟩ := h2.tup_
    rw [r.ints_] at e
    exact ⟨a, _, rfl, .inr (sqt_of e), rfl, ints_flat ns, fin⟩
theorem vo_notIn {y : D} {ns : List Int} (hy : y.seqI ns) : Vo2 (rIn X.K true) (.int i) y (.bl (!decide (i ∈ ns))) := fun M H v w _ h1 h2 Q q => by
  cases h1.int_
  have fin : Q (.bl (!inV (.int i) (ns.map V.int))) H := by rw [ints_in]; exact q _ H (Grow.refl H) (.bl _)
  rcases hy with rfl | rfl
  · obtain ⟨a, xs, rfl, e, r⟩ := h2.lst_
    rw [r.ints_] at e
    exact ⟨a, _, rfl, .inl (sql_of e), rfl, ints_flat ns, fin⟩
  · obtain ⟨a, xs, rfl, e, _, r⟩ := h2.tup_
    rw [r.ints_] at e
    exact ⟨a, _, rfl, .inr (sqt_of e), rfl, ints_flat ns, fin⟩
theorem RpA.atI {M : Ex} {H : Hw} {vs : List V} {d : D} (r : RpA M H vs ds) (h : L2.atI ds i = some d) : ∃ v, L2.atI vs i = some v ∧ Rp M H v d := by
  unfold L2.atI at h ⊢
  rw [r.length]
  cases e : ixN ds.length i with
  | none => rw [e] at h; cases h
  | some n =>
    rw [e] at h
    obtain ⟨v, h1, h2⟩ := r.at h
    exact ⟨v, h1, h2⟩
theorem vo_ixL {d : D} (h : L2.atI ds i = some d) : Vo2 (rIx X.K) (.lst ds) (.int i) d := fun M H v w _ h1 h2 Q q => by
  cases h2.int_
  obtain ⟨a, xs, rfl, e, r⟩ := h1.lst_
  obtain ⟨u, h3, h4⟩ := r.atI h
  exact .inl ⟨a, xs, i, u, rfl, rfl, sql_of e, h3, q u H (Grow.refl H) h4⟩
theorem vo_ixT {d : D} (h : L2.atI ds i = some d) : Vo2 (rIx X.K) (.tup ds) (.int i) d := fun M H v w _ h1 h2 Q q => by
  cases h2.int_
  obtain ⟨a, xs, rfl, e, _, r⟩ := h1.tup_
  obtain ⟨u, h3, h4⟩ := r.atI h
  exact .inr (.inl ⟨a, xs, i, u, rfl, rfl, sqt_of e, h3, q u H (Grow.refl H) h4⟩)
theorem vo_ixS {z : Str} {k : Nat} (hl : z.length ≤ 16777216) (h : L2.atI z.cps.toList i = some k) : Vo2 (rIx X.K) (.str z) (.int i) (.str ⟨#[k]⟩) := fun M H v w _ h1 h2 Q q => by
  cases h2.int_
  cases h1.str_
  exact .inr (.inr ⟨z, i, k, rfl, rfl, sz hl, h, q _ H (Grow.refl H) (.str _)⟩)
theorem vo_cat (h : ds.length + es.length ≤ 16777216) : Vo2 rCat (.lst ds) (.lst es) (.lst (ds ++ es)) := fun M H v w hk h1 h2 Q q => by
  obtain ⟨a, xs, rfl, e, r⟩ := h1.lst_
  obtain ⟨b, ys, rfl, e', r'⟩ := h2.lst_
  exact ⟨a, b, xs, ys, rfl, rfl, e, e', by rw [r.length, r'.length]; exact sz h, fun p hp => q _ _ (Grow.new hp) (.lst upd_same (fun z => hk p z hp) (RpA.to (Grow.new hp).goes _ _ (r.app r')))⟩
theorem vo_catT (h : ds.length + es.length ≤ 16777216) : Vo2 (rCatAZ X.K) (.tup ds) (.tup es) (.tup (ds ++ es)) := fun M H v w hk h1 h2 Q q => by
  obtain ⟨a, xs, rfl, e, m, r⟩ := h1.tup_
  obtain ⟨b, ys, rfl, e', m', r'⟩ := h2.tup_
  refine ⟨a, b, xs, ys, rfl, rfl, sqt_of e, sqt_of e', by rw [r.length, r'.length]; exact sz h, fun z => ?_, fun _ z => ?_, fun _ _ p ob od hp => q _ _ (Grow.new hp) (.tup (tupAt_upd od) (fun z => hk p z hp) (RpA.to (Grow.new hp).goes _ _ (r.app r')))⟩
  · subst z
    have : ds = [] := by cases ds with | nil => rfl | cons _ _ => cases r
    subst this
    exact q _ H (Grow.refl H) (.tup e' m' r')
  · subst z
    have : es = [] := by cases es with | nil => rfl | cons _ _ => cases r'
    subst this
    have q' := q (.ref a) H (Grow.refl H)
    rw [List.append_nil] at q'
    exact q' (.tup e m r)
theorem vo_rep (h1 : -(2 ^ 60) ≤ i) (h2 : i < 2 ^ 60) (h : ds.length * i.toNat ≤ 16777216) : Vo2 rRep (.lst ds) (.int i) (.lst (List.replicate i.toNat ds).flatten) := fun M H v w hk g1 g2 Q q => by
  cases g2.int_
  obtain ⟨a, xs, rfl, e, r⟩ := g1.lst_
  exact ⟨a, i, xs, rfl, rfl, e, by omega, by omega, by rw [r.length]; exact sz h, fun p hp => q _ _ (Grow.new hp) (.lst upd_same (fun z => hk p z hp) (RpA.to (Grow.new hp).goes _ _ (r.rep i.toNat)))⟩
/-! ### lengths, lists and tuples made -/
def D.len? : D → Option Nat
  | .lst ds => some ds.length
  | .tup ds => some ds.length
  | .str x => if x.length ≤ 16777216 then some x.length else none
  | _ => none
theorem vo_len {x : D} {n : Nat} (h : x.len? = some n) : Von (fun xs H Q => ∃ x n, xs = [x] ∧ LenV X.K x H n ∧ Q (.int n) H) [x] (.int (n : Nat)) := fun M H vs _ h1 Q q => by
  cases h1 with
  | cons h1 h2 =>
    cases h2
    cases x with
    | lst ds =>
      cases h
      obtain ⟨a, xs, rfl, e, r⟩ := h1.lst_
      exact ⟨_, _, rfl, .inl ⟨xs, sql_of e, rfl⟩, by rw [r.length]; exact q _ H (Grow.refl H) (.int _)⟩
    | tup ds =>
      cases h
      obtain ⟨a, xs, rfl, e, _, r⟩ := h1.tup_
      exact ⟨_, _, rfl, .inr ⟨xs, sqt_of e, rfl⟩, by rw [r.length]; exact q _ H (Grow.refl H) (.int _)⟩
    | str z =>
      cases h1.str_
      have h' : (if z.length ≤ 16777216 then some z.length else none) = some n := h
      split at h'
      · rename_i hz
        cases h'
        exact ⟨_, _, rfl, ⟨sz hz, rfl⟩, q _ H (Grow.refl H) (.int _)⟩
      · cases h'
    | non => cases h
    | bl _ => cases h
    | int _ => cases h
    | dic _ => cases h
    | ad _ => cases h
def D.items? : D → Option (List D)
  | .lst ds => some ds
  | .tup ds => some ds
  | _ => none
theorem vo_list {x : D} (h : x.items? = some ds) : Von (fun xs H Q => ∃ p ys, xs = [.ref p] ∧ (SqL X.K H p ys ∨ SqT X.K H p ys) ∧ ∀ l, H l = none → Q (.ref l) (upd H l (.lst ys))) [x] (.lst ds) := fun M H vs hk h1 Q q => by
  cases h1 with
  | cons h1 h2 =>
    cases h2
    cases x with
    | lst es =>
      cases h
      obtain ⟨a, xs, rfl, e, r⟩ := h1.lst_
      exact ⟨a, xs, rfl, .inl (sql_of e), fun p hp => q _ _ (Grow.new hp) (.lst upd_same (fun z => hk p z hp) (RpA.to (Grow.new hp).goes _ _ r))⟩
    | tup es =>
      cases h
      obtain ⟨a, xs, rfl, e, _, r⟩ := h1.tup_
      exact ⟨a, xs, rfl, .inr (sqt_of e), fun p hp => q _ _ (Grow.new hp) (.lst upd_same (fun z => hk p z hp) (RpA.to (Grow.new hp).goes _ _ r))⟩
    | str z => cases h
    | non => cases h
    | bl _ => cases h
    | int _ => cases h
    | dic _ => cases h
    | ad _ => cases h
theorem vo_tuple {x : D} (h : x.items? = some ds) : Von (fun xs H Q => ∃ p ys, xs = [.ref p] ∧ ((SqL X.K H p ys ∧ ∀ (l : Addr) (o : Obj), o.dict = none → H l = none → Q (.ref l) (upd H l (.frz o (.tup ys)))) ∨ (SqT X.K H p ys ∧ Q (.ref p) H))) [x] (.tup ds) := fun M H vs hk h1 Q q => by
  cases h1 with
  | cons h1 h2 =>
    cases h2
    cases x with
    | lst es =>
      cases h
      obtain ⟨a, xs, rfl, e, r⟩ := h1.lst_
      exact ⟨a, xs, rfl, .inl ⟨sql_of e, fun p ob od hp => q _ _ (Grow.new hp) (.tup (tupAt_upd od) (fun z => hk p z hp) (RpA.to (Grow.new hp).goes _ _ r))⟩⟩
    | tup es =>
      cases h
      obtain ⟨a, xs, rfl, e, m, r⟩ := h1.tup_
      exact ⟨a, xs, rfl, .inr ⟨sqt_of e, q _ H (Grow.refl H) (.tup e m r)⟩⟩
    | str z => cases h
    | non => cases h
    | bl _ => cases h
    | int _ => cases h
    | dic _ => cases h
    | ad _ => cases h
theorem vo_int1 : Von (fun xs H Q => (∃ i, xs = [.int i] ∧ Q (.int i) H) ∨ ∃ k, xs = [.bl k] ∧ Q (.int (if k then 1 else 0)) H) [.int i] (.int i) := fun M H vs hk h1 Q q => by
  cases h1 with
  | cons h1 h2 =>
    cases h2
    cases h1.int_
    exact .inl ⟨i, rfl, q _ H (Grow.refl H) (.int _)⟩
theorem vo_int1B {b : Bool} : Von (fun xs H Q => (∃ i, xs = [.int i] ∧ Q (.int i) H) ∨ ∃ k, xs = [.bl k] ∧ Q (.int (if k then 1 else 0)) H) [.bl b] (.int (if b then 1 else 0)) := fun M H vs hk h1 Q q => by
  cases h1 with
  | cons h1 h2 =>
    cases h2
    cases h1.bl_
    exact .inr ⟨b, rfl, q _ H (Grow.refl H) (.int _)⟩
theorem vo_abs : Von (fun xs H Q => ∃ i, xs = [.int i] ∧ Q (.int (if i < 0 then -i else i)) H) [.int i] (.int (if i < 0 then -i else i)) := fun M H vs hk h1 Q q => by
  cases h1 with
  | cons h1 h2 =>
    cases h2
    cases h1.int_
    exact ⟨i, rfl, q _ H (Grow.refl H) (.int _)⟩
theorem vo_min2 : Von (fun xs H Q => ∃ i j, xs = [.int i, .int j] ∧ Q (.int (if j < i then j else i)) H) [.int i, .int j] (.int (if j < i then j else i)) := fun M H vs hk h1 Q q => by
  cases h1 with
  | cons h1 h2 =>
    cases h2 with
    | cons h2 h3 =>
      cases h3
      cases h1.int_
      cases h2.int_
      exact ⟨i, j, rfl, q _ H (Grow.refl H) (.int _)⟩
theorem vo_all {bs : List Bool} : Von (rAll X.K) [.lst (bs.map D.bl)] (.bl (bs.all id)) := fun M H vs hk h1 Q q => by
  cases h1 with
  | cons h1 h2 =>
    cases h2
    obtain ⟨a, xs, rfl, e, r⟩ := h1.lst_
    have : ∀ {bs : List Bool} {vs : List V}, RpA M H vs (bs.map D.bl) → vs = bs.map V.bl := by
      intro bs
      induction bs with
      | nil => intro vs h; cases h; rfl
      | cons b bs ih =>
        intro vs h
        cases h with
        | cons p r => cases p; rw [ih r]; rfl
    rw [this r] at e
    exact ⟨a, bs, rfl, sql_of e, q _ H (Grow.refl H) (.bl _)⟩
end
/-! ### built-ins by name -/
section
variable {c : Co} {k : Nat} {Γ : Ga} {P : D → Ga → Prop} {a b e : Expr} {es : List Expr} {pos p : Pos}
theorem eq_mono {P' : D → Ga → Prop} (h : EvQ c e Γ P) (k : ∀ d Γ', P d Γ' → P' d Γ') : EvQ c e Γ P' := fun σ H r Q W tk xw q => h σ H r Q W tk xw fun v d Γ' H' g p hp => q v d Γ' H' g p (k d Γ' hp)
theorem av_mono {P P' : List D → Ga → Prop} (h : Av c es Γ P) (k : ∀ d Γ', P d Γ' → P' d Γ') : Av c es Γ P' := fun σ H r Q W tk xw q => h σ H r Q W tk xw fun v d Γ' H' g p hp => q v d Γ' H' g p (k d Γ' hp)
theorem ev_len (hm : c.X.mg "len" = none) (h : EvQ c a Γ fun d Γ1 => ∃ n, d.len? = some n ∧ P (.int (n : Nat)) Γ1) (hg : Gl c.X "len") (hs : starEach [a] c.X.env = (false, eval a c.X.env) :: starEach [] c.X.env := by rfl) (hpl : (backTo pos (starEach [] c.X.env)).any (·.1) = false := by rfl) : Ev c (.Call (.Name "len" p) [a] [] pos) Γ P :=
  evn1 (fun ha => pe_callB call_len hg hm PySem.boot_len ha (by decide) (by decide) hs hpl) (eq_mono h fun d Γ1 ⟨n, e, hp⟩ => ⟨_, vo_len e, hp⟩) hs
theorem ev_listOf (hm : c.X.mg "list" = none) (h : EvQ c a Γ fun d Γ1 => ∃ ds, d.items? = some ds ∧ P (.lst ds) Γ1) (hg : Gl c.X "list") (hs : starEach [a] c.X.env = (false, eval a c.X.env) :: starEach [] c.X.env := by rfl) (hpl : (backTo pos (starEach [] c.X.env)).any (·.1) = false := by rfl) : Ev c (.Call (.Name "list" p) [a] [] pos) Γ P :=
  evn1 (fun ha => pe_callTy call_list_of hg hm (by decide +kernel) ha (by decide) (by decide) hs hpl) (eq_mono h fun d Γ1 ⟨n, e, hp⟩ => ⟨_, vo_list e, hp⟩) hs
theorem ev_tupleOf (hm : c.X.mg "tuple" = none) (h : EvQ c a Γ fun d Γ1 => ∃ ds, d.items? = some ds ∧ P (.tup ds) Γ1) (hg : Gl c.X "tuple") (hs : starEach [a] c.X.env = (false, eval a c.X.env) :: starEach [] c.X.env := by rfl) (hpl : (backTo pos (starEach [] c.X.env)).any (·.1) = false := by rfl) : Ev c (.Call (.Name "tuple" p) [a] [] pos) Γ P :=
  evn1 (fun ha => pe_callTy call_tupleAZ hg hm (by decide +kernel) ha (by decide) (by decide) hs hpl) (eq_mono h fun d Γ1 ⟨n, e, hp⟩ => ⟨_, vo_tuple e, hp⟩) hs
theorem ev_intOf (hm : c.X.mg "int" = none) (h : Ev c a Γ fun d Γ1 => (∃ i, d = .int i ∧ P (.int i) Γ1) ∨ ∃ b, d = .bl b ∧ P (.int (if b then 1 else 0)) Γ1) (hg : Gl c.X "int") (hs : starEach [a] c.X.env = (false, eval a c.X.env) :: starEach [] c.X.env := by rfl) (hpl : (backTo pos (starEach [] c.X.env)).any (·.1) = false := by rfl) : Ev c (.Call (.Name "int" p) [a] [] pos) Γ P :=
  evn1 (fun ha => pe_callTy call_int1 hg hm (by decide +kernel) ha (by decide) (by decide) hs hpl) (eq_of (ev_mono h fun d Γ1 h => by
    rcases h with ⟨i, rfl, hp⟩ | ⟨b, rfl, hp⟩
    · exact ⟨_, vo_int1, hp⟩
    · exact ⟨_, vo_int1B, hp⟩)) hs
theorem ev_min2 (bd : Bd c k) (hm : c.X.mg "min" = none) (h : Av c [a, b] Γ fun ds Γ1 => ∃ i j, ds = [.int i, .int j] ∧ P (.int (if j < i then j else i)) Γ1) (hg : Gl c.X "min") (hs : starEach [a, b] c.X.env = (false, eval a c.X.env) :: starEach [b] c.X.env := by rfl) (hpl : (backTo pos (starEach [b] c.X.env)).any (·.1) = false := by rfl) : Ev c (.Call (.Name "min" p) [a, b] [] pos) Γ P :=
  evn (fun ha => pe_callB (call_min2 bd.calm) hg hm (by decide +kernel) ha (by decide) (by decide) hs hpl) (av_mono h fun d Γ1 ⟨i, j, e, hp⟩ => ⟨_, by rw [e]; exact vo_min2, hp⟩)
theorem ev_all (bd : Bd c k) (hm : c.X.mg "all" = none) (h : EvQ c a Γ fun d Γ1 => ∃ bs : List Bool, d = .lst (bs.map D.bl) ∧ P (.bl (bs.all id)) Γ1) (hg : Gl c.X "all") (hs : starEach [a] c.X.env = (false, eval a c.X.env) :: starEach [] c.X.env := by rfl) (hpl : (backTo pos (starEach [] c.X.env)).any (·.1) = false := by rfl) : Ev c (.Call (.Name "all" p) [a] [] pos) Γ P :=
  evn1 (fun ha => pe_callB (cr_all bd.calm) hg hm (by decide +kernel) ha (by decide) (by decide) hs hpl) (eq_mono h fun d Γ1 ⟨n, e, hp⟩ => ⟨_, by rw [e]; exact vo_all, hp⟩) hs
/-! ### isinstance of built-in types -/
def tyOf : D → String
  | .non => "NoneType"
  | .bl _ => "bool"
  | .int _ => "int"
  | .str _ => "str"
  | .lst _ => "list"
  | .tup _ => "tuple"
  | .dic _ => "dict"
  | .ad _ => ""
def D.isAd : D → Bool
  | .ad _ => true
  | _ => false
def isTyN (T t : String) : Bool := t == T || (T == "int" && t == "bool")
def kindNames : List String := ["NoneType", "bool", "int", "str", "list", "tuple", "dict"]
theorem tyOf_mem {d : D} (h : d.isAd = false) : tyOf d ∈ kindNames := by
  cases d with
  | ad _ => cases h
  | _ => simp [tyOf, kindNames]
theorem Rq.ty {K : PySem.W.Frag} {M : Ex} {H : Hw} {v : V} {d : D} (r : Rq M H v d) (h : d.isAd = false) : TyX K H v (.type (tyOf d)) := by
  cases d with
  | non => cases r.non_; exact .base .non
  | bl b => cases r.bl_; exact .base (.bl b)
  | int i => cases r.int_; exact .base (.int i)
  | str x => cases r.str_; exact .base (.str x)
  | lst ds => obtain ⟨a, xs, rfl, e, _⟩ := r.lst_; exact .base (.lst e)
  | tup ds => obtain ⟨a, xs, rfl, ⟨o, e, _⟩, _⟩ := r.tup_; exact .fTuple e
  | dic ds => obtain ⟨a, xs, rfl, e, _⟩ := r.dic_; exact .base (.dK e)
  | ad _ => cases h
theorem ev_isi {T : Str} {T' : String} {p2 : Pos} (hm : c.X.mg "isinstance" = none) (hmT : c.X.mg T = none) (hvT : bootBuiltins T = some (.type T')) (hk : (kindNames.all fun t => decide (kitB t T' = some (isTyN T' t))) = true) (h : EvQ c a Γ fun d Γ1 => d.isAd = false ∧ P (.bl (isTyN T' (tyOf d))) Γ1)
    (hg : Gl c.X "isinstance") (hgT : Gl c.X T) (hnT : T ≠ "__name__" := by decide) (hdT : (T == ("__debug__" : Str)) = false := by decide) (hs : starEach [a, .Name T p2] c.X.env = (false, eval a c.X.env) :: starEach [.Name T p2] c.X.env := by rfl)
    (hs2 : starEach [.Name T p2] c.X.env = (false, eval (.Name T p2) c.X.env) :: starEach [] c.X.env := by rfl) (hpl : (backTo pos (starEach [.Name T p2] c.X.env)).any (·.1) = false := by rfl) :
    Ev c (.Call (.Name "isinstance" p) [a, .Name T p2] [] pos) Γ P := fun σ H er Q W tk xw q =>
  outE (pe_callB call_isi hg hm (by decide +kernel) (pa_cons selfE (pa_cons (pe_bltn hgT hmT hvT (v := .ty T') rfl hnT hdT) pa_nil hs2) hs) (by decide) (by decide) hs hpl) (h σ H er _ W tk xw fun v d Γ1 H1 g r ⟨hd, hp⟩ =>
    ⟨v, .ty T', .type (tyOf d), .type T', isTyN T' (tyOf d), rfl, .ty T', r.ty hd, kit_ty (of_decide_eq_true (List.all_eq_true.mp hk _ (tyOf_mem hd))), q _ _ Γ1 H1 g (.bl _) hp⟩)
/-! ### subscripts, slices -/
theorem ev_ix (h : Ev c a Γ fun x Γ1 => EvQ c b Γ1 fun y Γ2 => ∃ i, y = .int i ∧ ∃ z, ((∃ ds, x.items? = some ds ∧ L2.atI ds i = some z) ∨ ∃ s k, x = .str s ∧ s.length ≤ 16777216 ∧ L2.atI s.cps.toList i = some k ∧ z = .str ⟨#[k]⟩) ∧ P z Γ2) (hx : PlainIx b := by intro _ _; rfl) : Ev c (.Subscript a b pos) Γ P :=
  ev2 (fun h1 h2 => pe_ix ix_seq h1 h2 hx) (ev_mono h fun x Γ1 h => eq_mono h fun y Γ2 ⟨i, e, z, h, hp⟩ => by
    subst e
    rcases h with ⟨ds, e, hz⟩ | ⟨s, k, rfl, hl, hz, rfl⟩
    · cases x with
      | lst es => cases e; exact ⟨z, vo_ixL hz, hp⟩
      | tup es => cases e; exact ⟨z, vo_ixT hz, hp⟩
      | non => cases e
      | bl _ => cases e
      | int _ => cases e
      | str _ => cases e
      | dic _ => cases e
      | ad _ => cases e
    · exact ⟨_, vo_ixS hl hz, hp⟩)
/-- a list of this body's own, by an index -/
theorem ev_ixo {x : Str} {ds : List D} {npos : Pos} (i : Nat) (hN : c.X.N[i]? = some x) (hv : Vis c.X.env.scope x) (hd : Γ[i]? = some (.own ds)) (h : EvQ c b Γ fun y Γ2 => Γ2[i]? = some (.own ds) ∧ ∃ j, y = .int j ∧ ∃ z, L2.atI ds j = some z ∧ P z Γ2) (hx : PlainIx b := by intro _ _; rfl) (hdb : (x == ("__debug__" : Str)) = false := by decide) (hcd : (x == ("__classdict__" : Str)) = false := by decide) : Ev c (.Subscript (.Name x npos) b pos) Γ P :=
  ev2o i hN hv hd (fun h1 h2 => pe_ix ix_seq h1 h2 hx) (eq_mono h fun y Γ2 ⟨h1, j, e, z, hz, hp⟩ => ⟨h1, z, by rw [e]; exact vo_ixL hz, hp⟩) hdb hcd
/-- a part of a slice -/
def Ov (c : Co) (e : Option Expr) (Γ : Ga) (P : Option Int → Ga → Prop) : Prop := match e with
  | none => P none Γ
  | some e => Ev c e Γ fun d Γ1 => ∃ i, d = .int i ∧ P (some i) Γ1
def wpO (X : Cx) (e : Option Expr) : TO := match e with
  | none => tNoPart
  | some e => tPart (wpE X e)
theorem selfO {X : Cx} {e : Option Expr} : PO X e (wpO X e) := by
  cases e with
  | none => exact po_none
  | some e => exact po_some selfE
theorem ov_run {e : Option Expr} {P : Option Int → Ga → Prop} (h : Ov c e Γ P) {σ : Sw} {H : Hw} (er : ER c.U c.M H σ Γ) {Q : Option Int → Hw → Prop} {W : WX} (tk : Takes c.X W) (xw : XW c σ Γ H W) (q : ∀ o Γ' H', Go c σ Γ H Γ' H' → P o Γ' → Q o H') : wpO c.X e σ H Q := by
  cases e with
  | none => exact q none Γ H (.refl er) h
  | some e =>
    refine h σ H er _ W tk xw fun v d Γ1 H1 g p ⟨i, e, hp⟩ => ?_
    subst e
    cases p
    exact ⟨i, rfl, q _ Γ1 H1 g hp⟩
def cut {α : Type} (xs : List α) (lo hi : Option Int) : List α := (xs.drop (HT.sIx xs.length 0 lo)).take (HT.sIx xs.length xs.length hi - HT.sIx xs.length 0 lo)
theorem RpA.cut {M : Ex} {H : Hw} {vs : List V} {ds : List D} (r : RpA M H vs ds) (lo hi : Option Int) : RpA M H (cutV vs lo hi) (cut ds lo hi) := by
  unfold cutV U.cut
  rw [r.length]
  exact (r.drop _).take _
theorem cut_all {α : Type} (xs : List α) {lo hi : Option Int} (h : HT.sIx xs.length 0 lo = 0 ∧ HT.sIx xs.length xs.length hi = xs.length) : cut xs lo hi = xs := by
  unfold cut
  rw [h.1, h.2]
  simp
/-- e[lo:hi] of a tuple, a list, a text -/
inductive Cut (lo hi : Option Int) : D → D → Prop
  | lst (ds : List D) : Cut lo hi (.lst ds) (.lst (cut ds lo hi))
  | tup (ds : List D) : Cut lo hi (.tup ds) (.tup (cut ds lo hi))
  | str (z : Str) (h : z.length ≤ 16777216) : Cut lo hi (.str z) (.str (cutS z lo hi))
theorem ev_slice {lo hi : Option Expr} {p2 : Pos} (h : Ev c a Γ fun x Γ1 => Ov c lo Γ1 fun l Γ2 => Ov c hi Γ2 fun u Γ3 => ∃ z, Cut l u x z ∧ P z Γ3) : Ev c (.Subscript a (.Slice lo hi none p2) pos) Γ P := fun σ H er Q W tk xw q => by
  refine outE (pe_slice (SlR.or sl_list (SlR.or sl_tupAZ sl_str)) selfE selfO selfO) (h σ H er _ W tk xw fun v x Γ1 H1 g1 p1 h1 => ov_run h1 g1.er tk (xw.on g1.er g1.st) fun l Γ2 H2 g2 h2 => ov_run h2 g2.er tk ((xw.on g1.er g1.st).on g2.er g2.st) fun u Γ3 H3 g3 ⟨z, hc, hp⟩ => ?_)
  have G := (g1.trans g2).trans g3
  have p3 := Rp.to (g3.goes g2.er) _ _ (Rp.to (g2.goes g1.er) _ _ p1)
  cases hc with
  | lst ds =>
    cases p3 with
    | lst e m r => exact .inl ⟨_, _, rfl, sql_of e, fun p hp' => q _ _ Γ3 _ (G.grow (Grow.new hp')) (.lst upd_same (fun z => G.er.mx p z hp') (RpA.to (Grow.new hp').goes _ _ (r.cut l u))) hp⟩
  | tup ds =>
    cases p3 with
    | tup e m r =>
      refine .inr (.inl ⟨_, _, rfl, sqt_of e, fun hw => ?_, fun hw p ob od hp' => q _ _ Γ3 _ (G.grow (Grow.new hp')) (.tup (tupAt_upd od) (fun z => G.er.mx p z hp') (RpA.to (Grow.new hp').goes _ _ (r.cut l u))) hp⟩)
      rw [r.length] at hw
      rw [cut_all ds hw] at hp
      exact q _ _ Γ3 H3 G (.tup e m r) hp
  | str z hz =>
    cases p3
    exact .inr (.inr ⟨z, rfl, sz hz, q _ _ Γ3 H3 G (.str _) hp⟩)
end
end U
/-! U10: repr and == over data. -/
namespace U
open PySem PySem.Spec PyProof.Rows L2
def keyPy : L2.Key → PyData
  | .inl i => .int i
  | .inr x => .str x
mutual
def toPy : D → PyData
  | .non => .none
  | .bl b => .bool b
  | .int i => .int i
  | .str x => .str x
  | .lst xs => .list (toPyA xs)
  | .tup xs => .tuple (toPyA xs)
  | .dic _ => .dict []
  | .ad _ => .none
def toPyA : List D → List PyData
  | [] => []
  | x :: xs => toPy x :: toPyA xs
end
mutual
/-- no dict, no address -/
def D.pl : D → Bool
  | .lst xs => D.plA xs
  | .tup xs => D.plA xs
  | .dic _ => false
  | .ad _ => false
  | _ => true
def D.plA : List D → Bool
  | [] => true
  | x :: xs => x.pl && D.plA xs
end
section
variable {X : Cx} {pins : List (Addr × Obj)} {σ : Sw} {H : Hw} {M : Ex} {s : Shared}
mutual
theorem Rp.dp : ∀ (d : D) (v : V), d.pl = true → Rp M H v d → Dp X.K H v (toPy d)
  | .non, _, _, h => by cases h; simp only [toPy]; exact .non
  | .bl _, _, _, h => by cases h; simp only [toPy]; exact .bl _
  | .int _, _, _, h => by cases h; simp only [toPy]; exact .int _
  | .str _, _, _, h => by cases h; simp only [toPy]; exact .str _
  | .lst ds, _, e, h => by
    cases h with
    | lst a b c =>
      simp only [toPy]
      exact .lst (sql_of a) (RpA.dp ds _ (by simpa only [D.pl] using e) c)
  | .tup ds, _, e, h => by
    cases h with
    | tup a b c =>
      simp only [toPy]
      exact .tup (sqt_of a) (RpA.dp ds _ (by simpa only [D.pl] using e) c)
  | .dic _, _, e, _ => by simp [D.pl] at e
  | .ad _, _, e, _ => by simp [D.pl] at e
theorem RpA.dp : ∀ (ds : List D) (vs : List V), D.plA ds = true → RpA M H vs ds → DpAll X.K H vs (toPyA ds)
  | [], _, _, h => by cases h; simp only [toPyA]; exact .nil
  | d :: ds, _, e, h => by
    have e' : d.pl = true ∧ D.plA ds = true := by simpa only [D.plA, Bool.and_eq_true] using e
    cases h with
    | cons a b =>
      simp only [toPyA]
      exact .cons (Rp.dp d _ e'.1 a) (RpA.dp ds _ e'.2 b)
end
theorem Rq.dp {d : D} {v : V} (e : d.pl = true) (h : Rq M H v d) : Dp X.K H v (toPy d) := by
  cases h with
  | of h => exact Rp.dp d v e h
  | lst a c =>
    simp only [toPy]
    exact .lst (sql_of a) (RpA.dp _ _ (by simpa only [D.pl] using e) c)
  | dic _ _ => simp [D.pl] at e
end
/-! ### how long, how deep -/
structure Rk (d : D) (n k : Nat) : Prop where
  pl : d.pl = true
  nd : (toPy d).hasDict = false
  sh : (toPy d).showable = true
  ln : (toPy d).shown.length ≤ n
  dp : (toPy d).depth ≤ k
structure RkA (ds : List D) (n k : Nat) : Prop where
  pl : D.plA ds = true
  nd : PyData.hasDictAll (toPyA ds) = false
  sh : PyData.showableAll (toPyA ds) = true
  ln : ((PyData.shownAll (toPyA ds)).map (·.length)).sum + 2 * (toPyA ds).length ≤ n
  dp : PyData.depthAll (toPyA ds) ≤ k
theorem Rk.le {d : D} {n m k j : Nat} (h : Rk d n k) (a : n ≤ m) (b : k ≤ j) : Rk d m j := ⟨h.pl, h.nd, h.sh, Nat.le_trans h.ln a, Nat.le_trans h.dp b⟩
theorem rk_non {k : Nat} : Rk .non 4 k := ⟨rfl, by simp [toPy, PyData.hasDict], by simp [toPy, PyData.showable], by simp only [toPy, PyData.shown]; decide, by simp [toPy, PyData.depth]⟩
theorem rk_bl {b : Bool} {k : Nat} : Rk (.bl b) 5 k := ⟨rfl, by simp [toPy, PyData.hasDict], by simp [toPy, PyData.showable], by simp only [toPy, PyData.shown]; cases b <;> decide, by simp [toPy, PyData.depth]⟩
theorem int_shown {i : Int} {n : Nat} (hn : 0 < n) (h : i.natAbs < 2 ^ n) : (PyData.shown (.int i)).length ≤ n + 1 := by
  have e := int_text_length_le hn (PySem.Flt.log2_lt_of hn h)
  have e2 : (PyData.shown (.int i)).length = (toString i).length := by
    simp only [PyData.shown]
    exact PySem.ofString_length _
  omega
theorem rk_int {i : Int} {n k : Nat} (h : i.natAbs < 2 ^ n) (h0 : 0 < n) (hn : n ≤ 1900) : Rk (.int i) (n + 1) k :=
  ⟨rfl, by simp [toPy, PyData.hasDict], by simp only [toPy, PyData.showable, decide_eq_true_eq]; exact Nat.lt_of_lt_of_le (PySem.Flt.log2_lt_of h0 h) (by omega), by simp only [toPy]; exact int_shown h0 h, by simp [toPy, PyData.depth]⟩
theorem rk_str {x : Str} {k : Nat} (h : ∀ c ∈ x.cps.toList, c < 16 ^ 8) : Rk (.str x) (10 * x.length + 2) k := ⟨rfl, by simp [toPy, PyData.hasDict], by simp [toPy, PyData.showable], by simp only [toPy, PyData.shown]; exact StrLaws.reprText_len x h, by simp [toPy, PyData.depth]⟩
theorem rka_nil {k : Nat} : RkA [] 0 k := ⟨rfl, by simp [toPyA, PyData.hasDictAll], by simp [toPyA, PyData.showableAll], by simp [toPyA, PyData.shownAll], by simp [toPyA, PyData.depthAll]⟩
theorem rka_cons {d : D} {ds : List D} {n m k : Nat} (h : Rk d n k) (r : RkA ds m k) : RkA (d :: ds) (n + 2 + m) k := by
  refine ⟨by simp [D.plA, h.pl, r.pl], by simp [toPyA, PyData.hasDictAll, h.nd, r.nd], by simp [toPyA, PyData.showableAll, h.sh, r.sh], ?_, ?_⟩
  · have a := h.ln
    have b := r.ln
    simp only [toPyA, PyData.shownAll, List.map_cons, List.sum_cons, List.length_cons]
    omega
  · have a := h.dp
    have b := r.dp
    simp only [toPyA, PyData.depthAll]
    omega
theorem shownAll_len : ∀ ds : List PyData, (PyData.shownAll ds).length = ds.length
  | [] => rfl
  | d :: ds => by simp only [PyData.shownAll, List.length_cons, shownAll_len ds]
theorem rk_lst {ds : List D} {n k : Nat} (r : RkA ds n k) : Rk (.lst ds) (n + 3) (k + 1) := by
  refine ⟨by simp only [D.pl]; exact r.pl, by simp only [toPy, PyData.hasDict]; exact r.nd, by simp only [toPy, PyData.showable]; exact r.sh, ?_, ?_⟩
  · have a := listText_len_le (PyData.shownAll (toPyA ds))
    have b := r.ln
    rw [shownAll_len] at a
    simp only [toPy, PyData.shown]
    omega
  · have b := r.dp
    simp only [toPy, PyData.depth]
    omega
theorem rk_tup {ds : List D} {n k : Nat} (r : RkA ds n k) : Rk (.tup ds) (n + 3) (k + 1) := by
  refine ⟨by simp only [D.pl]; exact r.pl, by simp only [toPy, PyData.hasDict]; exact r.nd, by simp only [toPy, PyData.showable]; exact r.sh, ?_, ?_⟩
  · have a := tupleText_len_le (PyData.shownAll (toPyA ds))
    have b := r.ln
    rw [shownAll_len] at a
    simp only [toPy, PyData.shown]
    omega
  · have b := r.dp
    simp only [toPy, PyData.depth]
    omega
theorem rka_all {n k : Nat} : ∀ {ds : List D}, (∀ d ∈ ds, Rk d n k) → RkA ds ((n + 2) * ds.length) k
  | [], _ => by simpa using rka_nil
  | d :: ds, h => by
    have a := rka_cons (h d List.mem_cons_self) (rka_all fun x hx => h x (List.mem_cons_of_mem _ hx))
    have e : n + 2 + (n + 2) * ds.length = (n + 2) * (d :: ds).length := by rw [List.length_cons, Nat.mul_succ]; omega
    rw [← e]
    exact a
theorem rka_ints {n k : Nat} {ns : List Int} (h : ∀ i ∈ ns, i.natAbs < 2 ^ n) (h0 : 0 < n) (hn : n ≤ 1900) : RkA (ns.map D.int) ((n + 3) * ns.length) k := by
  have a := rka_all (ds := ns.map D.int) (n := n + 1) (k := k) fun d hd => by
    obtain ⟨i, hi, rfl⟩ := List.mem_map.mp hd
    exact rk_int (h i hi) h0 hn
  simpa using a
/-- repr(d) -/
def shw (d : D) : Str := (toPy d).shown
section
variable {c : Co} {k : Nat} {Γ : Ga} {P : D → Ga → Prop} {a b e : Expr} {es : List Expr} {pos p : Pos} {X : Cx}
theorem call_repr_data (gd : X.A.guards = some []) (hu : X.A.units + 64 < cLine) {M : Ex} {H : Hw} {v : V} {d : D} {n j : Nat} (r : Rq M H v d) (h : Rk d n j) (hn : n ≤ 16777216) (hj : j ≤ 60) {pins : List (Addr × Obj)} {s : Shared} {σ : Sw} {u : Value} {Q : VK} (I : Inv X pins σ H s) (ru : RelV v u) (q : Q (.str (shw d)) H) :
    wpAny (model X.prog X.w) X.A (call (.builtin "repr") [u]) (EP X pins σ Q) X.xe s := by
  have hz : (toPy d).shown.length ≤ sizeLine := Nat.le_trans h.ln (sz hn)
  obtain ⟨as, rd⟩ := Dp.reads I (toPy d) v u (r.dp (X := X) h.pl) ru
  have deep : ∀ (a : Addr), u = .ref a → wpAny (model X.prog X.w) X.A (call (.builtin "repr") [u]) (EP X pins σ Q) X.xe s := fun a e => by
    subst e
    have hd := h.dp
    exact repr_of_reads' rd h.sh (fun z => by rw [h.nd] at z; cases z) gd (by omega) (fun _ _ e => e) (fun h' u tk hk => ⟨.str (shw d), H, I.kept (t' := tk) hk, ⟨u, rfl⟩, q⟩) hz
  cases d with
  | non =>
    cases r.non_
    cases ru
    exact PySem.P.repr_of_none ⟨.str (shw .non), H, I.tok _, ⟨s.toks, by simp only [shw, toPy, PyData.shown]⟩, q⟩
  | bl b =>
    cases r.bl_
    cases ru
    refine PySem.P.repr_of_bool ⟨.str (shw (.bl b)), H, I.tok _, ⟨s.toks, ?_⟩, q⟩
    simp only [shw, toPy, PyData.shown]
  | int i =>
    cases r.int_
    obtain ⟨t, rfl⟩ := ru
    refine PySem.P.repr_of_int (by have := h.sh; simpa only [toPy, PyData.showable, decide_eq_true_eq] using this) ⟨.str (shw (.int i)), H, I.tok _, ⟨s.toks, by simp only [shw, toPy, PyData.shown]⟩, q⟩
  | str x =>
    cases r.str_
    obtain ⟨t, rfl⟩ := ru
    exact PySem.P.repr_of_str ⟨.str (shw (.str x)), H, I.tok _, ⟨s.toks, by simp only [shw, toPy, PyData.shown]⟩, q⟩ (by simpa only [toPy, PyData.shown] using hz)
  | lst ds =>
    obtain ⟨a, xs, rfl, _⟩ := r.lst_
    exact deep a ru
  | tup ds =>
    obtain ⟨a, xs, rfl, _⟩ := r.tup_
    exact deep a ru
  | dic _ => have z := h.pl; simp [D.pl] at z
  | ad _ => have z := h.pl; simp [D.pl] at z
theorem ev_repr (bd : Bd c k) (hm : c.X.mg "repr" = none) (h : EvQ c a Γ fun d Γ1 => (∃ n j, Rk d n j ∧ n ≤ 16777216 ∧ j ≤ 60) ∧ P (.str (shw d)) Γ1) (hg : Gl c.X "repr") (hs : starEach [a] c.X.env = (false, eval a c.X.env) :: starEach [] c.X.env := by rfl) (hpl : (backTo pos (starEach [] c.X.env)).any (·.1) = false := by rfl) : Ev c (.Call (.Name "repr" p) [a] [] pos) Γ P := fun σ H er Q W tk xw q => .mk fun pins s I => by
  have cr : CallR c.X (.builtin "repr") (fun vs H Q => ∃ (M' : Ex) (v : V) (d : D) (n j : Nat), vs = [v] ∧ Rq M' H v d ∧ Rk d n j ∧ n ≤ 16777216 ∧ j ≤ 60 ∧ Q (.str (shw d)) H) := by
    intro pins s σ' H xs us Q I r h
    obtain ⟨M', v, d, n, j, rfl, rq, rk, hn, hj, q⟩ := h
    obtain ⟨u, rfl, ru⟩ := vals1 r
    exact call_repr_data bd.gd bd.hr.units rq rk hn hj I ru q
  refine (pe_callB cr hg hm (by decide +kernel) (pa_cons selfE pa_nil hs) (by decide) (by decide) hs hpl).run pins s σ H Q I ?_
  exact h σ H er _ W tk xw fun v d Γ1 H1 g r ⟨⟨n, j, rk, hn, hj⟩, hp⟩ => ⟨_, v, d, n, j, rfl, r, rk, hn, hj, q _ _ Γ1 H1 g (.str _) hp⟩
/-! ### == and != at any depth -/
structure Eqk (d : D) : Prop where
  pl : d.pl = true
  sp : SeqAt.shaped (toPy d) = true
theorem vo_eqD {x y : D} (h1 : Eqk x) (h2 : Eqk y) : Vo2 (rEqD X.K) x y (.bl (PyData.eqv (toPy x) (toPy y))) := fun M H v w _ g1 g2 Q q =>
  ⟨_, _, g1.dp (X := X) h1.pl, g2.dp (X := X) h2.pl, h1.sp, h2.sp, q _ H (Grow.refl H) (.bl _)⟩
theorem vo_neD {x y : D} (h1 : Eqk x) (h2 : Eqk y) : Vo2 (rNeD X.K) x y (.bl (!PyData.eqv (toPy x) (toPy y))) := fun M H v w _ g1 g2 Q q =>
  ⟨_, _, g1.dp (X := X) h1.pl, g2.dp (X := X) h2.pl, h1.sp, h2.sp, q _ H (Grow.refl H) (.bl _)⟩
end
end U
/-! U11: operators by what their operands are; comparisons; keywords; several targets. -/
namespace U
open PySem PySem.Spec PyProof.Rows L2
/-! ### tuples and texts, many times over -/
/-! ### + - * by what the operands are -/
inductive AddD : D → D → D → Prop
  | int {i j : Int} : AddD (.int i) (.int j) (.int (i + j))
  | lst {xs ys : List D} (h : xs.length + ys.length ≤ 16777216) : AddD (.lst xs) (.lst ys) (.lst (xs ++ ys))
  | tup {xs ys : List D} (h : xs.length + ys.length ≤ 16777216) : AddD (.tup xs) (.tup ys) (.tup (xs ++ ys))
  | str {x y : Str} (h : x.length + y.length ≤ 16777216) : AddD (.str x) (.str y) (.str (x ++ y))
theorem vo_add {X : Cx} {x y z : D} (h : AddD x y z) : Vo2 (fun x y H Q => rI0 (fun i j => .int (i + j)) x y H Q ∨ rCat x y H Q ∨ rCatAZ X.K x y H Q ∨ ∃ i j, x = .str i ∧ y = .str j ∧ i.length + j.length ≤ sizeLine ∧ Q (.str (i ++ j)) H) x y z := fun M H v w hk h1 h2 Q q => by
  cases h with
  | int => exact .inl (vo_I0 (g := fun i j => i + j) M H v w hk h1 h2 Q q)
  | lst h => exact .inr (.inl (vo_cat h M H v w hk h1 h2 Q q))
  | tup h => exact .inr (.inr (.inl (vo_catT (X := X) h M H v w hk h1 h2 Q q)))
  | str h =>
    cases h1.str_; cases h2.str_
    exact .inr (.inr (.inr ⟨_, _, rfl, rfl, sz h, q _ H (Grow.refl H) (.str _)⟩))
inductive MulD : D → D → D → Prop
  | int {i j : Int} (h : CMul i j) : MulD (.int i) (.int j) (.int (i * j))
  | lst {xs : List D} {i : Int} (h1 : -(2 ^ 60) ≤ i) (h2 : i < 2 ^ 60) (h : xs.length * i.toNat ≤ 16777216) : MulD (.lst xs) (.int i) (.lst (List.replicate i.toNat xs).flatten)
  | tup {xs : List D} {i : Int} (h0 : xs ≠ []) (h1 : 2 ≤ i) (h : xs.length * i.toNat ≤ 1000000) : MulD (.tup xs) (.int i) (.tup (List.replicate i.toNat xs).flatten)
theorem vo_mul {X : Cx} {x y z : D} (h : MulD x y z) : Vo2 (fun x y H Q => rI CMul (fun i j => .int (i * j)) x y H Q ∨ rRep x y H Q ∨ rRepTZ X.K x y H Q) x y z := fun M H v w hk h1 h2 Q q => by
  cases h with
  | int h => exact .inl (vo_I (g := fun i j => i * j) h M H v w hk h1 h2 Q q)
  | lst a b h => exact .inr (.inl (vo_rep a b h M H v w hk h1 h2 Q q))
  | tup a b h =>
    cases h2.int_
    obtain ⟨p, xs, rfl, e, m, r⟩ := h1.tup_
    refine .inr (.inr ⟨p, _, xs, rfl, rfl, sqt_of e, fun z => a ?_, b, by rw [r.length]; exact h, fun t ob od ht => q _ _ (Grow.new ht) (.tup (tupAt_upd od) (fun z => hk t z ht) (RpA.to (Grow.new ht).goes _ _ (r.rep _)))⟩)
    subst z
    cases r
    rfl
section
variable {c : Co} {k : Nat} {Γ : Ga} {P : D → Ga → Prop} {T : Bool → Ga → Prop} {R : Oc} {a b e : Expr} {es : List Expr} {pos p : Pos}
theorem ev_add (h : Ev c a Γ fun x Γ1 => EvQ c b Γ1 fun y Γ2 => ∃ z, AddD x y z ∧ P z Γ2) : Ev c (.BinOp a .Add b pos) Γ P :=
  ev_op (op_add.or (op_cat.or (op_catAZ.or op_add_str))) (ev_mono h fun x _ h => eq_mono h fun y _ ⟨z, h, hp⟩ => ⟨z, vo_add h, hp⟩)
theorem ev_sub (h : Ev c a Γ fun x Γ1 => EvQ c b Γ1 fun y Γ2 => ∃ i j, x = .int i ∧ y = .int j ∧ P (.int (i - j)) Γ2) : Ev c (.BinOp a .Sub b pos) Γ P :=
  ev_op op_sub (ev_mono h fun x _ h => eq_mono h fun y _ ⟨i, j, e1, e2, hp⟩ => ⟨_, by rw [e1, e2]; exact vo_I0 (g := fun i j => i - j), hp⟩)
theorem ev_mul (h : Ev c a Γ fun x Γ1 => EvQ c b Γ1 fun y Γ2 => ∃ z, MulD x y z ∧ P z Γ2) : Ev c (.BinOp a .Mult b pos) Γ P :=
  ev_op (op_mul.or (op_rep.or op_repTZ)) (ev_mono h fun x _ h => eq_mono h fun y _ ⟨z, h, hp⟩ => ⟨z, vo_mul (X := c.X) h, hp⟩)
theorem ev_mod (h : Ev c a Γ fun x Γ1 => EvQ c b Γ1 fun y Γ2 => ∃ i j, x = .int i ∧ y = .int j ∧ 0 < j ∧ P (.int (i % j)) Γ2) : Ev c (.BinOp a .Mod b pos) Γ P :=
  ev_op op_mod (ev_mono h fun x _ h => eq_mono h fun y _ ⟨i, j, e1, e2, h0, hp⟩ => ⟨_, by rw [e1, e2]; exact vo_I (g := fun i j => i % j) (C := fun _ j => 0 < j) h0, hp⟩)
theorem ev_fdiv (h : Ev c a Γ fun x Γ1 => EvQ c b Γ1 fun y Γ2 => ∃ i j, x = .int i ∧ y = .int j ∧ (0 < j ∧ j < 1073741824) ∧ P (.int (i / j)) Γ2) : Ev c (.BinOp a .FloorDiv b pos) Γ P :=
  ev_op op_fdiv (ev_mono h fun x _ h => eq_mono h fun y _ ⟨i, j, e1, e2, h0, hp⟩ => ⟨_, by rw [e1, e2]; exact vo_I (g := fun i j => i / j) (C := CDiv) h0, hp⟩)
theorem ev_pow (h : Ev c a Γ fun x Γ1 => EvQ c b Γ1 fun y Γ2 => ∃ i j, x = .int i ∧ y = .int j ∧ (0 ≤ j ∧ j ≤ 1000000 ∧ i.natAbs < 2 ^ 64) ∧ P (.int (i ^ j.toNat)) Γ2) : Ev c (.BinOp a .Pow b pos) Γ P :=
  ev_op op_pow (ev_mono h fun x _ h => eq_mono h fun y _ ⟨i, j, e1, e2, h0, hp⟩ => ⟨_, by rw [e1, e2]; exact vo_I (g := fun i j => i ^ j.toNat) (C := CPow) h0, hp⟩)
theorem ev_neg (h : EvQ c a Γ fun x Γ1 => ∃ i, x = .int i ∧ P (.int (-i)) Γ1) : Ev c (.UnaryOp .USub a pos) Γ P :=
  ev_un un_neg (eq_mono h fun x _ ⟨i, e, hp⟩ => ⟨_, by rw [e]; exact vo_neg, hp⟩)
/-! ### comparisons -/
/-- what op makes of x and y -/
inductive CmpD (X : Cx) : CmpOp → D → D → Bool → Prop
  | lt {i j : Int} : CmpD X .Lt (.int i) (.int j) (decide (i < j))
  | le {i j : Int} : CmpD X .LtE (.int i) (.int j) (decide (i ≤ j))
  | gt {i j : Int} : CmpD X .Gt (.int i) (.int j) (decide (j < i))
  | ge {i j : Int} : CmpD X .GtE (.int i) (.int j) (decide (j ≤ i))
  | eqI {i j : Int} : CmpD X .Eq (.int i) (.int j) (decide (i = j))
  | neI {i j : Int} : CmpD X .NotEq (.int i) (.int j) (!decide (i = j))
  | eqS {x y : Str} : CmpD X .Eq (.str x) (.str y) (decide (x = y))
  | neS {x y : Str} : CmpD X .NotEq (.str x) (.str y) (!decide (x = y))
  | eqV {x y : D} {v w : V} (hx : x.sc = some v) (hy : y.sc = some w) (h : scal v w = true) : CmpD X .Eq x y (decide (v = w))
  | neV {x y : D} {v w : V} (hx : x.sc = some v) (hy : y.sc = some w) (h : scal v w = true) : CmpD X .NotEq x y (!decide (v = w))
  | eqD {x y : D} (hx : Eqk x) (hy : Eqk y) : CmpD X .Eq x y (PyData.eqv (toPy x) (toPy y))
  | neD {x y : D} (hx : Eqk x) (hy : Eqk y) : CmpD X .NotEq x y (!PyData.eqv (toPy x) (toPy y))
  | isN {x : D} : CmpD X .Is x .non x.isNon
  | notN {x : D} : CmpD X .IsNot x .non (!x.isNon)
  | isIn {i : Int} {y : D} {ns : List Int} (h : y.seqI ns) : CmpD X .In (.int i) y (decide (i ∈ ns))
  | notIn {i : Int} {y : D} {ns : List Int} (h : y.seqI ns) : CmpD X .NotIn (.int i) y (!decide (i ∈ ns))
theorem cmp_rule (bd : Bd c k) {op : CmpOp} : ∃ r : R2, OpR c.X (compareOp op) r ∧ ∀ x y q, CmpD c.X op x y q → Vo2 r x y (.bl q) := by
  have hu := bd.hr.units
  cases op with
  | Lt => exact ⟨_, op_lt, fun x y q h => by cases h; exact vo_B0 (g := fun i j => decide (i < j))⟩
  | LtE => exact ⟨_, op_le, fun x y q h => by cases h; exact vo_B0 (g := fun i j => decide (i ≤ j))⟩
  | Gt => exact ⟨_, op_gt, fun x y q h => by cases h; exact vo_B0 (g := fun i j => decide (j < i))⟩
  | GtE => exact ⟨_, op_ge, fun x y q h => by cases h; exact vo_B0 (g := fun i j => decide (j ≤ i))⟩
  | Eq =>
    refine ⟨_, op_eq.or (op_eqD hu), fun x y q h M H v w hk g1 g2 Q qq => ?_⟩
    cases h with
    | eqI => exact .inl (vo_eqI M H v w hk g1 g2 Q qq)
    | eqS => exact .inl (vo_eqS M H v w hk g1 g2 Q qq)
    | eqV a b h => exact .inl (vo_eq a b h M H v w hk g1 g2 Q qq)
    | eqD a b => exact .inr (vo_eqD a b M H v w hk g1 g2 Q qq)
  | NotEq =>
    refine ⟨_, op_ne.or (op_neD hu), fun x y q h M H v w hk g1 g2 Q qq => ?_⟩
    cases h with
    | neI => exact .inl (vo_neI M H v w hk g1 g2 Q qq)
    | neS => exact .inl (vo_neS M H v w hk g1 g2 Q qq)
    | neV a b h => exact .inl (vo_ne a b h M H v w hk g1 g2 Q qq)
    | neD a b => exact .inr (vo_neD a b M H v w hk g1 g2 Q qq)
  | Is => exact ⟨_, op_isN, fun x y q h => by cases h; exact vo_isN⟩
  | IsNot => exact ⟨_, op_notN, fun x y q h => by cases h; exact vo_notN⟩
  | In => exact ⟨_, op_in_seq, fun x y q h => by cases h; exact vo_in (by assumption)⟩
  | NotIn => exact ⟨_, op_notIn_seq, fun x y q h => by cases h; exact vo_notIn (by assumption)⟩
theorem ev_cmpD {op : CmpOp} (bd : Bd c k) (h : Ev c a Γ fun x Γ1 => EvQ c b Γ1 fun y Γ2 => ∃ q, CmpD c.X op x y q ∧ P (.bl q) Γ2) (hm : behindInMarks op b = false := by first | exact nomark _ | rfl) : Ev c (.Compare a [op] [b] pos) Γ P := by
  obtain ⟨r, ho, hr⟩ := cmp_rule bd (op := op)
  exact ev_cmp ho (ev_mono h fun x _ h => eq_mono h fun y _ ⟨q, h, hp⟩ => ⟨_, hr x y q h, hp⟩) hm
theorem tv_cmpD {op : CmpOp} (bd : Bd c k) (h : Ev c a Γ fun x Γ1 => EvQ c b Γ1 fun y Γ2 => ∃ q, CmpD c.X op x y q ∧ T q Γ2) (hm : behindInMarks op b = false := by first | exact nomark _ | rfl) : Tv c (.Compare a [op] [b] pos) Γ T := by
  obtain ⟨r, ho, hr⟩ := cmp_rule bd (op := op)
  exact tv_cmp ho (ev_mono h fun x _ h => eq_mono h fun y _ ⟨q, h, hp⟩ => ⟨_, hr x y q h, hp⟩) hm
/-- one's own list on the left -/
theorem tv_cmpo {op : CmpOp} {x : Str} {ds : List D} {npos : Pos} (bd : Bd c k) (i : Nat) (hN : c.X.N[i]? = some x) (hv : Vis c.X.env.scope x) (hd : Γ[i]? = some (.own ds)) (h : EvQ c b Γ fun y Γ2 => Γ2[i]? = some (.own ds) ∧ ∃ q, CmpD c.X op (.lst ds) y q ∧ T q Γ2) (hm : behindInMarks op b = false := by first | exact nomark _ | rfl)
    (hdb : (x == ("__debug__" : Str)) = false := by decide) (hcd : (x == ("__classdict__" : Str)) = false := by decide) : Tv c (.Compare (.Name x npos) [op] [b] pos) Γ T := fun σ H er Q W tk xw q => by
  obtain ⟨r, ho, hr⟩ := cmp_rule bd (op := op)
  obtain ⟨a, xs, e, h1, _, p⟩ := er.own i ds hd
  refine outT (pt_cmpR ho (pe_var hN hv hdb hcd) selfE hm) ⟨_, e, h σ H er _ W tk xw fun w y Γ2 H2 g2 p2 ⟨hk, z, hc, hz⟩ => ?_⟩
  obtain ⟨a', xs', e', h1', _, p'⟩ := g2.er.own i ds hk
  rw [e] at e'
  cases e'
  refine hr _ _ _ hc (Mx c.M σ Γ2) H2 _ w g2.er.mx (.lst h1' p') p2 _ fun u H3 g3 p3 => ?_
  cases p3
  exact ⟨z, rfl, q z Γ2 H3 (g2.grow g3) hz⟩
theorem ev_chainD {op op' : CmpOp} {e3 : Expr} (bd : Bd c k)
    (h : Ev c a Γ fun x Γ1 => Ev c b Γ1 fun y Γ2 => ∃ q, CmpD c.X op x y q ∧ (q = false → P (.bl false) Γ2) ∧ (q = true → Ev c e3 Γ2 fun z Γ3 => ∃ w, CmpD c.X op' y z w ∧ P (.bl w) Γ3))
    (hm : lastMarks [op, op'] [b, e3] = false := by with_unfolding_all rfl) : Ev c (.Compare a [op, op'] [b, e3] pos) Γ P := by
  obtain ⟨r, ho, hr⟩ := cmp_rule bd (op := op)
  obtain ⟨r', ho', hr'⟩ := cmp_rule bd (op := op')
  exact ev_chain ho ho' (ev_mono h fun x _ h => ev_mono h fun y _ ⟨q, h, h1, h2⟩ => ⟨q, hr x y q h, h1, fun e => ev_mono (h2 e) fun z _ ⟨w, h, hp⟩ => ⟨_, hr' y z w h, hp⟩⟩) hm
theorem tv_chainD {op op' : CmpOp} {e3 : Expr} (bd : Bd c k)
    (h : Ev c a Γ fun x Γ1 => Ev c b Γ1 fun y Γ2 => ∃ q, CmpD c.X op x y q ∧ (q = false → T false Γ2) ∧ (q = true → Ev c e3 Γ2 fun z Γ3 => ∃ w, CmpD c.X op' y z w ∧ T w Γ3))
    (hm : lastMarks [op, op'] [b, e3] = false := by with_unfolding_all rfl) : Tv c (.Compare a [op, op'] [b, e3] pos) Γ T := by
  obtain ⟨r, ho, hr⟩ := cmp_rule bd (op := op)
  obtain ⟨r', ho', hr'⟩ := cmp_rule bd (op := op')
  exact tv_chain ho ho' (ev_mono h fun x _ h => ev_mono h fun y _ ⟨q, h, h1, h2⟩ => ⟨q, hr x y q h, h1, fun e => ev_mono (h2 e) fun z _ ⟨w, h, hp⟩ => ⟨w, hr' y z w h, hp⟩⟩) hm
/-! ### a, b = e1, e2, data both -/
theorem s1_par {x y : Str} {px py pt : Pos} {kt k2 : Nat} {pt2 : Pos} (bd : Bd c k) (i j : Nat) (hi : c.X.N[i]? = some x) (hj : c.X.N[j]? = some y) (hij : i ≠ j) (hx : c.X.env.scope.names.lookup x = some .local) (hy : c.X.env.scope.names.lookup y = some .local) (hl : i < Γ.length) (hl2 : j < Γ.length)
    (h : Av c [a, b] Γ fun ds Γ1 => ∃ d1 d2, ds = [d1, d2] ∧ R.nx ((Γ1.set i (.dat d1)).set j (.dat d2)))
    (hw : swappedStores [.Tuple [.Name x px, .Name y py] kt pt] (.Tuple [a, b] k2 pt2) c.X.env = pure (some [x, y]))
    (hs : swapsWithSole [.Tuple [.Name x px, .Name y py] kt pt] (.Tuple [a, b] k2 pt2) pos.line c.X.env = pure false := by rfl) :
    S1 c (.Assign [.Tuple [.Name x px, .Name y py] kt pt] (.Tuple [a, b] k2 pt2) pos) Γ R := fun σ H er W Dd tk k =>
  outS (ps_par bd.calm bd.nd hi hj hij hx hy selfA hw hs) (h σ H er _ W tk k.xw fun vs ds Γ1 H1 g r ⟨d1, d2, e, hp⟩ => by
    subst e
    cases r with
    | @cons v1 _ _ _ r1 r =>
      cases r with
      | @cons v2 _ _ _ r2 r =>
        cases r
        have e1 := g.er.set i r1 (by rw [g.length]; exact hl)
        have s1 : Step c.U σ Γ1 H1 (σ.set i (some v1)) (Γ1.set i (.dat d1)) H1 := step_set i
        have e2 := e1.set j (Rp.to (s1.goes g.er) _ _ r2) (by rw [List.length_set, g.length]; exact hl2)
        exact ⟨_, _, rfl, k.nx _ _ _ ((g.st.trans g.er s1).trans e1 (step_set j)) e2 hp⟩)
/-! ### keywords -/
/-- f(k = e, ..), every argument by its name: ks the names as written, g the parameters' order -/
theorem ev_callK0 {x : Str} {f : Addr} {fd : FuncData} {ps ks : List Str} {n j : Nat} {S : Fs} {kws : List Keyword} (F : FnG c.X.prog c.X.w c.X.K c.X.mg c.X.base j f fd ps (lift c.U n S)) (bd : Bd c k) (hj : j ≤ k) (hm : c.X.mg x = some (.ref f)) (hk : PySem.W.keepIn c.X.K (.ref f) = true)
    (πv : List Value → List Value) (πV : List V → List V) (πd : List D → List D) (hb : ∀ (s : Shared) (ws : List Value), c.X.K.In s.heap → ws.length = n → BindsTo s fd ⟨[], ks.zip ws⟩ (ps.zip (πv ws))) (hV : ∀ vs us, vs.length = n → Vals vs us → Vals (πV vs) (πv us)) (hd : ∀ M H vs ds, ds.length = n → RpA M H vs ds → RpA M H (πV vs) (πd ds)) (hln : ∀ ds : List D, ds.length = n → (πd ds).length = n)
    (hg : Gl c.X x) (h : Kv c kws Γ fun ds Γ1 => ds.length = n ∧ S (πd ds) (fun d => P d Γ1) fun C fo => c.E C fo Γ1) (hall : (backToKw pos (keywordEach kws c.X.env)).all (·.1.isSome) = true := by rfl) (hks : (backToKw pos (keywordEach kws c.X.env)).filterMap (·.1) = ks := by rfl)
    (hdb : (x == ("__debug__" : Str)) = false := by decide) (hpl : ((backTo pos (starEach [] c.X.env)).any (·.1) || (backToKw pos (keywordEach kws c.X.env)).any (·.1.isNone)) = false := by rfl) :
    Ev c (.Call (.Name x p) [] kws pos) Γ P := fun σ H er Q W tk xw q => .mk fun pins s I => by
  refine wpAny_Call_Name_kw (ld_glob I hg hm ?_ hdb)
  refine PySem.W.callWith_KW0 (h₀ := c.X.base) I.ok.mod.kin hk hall (thn ((h σ H er (fun vs H1 => ∃ ds Γ1, Go c σ Γ H Γ1 H1 ∧ RpA (Mx c.M σ Γ1) H1 vs ds ∧ ds.length = n ∧ S (πd ds) (fun d => P d Γ1) fun C fo => c.E C fo Γ1) W tk xw (fun vs ds Γ1 H1 g r hp => ⟨ds, Γ1, g, r, hp⟩)).run pos pins s I) fun us s1 ⟨vs, H1, I1, rv, ds, Γ1, g, r, hn, hS⟩ => ⟨I1.kIn, ?_⟩) hpl
  rw [hks]
  have hlv : vs.length = n := by rw [r.length, hn]
  exact run_data (args := ⟨[], ks.zip us⟩) F bd hj (hb s1 us I1.kIn (by rw [← rv.length]; exact hlv)) g.er tk (xw.on g.er g.st) I1 (hV vs us hlv rv) (hd _ _ vs ds hn r) (hln ds hn) (fun v d Γ' H' g' p hp => q v d Γ' H' (g.trans g') p hp) hS
end
end U
/-! U12: defs by name. -/
namespace U
open PySem PySem.Spec PyProof.Rows L2
/-- a def of the text that keeps a promise over data -/
structure Df (P : Program) (w : World) (K : PySem.W.Frag) (mg : Str → Option Value) (base : Heap) (x : Str) (st : Stmt) (j n : Nat) (ps : List Str) (U : Vol) (S : Fs) : Prop where
  ex : ∃ f fd, Fun K x x st f fd ∧ mg x = some (.ref f) ∧ FnG P w K mg base j f fd ps (lift U n S)
  bi : ∀ f fd, Fun K x x st f fd → Binds K fd ps []
section
variable {P : Program} {w : World} {K : PySem.W.Frag} {mg : Str → Option Value} {base : Heap} {U : Vol}
/-- where a def stands -/
def At (K : PySem.W.Frag) (mg : Str → Option Value) (x : Str) (st : Stmt) : Prop := ∃ f fd, Fun K x x st f fd ∧ mg x = some (.ref f)
theorem df_mk {x : Str} {st : Stmt} {N ps : List Str} {k n : Nat} {S : Fs} (F : At K mg x st) (sc : FnScope N ps (defScope st)) (hn : n = ps.length) (hN : ps.length ≤ N.length)
    (hbi : ∀ f fd, Fun K x x st f fd → Binds K fd ps [])
    (hbody : ∀ (f : Addr) (cdv : Value) (A : Around) (outer : List Env) (s : Shared) (H : Hw) (E : XK) (M : Ex) (ds : List D) (Pd : D → Prop) (X : Addr → Option (Str × D) → Prop),
      Bd (coOf P w K mg base N x (defScope st) f cdv A outer s H E U M X) k → ds.length = n → S ds Pd X →
      Sv (coOf P w K mg base N x (defScope st) f cdv A outer s H E U M X) (defBody st) (Ga.start N.length ds) { nx := fun _ => Pd .non, rt := Pd }) :
    Df P w K mg base x st (k + 1) n ps U S := by
  obtain ⟨f, fd, F, hm⟩ := F
  exact ⟨⟨f, fd, F, hm, fn_data F sc hn hN (hbody f)⟩, hbi⟩
theorem Df.weak {x : Str} {st : Stmt} {j n : Nat} {ps : List Str} {S S' : Fs} (F : Df P w K mg base x st j n ps U S) (h : ∀ ds P X, S' ds P X → S ds P X) : Df P w K mg base x st j n ps U S' := by
  obtain ⟨⟨f, fd, F1, hm, G⟩, hb⟩ := F
  refine ⟨⟨f, fd, F1, hm, ⟨fun vs H Q E ⟨M, ds, Pd, X, a, b, c, r, e, hS, q⟩ => G.len vs H Q E ⟨M, ds, Pd, X, a, b, c, r, e, h _ _ _ hS, q⟩, fun A outer s H args us vs Q E hr hg he hb hv ⟨M, ds, Pd, X, a, b, c, r, e, hS, q⟩ => G.run A outer s H args us vs Q E hr hg he hb hv ⟨M, ds, Pd, X, a, b, c, r, e, h _ _ _ hS, q⟩⟩⟩, hb⟩
end
section
variable {c : Co} {k : Nat} {Γ : Ga} {P : D → Ga → Prop} {e : Expr} {es : List Expr} {pos p : Pos}
theorem ev_def {x : Str} {st : Stmt} {j n : Nat} {ps : List Str} {S : Fs} (F : Df c.X.prog c.X.w c.X.K c.X.mg c.X.base x st j n ps c.U S) (bd : Bd c k) (hj : j ≤ k) (hg : Gl c.X x)
    (h : Av c (e :: es) Γ fun ds Γ1 => ds.length = n ∧ S ds (fun d => P d Γ1) fun C fo => c.E C fo Γ1)
    (hdb : (x == ("__debug__" : Str)) = false := by decide) (he : starEach (e :: es) c.X.env = (false, eval e c.X.env) :: starEach es c.X.env := by rfl) (hpl : (backTo pos (starEach es c.X.env)).any (·.1) = false := by rfl) :
    Ev c (.Call (.Name x p) (e :: es) [] pos) Γ P := by
  obtain ⟨f, fd, F1, hm, G⟩ := F.ex
  exact ev_call G bd hj hm F1.kp (F.bi f fd F1) hg h hdb he hpl
/-- one keyword -/
theorem ev_defK1 {x y : Str} {st : Stmt} {j : Nat} {S : Fs} {kp : Pos} (F : Df c.X.prog c.X.w c.X.K c.X.mg c.X.base x st j 1 [y] c.U S) (bd : Bd c k) (hj : j ≤ k) (hg : Gl c.X x)
    (hb : ∀ (kV doc pm : Value) (an : Option Addr) (cdv ct u : Value), bindArgs (PySem.W.fnOf x x (defArgs st) (defBody st) (defScope st) .none kV doc pm an cdv ct) ⟨[], [(y, u)]⟩ = pure [(y, u)])
    (h : Ev c e Γ fun d Γ1 => S [d] (fun d => P d Γ1) fun C fo => c.E C fo Γ1) (hall : (backToKw pos (keywordEach [⟨some y, e, kp⟩] c.X.env)).all (·.1.isSome) = true := by rfl) (hks : (backToKw pos (keywordEach [⟨some y, e, kp⟩] c.X.env)).filterMap (·.1) = [y] := by rfl)
    (hdb : (x == ("__debug__" : Str)) = false := by decide) (hpl : ((backTo pos (starEach [] c.X.env)).any (·.1) || (backToKw pos (keywordEach [⟨some y, e, kp⟩] c.X.env)).any (·.1.isNone)) = false := by rfl) :
    Ev c (.Call (.Name x p) [] [⟨some y, e, kp⟩] pos) Γ P := by
  obtain ⟨f, fd, F1, hm, G⟩ := F.ex
  refine ev_callK0 G bd hj hm F1.kp (fun ws => ws) (fun vs => vs) (fun ds => ds) (fun s ws hK hl => ?_) (fun _ _ _ r => r) (fun _ _ _ _ _ r => r) (fun _ h => h) hg (kv_cons (ev_mono h fun d Γ1 h => kv_nil ⟨rfl, h⟩)) hall hks hdb hpl
  match ws, hl with
  | [u], _ =>
    obtain ⟨oc, od, kV, doc, pm, an, cdv, ct, osl, rfl, lk, hcd⟩ := F1.ex
    exact BindsTo.of_eq (hb kV doc pm an cdv ct u)
/-- two keywords, the other way about -/
theorem ev_defK2 {x y z : Str} {st : Stmt} {j : Nat} {S : Fs} {kp kp2 : Pos} {e2 : Expr} (F : Df c.X.prog c.X.w c.X.K c.X.mg c.X.base x st j 2 [y, z] c.U S) (bd : Bd c k) (hj : j ≤ k) (hg : Gl c.X x)
    (hb : ∀ (kV doc pm : Value) (an : Option Addr) (cdv ct u w : Value), bindArgs (PySem.W.fnOf x x (defArgs st) (defBody st) (defScope st) .none kV doc pm an cdv ct) ⟨[], [(z, w), (y, u)]⟩ = pure [(y, u), (z, w)])
    (h : Ev c e Γ fun d Γ1 => Ev c e2 Γ1 fun d2 Γ2 => S [d2, d] (fun d => P d Γ2) fun C fo => c.E C fo Γ2) (hall : (backToKw pos (keywordEach [⟨some z, e, kp⟩, ⟨some y, e2, kp2⟩] c.X.env)).all (·.1.isSome) = true := by rfl) (hks : (backToKw pos (keywordEach [⟨some z, e, kp⟩, ⟨some y, e2, kp2⟩] c.X.env)).filterMap (·.1) = [z, y] := by rfl)
    (hdb : (x == ("__debug__" : Str)) = false := by decide) (hpl : ((backTo pos (starEach [] c.X.env)).any (·.1) || (backToKw pos (keywordEach [⟨some z, e, kp⟩, ⟨some y, e2, kp2⟩] c.X.env)).any (·.1.isNone)) = false := by rfl) :
    Ev c (.Call (.Name x p) [] [⟨some z, e, kp⟩, ⟨some y, e2, kp2⟩] pos) Γ P := by
  obtain ⟨f, fd, F1, hm, G⟩ := F.ex
  refine ev_callK0 G bd hj hm F1.kp (fun ws => ws.reverse) (fun vs => vs.reverse) (fun ds => ds.reverse) (fun s ws hK hl => ?_) (fun vs us hl r => ?_) (fun _ _ _ _ _ r => r.rev) (fun _ h => by rw [List.length_reverse]; exact h) hg (kv_cons (ev_mono h fun d Γ1 h => kv_cons (ev_mono h fun d2 Γ2 h => kv_nil ⟨rfl, h⟩))) hall hks hdb hpl
  · match ws, hl with
    | [u, w], _ =>
      obtain ⟨oc, od, kV, doc, pm, an, cdv, ct, osl, rfl, lk, hcd⟩ := F1.ex
      exact BindsTo.of_eq (hb kV doc pm an cdv ct w u)
  · match vs, us, hl, r with
    | [_, _], [_, _], _, .cons a (.cons b .nil) => exact .cons b (.cons a .nil)
end
end U
/-! U13: more expressions over data: reversed tuples, sorted, lists of ranges, divmod, str, {}. -/
namespace HT
open PySem PyProof.Rows
open PySem.SeqAt
section
variable {prog : Program} {w : World} {A : Around} {E : Value → Shared → Prop} {s : Shared}
theorem u_rev_pick (xs : Array Value) : ((List.range xs.size).filterMap fun (m : Nat) => xs[(((xs.size : Int) - 1) + (m : Int) * (-1)).toNat]?).toArray = xs.toList.reverse.toArray := by
  congr 1
  obtain ⟨l⟩ := xs
  show (List.range l.length).filterMap (fun (m : Nat) => (l.toArray)[(((l.length : Int) - 1) + (m : Int) * (-1)).toNat]?) = l.reverse
  have e : ∀ n, n ≤ l.length → (List.range n).filterMap (fun (m : Nat) => (l.toArray)[(((l.length : Int) - 1) + (m : Int) * (-1)).toNat]?) = l.reverse.take n := by
    intro n
    induction n with
    | zero => intro _; simp
    | succ n ih =>
      intro hn
      have a : (((l.length : Int) - 1) + (n : Int) * (-1)).toNat = l.length - 1 - n := by omega
      have b : l.length - 1 - n < l.length := by omega
      rw [List.range_succ, List.filterMap_append, ih (by omega), List.take_succ]
      congr 1
      simp only [List.filterMap_cons, List.filterMap_nil, a]
      rw [List.getElem?_reverse (by omega)]
      simp [List.getElem?_eq_getElem b]
  rw [e l.length (Nat.le_refl _), List.take_of_length_le (by simp)]
theorem u_sliceRev {sl : Addr} {vl vu vs : Value} {n : Nat} {Q : Int × Int × Nat → Shared → Prop} (hs : s.heap.IsSliceOf sl vl vu vs) (pl : IsPart vl none) (pu : IsPart vu none) (ps : IsPart vs (some (-1)))
    (h : Q ((n : Int) - 1, -1, n) s) : wpAny (model prog w) A (Builtin.Slice.sliceApplied (.ref sl) (pure (n : Int))) Q E s := by
  obtain ⟨os, hos, hcs, hds⟩ := id hs
  unfold Builtin.Slice.sliceApplied Builtin.Slice.sliceFields
  refine wpAny_bind (wpAny_bind (wpAny_field hos hds (x := vl) rfl (wpAny_bind (wpAny_field hos hds (x := vu) rfl (wpAny_bind (wpAny_field hos hds (x := vs) rfl (wpAny_pure ?_)))))))
  refine wpAny_bind (slicePart_ ps ?_)
  show wpAny _ _ (if ((-1 : Int) == 0) = true then _ else _) _ _ s
  rw [if_neg (show ¬ ((-1 : Int) == 0) = true by decide)]
  refine wpAny_bind (slicePart_ pl (wpAny_bind (slicePart_ pu (wpAny_bind (wpAny_pure ?_)))))
  have e : Builtin.Slice.slicePlaces (Builtin.Slice.sliceAdjust none none (-1) (n : Int)).1 (Builtin.Slice.sliceAdjust none none (-1) (n : Int)).2 (-1) = n ∧ (Builtin.Slice.sliceAdjust none none (-1) (n : Int)).1 = (n : Int) - 1 := by
    unfold Builtin.Slice.sliceAdjust Builtin.Slice.slicePlaces
    simp
    first
      | omega
      | (constructor <;> (try split) <;> omega)
      | ((try split) <;> omega)
  show wpAny _ _ (match Builtin.Slice.sliceAdjust none none (-1) (n : Int) with | (lo, hi) => pure (lo, (-1 : Int), Builtin.Slice.slicePlaces lo hi (-1))) _ _ s
  revert e
  cases Builtin.Slice.sliceAdjust none none (-1) (n : Int) with
  | mk lo hi =>
    rintro ⟨e1, e2⟩
    simp only at e1 e2
    show wpAny _ _ (pure (lo, (-1 : Int), Builtin.Slice.slicePlaces lo hi (-1))) _ _ s
    rw [e1, e2]
    exact wpAny_pure h
theorem u_getItem_rev {t sl : Addr} {items : Array Value} {vl vu vs : Value} {Q : Value → Shared → Prop} (ht : IsTup s.heap t items) (hs : s.heap.IsSliceOf sl vl vu vs) (pl : IsPart vl none) (pu : IsPart vu none) (ps : IsPart vs (some (-1)))
    (h : Q (.ref s.heap.objs.size) { s with heap := s.heap.push { cls := .type "tuple", data := .seq items.toList.reverse.toArray } }) (hsz : items.size ≤ sizeLine) : wpAny (model prog w) A (getItem (.ref t) (.ref sl)) Q E s := by
  have ok : sizeOk (.seq items.toList.reverse.toArray) := by
    show items.toList.reverse.toArray.size ≤ sizeLine
    rw [List.size_toArray, List.length_reverse, Array.length_toList]
    exact hsz
  obtain ⟨os, hos, hcs, hds⟩ := id hs
  have hT : s.TypeIs (.ref sl) "slice" := ⟨os, hos, hcs⟩
  unfold getItem
  try (with_reducible refine wpAny_holding ?_)
  first | (refine wpAny_bind (wpAny_pure ?_)) | skip
  refine wpAny_bind (wpAny_sequenceKey ht.typeIs (by decide) (wpAny_bind (wpAny_callSpecial?_slot (name := Str.ofString "__getitem__") ht.typeIs PyProof.Rows.slot_tuple_getitem
    (wpAny_call_entry PyProof.Rows.slot_tuple_getitem ht.typeIs entry_tuple_getitem ?_ (args_tuple_getitem _ _)))))
  show wpAny _ _ (Builtin.Tuple.tupleItemsOf (.ref t) >>= _) _ _ s
  refine wpAny_bind (tupleItemsOf_ ht (wpAny_bind (wpAny_typeOf hT ?_)))
  rw [if_pos (by decide)]
  refine wpAny_bind (u_sliceRev hs pl pu ps ?_)
  have no : ¬ ((((items.size : Int) - 1) == 0 && (-1 : Int) == 1 && items.size == items.size) = true) := by
    intro q
    rw [Bool.and_eq_true, Bool.and_eq_true] at q
    exact absurd (eq_of_beq q.1.2) (by decide)
  show wpAny _ _ (if (((items.size : Int) - 1) == 0 && (-1 : Int) == 1 && items.size == items.size) = true then _ else _) _ _ s
  rw [if_neg no, u_rev_pick]
  first
    | (exact wpAny_bind (m := Builtin.Tuple.tupleExact _) (wpAny_newObj_type (wpAny_pure ⟨_, rfl, wpAny_pure h⟩) ok))
    | (exact wpAny_bind (m := Builtin.Tuple.tupleExact _) (wpAny_newObj_type (wpAny_bind (wpAny_pure (wpAny_pure ⟨_, rfl, wpAny_pure h⟩))) ok))
    | (exact wpAny_bind (wpAny_bind (m := Builtin.Tuple.tupleExact _) (wpAny_newObj_type (wpAny_pure (wpAny_pure ⟨_, rfl, wpAny_pure h⟩)) ok)))
    | (exact wpAny_bind (wpAny_bind (m := Builtin.Tuple.tupleExact _) (wpAny_newObj_type (wpAny_pure ⟨_, rfl, wpAny_pure h⟩) ok)))
end
end HT
namespace U
open PySem PySem.Spec PyProof.Rows L2
section
variable {c : Co} {k : Nat} {Γ : Ga} {R : Oc} {P : D → Ga → Prop} {a b e : Expr} {es : List Expr} {pos p : Pos} {X : Cx}
/-! ### t[::-1], t a tuple -/
def tRevT (K : PySem.W.Frag) (te : TE) : TE := fun σ H Q => te σ H fun x H1 => ∃ a xs, x = .ref a ∧ SqT K H1 a xs ∧ ∀ (p : Addr) (o : Obj), o.dict = none → H1 p = none → Q (.ref p) (upd H1 p (.frz o (.tup xs.reverse)))
theorem pe_revT {te : TE} {k : Nat} {p1 p2 p3 pos : Pos} (he : PE X e te) : PE X (.Subscript e (.Slice none none (some (.UnaryOp .USub (.Constant (.int 1) k p1) p2)) p3) pos) (tRevT X.K te) := by
  constructor
  intro pins s σ H Q I h
  refine Subscript_ (thn (he.run pins s σ H _ I h) ?_)
  rintro v s1 ⟨x, H1, I1, r1, a, xs, rfl, hx, q⟩
  cases r1
  have hst : PO X (some (.UnaryOp .USub (.Constant (.int 1) k p1) p2)) (tPart (tUn (rU fun i => .int (-i)) (tC (.int 1)))) := po_some (pe_un un_neg pe_int)
  refine wpAny_Slice (thn (po_none.run pins s1 σ H1 (fun o G => o = none ∧ G = H1) I1 ⟨rfl, rfl⟩) ?_)
  rintro vl s2 ⟨l, H2, I2, pl, rfl, rfl⟩
  refine thn (po_none.run pins s2 σ H2 (fun o G => o = none ∧ G = H2) I2 ⟨rfl, rfl⟩) ?_
  rintro vu s3 ⟨u, H3, I3, pu, rfl, rfl⟩
  refine thn (hst.run pins s3 σ H3 (fun o G => o = some (-1) ∧ G = H3) I3 ⟨1, rfl, -1, rfl, rfl, rfl⟩) ?_
  rintro vs s4 ⟨o, H4, I4, ps, rfl, rfl⟩
  have I5 : Inv X pins σ H4 { s4 with heap := s4.heap.push { cls := .type "slice", data := .fields #[vl, vu, vs] } } := I4.kept (t' := s4.toks) fun b u y => Heap.get?_push_of_some _ y
  obtain ⟨its, r, ht, hz⟩ := I5.tuple hx
  have hlen := r.length
  show wpAny (model X.prog X.w) X.A (subscriptTail e (.Slice none none (some (.UnaryOp .USub (.Constant (.int 1) k p1) p2)) p3) (.ref a) (.ref s4.heap.objs.size)) (EP X pins σ Q) X.xe { s4 with heap := s4.heap.push { cls := .type "slice", data := .fields #[vl, vu, vs] } }
  refine tail_any (ops := [.ref a, .ref s4.heap.objs.size]) ht.typeIs (PyProof.Rows.slot_tuple_getitem.lookup) ?_ (by with_unfolding_all rfl)
  refine HT.u_getItem_rev ht (Heap.IsSliceOf.new _ vl vu vs) pl pu ps ?_ (by rw [List.size_toArray]; omega)
  have L := laidZ (tk := s4.toks) I5 (xs := xs.reverse) (its := its.reverse) (by rw [List.length_reverse]; exact hz) r.reverse
  refine ⟨.ref _, _, L, rfl, ?_⟩
  exact q _ _ rfl (I5.hok.fresh (Nat.le_refl _))
theorem ev_revT {k : Nat} {p1 p2 p3 : Pos} (h : Ev c a Γ fun d Γ1 => ∃ ds, d = .tup ds ∧ P (.tup ds.reverse) Γ1) : Ev c (.Subscript a (.Slice none none (some (.UnaryOp .USub (.Constant (.int 1) k p1) p2)) p3) pos) Γ P := fun σ H er Q W tk xw q =>
  outE (pe_revT selfE) (h σ H er _ W tk xw fun v d Γ1 H1 g r ⟨ds, e, hp⟩ => by
    subst e
    cases r with
    | tup h1 h2 h3 => exact ⟨_, _, rfl, sqt_of h1, fun p ob od hp' => q _ _ Γ1 _ (g.grow (Grow.new hp')) (.tup (tupAt_upd od) (fun z => g.er.mx p z hp') (RpA.to (Grow.new hp').goes _ _ h3.rev)) hp⟩)
theorem ev_revL {k : Nat} {p1 p2 p3 : Pos} (h : Ev c a Γ fun d Γ1 => ∃ ds, d = .lst ds ∧ P (.lst ds.reverse) Γ1) : Ev c (.Subscript a (.Slice none none (some (.UnaryOp .USub (.Constant (.int 1) k p1) p2)) p3) pos) Γ P := fun σ H er Q W tk xw q =>
  outE (pe_revL selfE) (h σ H er _ W tk xw fun v d Γ1 H1 g r ⟨ds, e, hp⟩ => by
    subst e
    cases r with
    | lst h1 h2 h3 => exact ⟨_, _, rfl, sql_of h1, fun p hp' => q _ _ Γ1 _ (g.grow (Grow.new hp')) (.lst upd_same (fun z => g.er.mx p z hp') (RpA.to (Grow.new hp').goes _ _ h3.rev)) hp⟩)
/-! ### sorted(xs), ints -/
def srt (ns : List Int) : List Int := ns.mergeSort fun a b => decide (a ≤ b)
theorem srt_perm (ns : List Int) : (srt ns).Perm ns := List.mergeSort_perm _ _
theorem srt_pair (ns : List Int) : (srt ns).Pairwise (· ≤ ·) := by
  have := List.pairwise_mergeSort (le := fun a b : Int => decide (a ≤ b)) (by intro a b c; simp only [decide_eq_true_eq]; omega) (by intro a b; simp only [Bool.or_eq_true, decide_eq_true_eq]; omega) ns
  exact this.imp fun h => by simpa using h
theorem srt_of {ns ms : List Int} (h : ms.Perm ns) (h2 : ms.Pairwise (· ≤ ·)) : ms = srt ns :=
  List.Perm.eq_of_pairwise (le := (· ≤ ·)) (fun a b _ _ h1 h2 => Int.le_antisymm h1 h2) h2 (srt_pair ns) (h.trans (srt_perm ns).symm)
theorem vo_sorted {ns : List Int} : Von (rSortedI X.K) [.lst (ns.map D.int)] (.lst ((srt ns).map D.int)) := fun M H vs hk h1 Q q => by
  cases h1 with
  | cons h1 h2 =>
    cases h2
    obtain ⟨a, xs, rfl, e, r⟩ := h1.lst_
    rw [r.ints_] at e
    exact ⟨a, ns, rfl, sql_of e, fun ms p hp hs hn => by
      rw [srt_of hp hs]
      exact q _ _ (Grow.new hn) (.lst upd_same (fun z => hk p z hn) (RpA.ints _))⟩
theorem ev_sorted (hm : c.X.mg "sorted" = none) (h : EvQ c a Γ fun d Γ1 => ∃ ns : List Int, d = .lst (ns.map D.int) ∧ P (.lst ((srt ns).map D.int)) Γ1) (hg : Gl c.X "sorted") (hs : starEach [a] c.X.env = (false, eval a c.X.env) :: starEach [] c.X.env := by rfl) (hpl : (backTo pos (starEach [] c.X.env)).any (·.1) = false := by rfl) : Ev c (.Call (.Name "sorted" p) [a] [] pos) Γ P :=
  evn1 (fun ha => pe_callB cr_sortedI hg hm (by decide +kernel) ha (by decide) (by decide) hs hpl) (eq_mono h fun d Γ1 ⟨n, e, hp⟩ => ⟨_, by rw [e]; exact vo_sorted, hp⟩) hs
/-! ### list(range(n)), tuple(range(n)) -/
theorem rangeD_ints (lo : Int) (n : Nat) : rangeD lo n = ((List.range n).map fun (i : Nat) => lo + (i : Int)).map D.int := by simp [rangeD]
theorem rp_rg {M : Ex} {H : Hw} (n : Int) : RpA M H (rgV 0 n) (rangeD 0 n.toNat) := by
  have e : rgV 0 n = ((List.range n.toNat).map fun (i : Nat) => (0 : Int) + (i : Int)).map V.int := by simp [rgV]
  rw [e, rangeD_ints]
  exact RpA.ints _
theorem ev_listRg (bd : Bd c k) {p2 q2 : Pos} (hm : c.X.mg "list" = none) (hr : c.X.mg "range" = none) (h : Ev c a Γ fun d Γ1 => ∃ n, d = .int n ∧ 0 ≤ n ∧ n ≤ 16777216 ∧ P (.lst (rangeD 0 n.toNat)) Γ1) (hg : Gl c.X "list") (hgr : Gl c.X "range")
    (hs : starEach [a] c.X.env = (false, eval a c.X.env) :: starEach [] c.X.env := by rfl) (hs2 : starEach [.Call (.Name "range" p2) [a] [] q2] c.X.env = (false, eval (.Call (.Name "range" p2) [a] [] q2) c.X.env) :: starEach [] c.X.env := by rfl) : Ev c (.Call (.Name "list" p) [.Call (.Name "range" p2) [a] [] q2] [] pos) Γ P := fun σ H er Q W tk xw q =>
  outE (pe_listRg bd.calm hg hm (prg_1 hgr hr selfE hs) hs2) (h σ H er _ W tk xw fun v d Γ1 H1 g r ⟨n, e, h0, h1, hp⟩ => by
    subst e
    cases r
    exact ⟨n, rfl, RgOk.of_le (by omega) h1 (by omega) h0, fun p hp' => q _ _ Γ1 _ (g.grow (Grow.new hp')) (.lst upd_same (fun z => g.er.mx p z hp') (rp_rg n)) hp⟩)
def tTupRgZ (te : L2.St → Hw → (Int → Int → Hw → Prop) → Prop) : TE := fun σ H Q => te σ H fun a b H1 => RgOk a b ∧ ∀ (q : Addr) (o : Obj), o.dict = none → H1 q = none → Q (.ref q) (upd H1 q (.frz o (.tup (rgV a b))))
theorem pe_tupRgZ {te : L2.St → Hw → (Int → Int → Hw → Prop) → Prop} {p pos : Pos} (hc : X.calm = true) (hg : Gl X "tuple") (hm : X.mg "tuple" = none) (he : PRg X e te) (na : starEach [e] X.env = (false, eval e X.env) :: starEach [] X.env := by rfl) : PE X (.Call (.Name "tuple" p) [e] [] pos) (tTupRgZ te) := by
  constructor
  intro pins s σ H Q I h
  refine Call_ (ld_blt I hg hm boot_tuple (PyProof.Rows.callWith_type1 (args_cons (thn (he pins s σ H _ I h) ?_) na) na))
  rintro x s1 ⟨r, a, b, t, u, v, H1, rfl, hr, I1, ⟨b1, b2, b3, b4, b5⟩, q⟩
  refine args_nil (call_tuple_range (n := (b - a).toNat) (I1.ok.hd hc) hr (small_one b1 b2 b3 b4) (rangeSize_nat a b) b5 fun h' tk acc hk hi => ?_)
  have I2 : Inv X pins σ H1 { s1 with heap := h', toks := tk } := I1.kept hk
  have L := laidZ (tk := tk) I2 (xs := rgV a b) (its := acc.toList) (by rw [rgV_length, sizeLine_eq]; omega) (vals_rg hi)
  exact ⟨.ref h'.objs.size, _, L, rfl, q _ _ rfl (I2.hok.fresh (Nat.le_refl _))⟩
theorem call_divmodZ : CallR X (.builtin "divmod") (fun xs H Q => ∃ i j, xs = [.int i, .int j] ∧ CDiv i j ∧ ∀ (p : Addr) (o : Obj), o.dict = none → H p = none → Q (.ref p) (upd H p (.frz o (.tup [.int (i / j), .int (i % j)])))) := by
  intro pins s σ H xs us Q I r h
  obtain ⟨i, j, rfl, ⟨h1, h2⟩, q⟩ := h
  obtain ⟨u, w', rfl, ⟨t, rfl⟩, ⟨t', rfl⟩⟩ := vals2 r
  refine divmod_int (by omega) ?_ (.inl (PyProof.noPylong_small (by omega)))
  rw [Int.fdiv_eq_ediv_of_nonneg i (by omega), Int.fmod_eq_emod_of_nonneg i (by omega)]
  have L := laidZ (tk := s.toks + 2) I (xs := [.int (i / j), .int (i % j)]) (its := [.int (i / j) s.toks, .int (i % j) (s.toks + 1)]) (by simp only [List.length_cons, List.length_nil]; rw [sizeLine_eq]; decide) (.cons ⟨_, rfl⟩ (.cons ⟨_, rfl⟩ .nil))
  exact ⟨.ref s.heap.objs.size, _, L, rfl, q _ _ rfl (I.hok.fresh (Nat.le_refl _))⟩
theorem ev_tupRg (bd : Bd c k) {p2 q2 : Pos} (hm : c.X.mg "tuple" = none) (hr : c.X.mg "range" = none) (h : Ev c a Γ fun d Γ1 => ∃ n, d = .int n ∧ 0 ≤ n ∧ n ≤ 16777216 ∧ P (.tup (rangeD 0 n.toNat)) Γ1) (hg : Gl c.X "tuple") (hgr : Gl c.X "range")
    (hs : starEach [a] c.X.env = (false, eval a c.X.env) :: starEach [] c.X.env := by rfl) (hs2 : starEach [.Call (.Name "range" p2) [a] [] q2] c.X.env = (false, eval (.Call (.Name "range" p2) [a] [] q2) c.X.env) :: starEach [] c.X.env := by rfl) : Ev c (.Call (.Name "tuple" p) [.Call (.Name "range" p2) [a] [] q2] [] pos) Γ P := fun σ H er Q W tk xw q =>
  outE (pe_tupRgZ bd.calm hg hm (prg_1 hgr hr selfE hs) hs2) (h σ H er _ W tk xw fun v d Γ1 H1 g r ⟨n, e, h0, h1, hp⟩ => by
    subst e
    cases r
    exact ⟨n, rfl, RgOk.of_le (by omega) h1 (by omega) h0, fun p ob od hp' => q _ _ Γ1 _ (g.grow (Grow.new hp')) (.tup (tupAt_upd od) (fun z => g.er.mx p z hp') (rp_rg n)) hp⟩)
/-! ### divmod -/
theorem vo_divmod {i j : Int} (h : CDiv i j) : Von (fun xs H Q => ∃ i j, xs = [.int i, .int j] ∧ CDiv i j ∧ ∀ (p : Addr) (o : Obj), o.dict = none → H p = none → Q (.ref p) (upd H p (.frz o (.tup [.int (i / j), .int (i % j)])))) [.int i, .int j] (.tup [.int (i / j), .int (i % j)]) := fun M H vs hk h1 Q q => by
  cases h1 with
  | cons h1 h2 =>
    cases h2 with
    | cons h2 h3 =>
      cases h3
      cases h1.int_
      cases h2.int_
      exact ⟨i, j, rfl, h, fun p ob od hn => q _ _ (Grow.new hn) (.tup (tupAt_upd od) (fun z => hk p z hn) (.cons (.int _) (.cons (.int _) .nil)))⟩
theorem ev_divmod (hm : c.X.mg "divmod" = none) (h : Av c [a, b] Γ fun ds Γ1 => ∃ i j, ds = [.int i, .int j] ∧ (0 < j ∧ j < 1073741824) ∧ P (.tup [.int (i / j), .int (i % j)]) Γ1) (hg : Gl c.X "divmod") (hs : starEach [a, b] c.X.env = (false, eval a c.X.env) :: starEach [b] c.X.env := by rfl) (hpl : (backTo pos (starEach [b] c.X.env)).any (·.1) = false := by rfl) : Ev c (.Call (.Name "divmod" p) [a, b] [] pos) Γ P :=
  evn (fun ha => pe_callB call_divmodZ hg hm (by decide +kernel) ha (by decide) (by decide) hs hpl) (av_mono h fun d Γ1 ⟨i, j, e, hj, hp⟩ => ⟨_, by rw [e]; exact vo_divmod hj, hp⟩)
theorem ev_abs (hm : c.X.mg "abs" = none) (h : Ev c a Γ fun d Γ1 => ∃ i, d = .int i ∧ P (.int (if i < 0 then -i else i)) Γ1) (hg : Gl c.X "abs") (hs : starEach [a] c.X.env = (false, eval a c.X.env) :: starEach [] c.X.env := by rfl) (hpl : (backTo pos (starEach [] c.X.env)).any (·.1) = false := by rfl) : Ev c (.Call (.Name "abs" p) [a] [] pos) Γ P :=
  evn1 (fun ha => pe_callB call_abs hg hm (by decide +kernel) ha (by decide) (by decide) hs hpl) (eq_of (ev_mono h fun d Γ1 ⟨i, e, hp⟩ => ⟨_, by rw [e]; exact vo_abs, hp⟩)) hs
/-- // by any positive divisor -/
theorem ev_fdivW (h : Ev c a Γ fun x Γ1 => EvQ c b Γ1 fun y Γ2 => ∃ i j, x = .int i ∧ y = .int j ∧ (0 < j ∧ j.natAbs.log2 < 9000) ∧ P (.int (i / j)) Γ2) : Ev c (.BinOp a .FloorDiv b pos) Γ P :=
  ev_op op_fdivW (ev_mono h fun x _ h => eq_mono h fun y _ ⟨i, j, e1, e2, h0, hp⟩ => ⟨_, by rw [e1, e2]; exact vo_I (g := fun i j => i / j) (C := CDivW) h0, hp⟩)
/-! ### str(d) -/
theorem call_strOf_data (gd : X.A.guards = some []) (hu : X.A.units + 70 < cLine) {M : Ex} {H : Hw} {a : Addr} {d : D} {n j : Nat} (r : Rq M H (.ref a) d) (h : Rk d n j) (hn : n ≤ 16777216) (hj : j ≤ 60) {pins : List (Addr × Obj)} {s : Shared} {σ : Sw} {Q : VK} (I : Inv X pins σ H s) (q : Q (.str (shw d)) H) :
    wpAny (model X.prog X.w) X.A (call (.type "str") [.ref a]) (EP X pins σ Q) X.xe s := by
  have hz : (toPy d).shown.length ≤ sizeLine := Nat.le_trans h.ln (sz hn)
  obtain ⟨as, rd⟩ := Dp.reads I (toPy d) (.ref a) (.ref a) (r.dp (X := X) h.pl) rfl
  have hd := h.dp
  exact str_of_reads rd h.sh (fun z => by rw [h.nd] at z; cases z) gd (by omega) (fun _ _ e => e) (fun h' u tk hk => ⟨.str (shw d), H, I.kept (t' := tk) hk, ⟨u, rfl⟩, q⟩) hz
def D.isSq : D → Bool
  | .lst _ => true
  | .tup _ => true
  | _ => false
theorem ev_strOf (bd : Bd c k) (hu : c.X.A.units + 70 < cLine) (hm : c.X.mg "str" = none) (h : EvQ c a Γ fun d Γ1 => (d.isSq = true ∧ ∃ n j, Rk d n j ∧ n ≤ 16777216 ∧ j ≤ 60) ∧ P (.str (shw d)) Γ1) (hg : Gl c.X "str") (hs : starEach [a] c.X.env = (false, eval a c.X.env) :: starEach [] c.X.env := by rfl) (hpl : (backTo pos (starEach [] c.X.env)).any (·.1) = false := by rfl) : Ev c (.Call (.Name "str" p) [a] [] pos) Γ P := fun σ H er Q W tk xw q => .mk fun pins s I => by
  have cr : CallR c.X (.type "str") (fun vs H Q => ∃ (M' : Ex) (b : Addr) (d : D) (n j : Nat), vs = [.ref b] ∧ Rq M' H (.ref b) d ∧ Rk d n j ∧ n ≤ 16777216 ∧ j ≤ 60 ∧ Q (.str (shw d)) H) := by
    intro pins s σ' H xs us Q I r h
    obtain ⟨M', b, d, n, j, rfl, rq, rk, hn, hj, q⟩ := h
    obtain ⟨u, rfl, ru⟩ := vals1 r
    cases ru
    exact call_strOf_data bd.gd hu rq rk hn hj I q
  refine (pe_callTy cr hg hm (by decide +kernel) (pa_cons selfE pa_nil hs) (by decide) (by decide) hs hpl).run pins s σ H Q I ?_
  refine h σ H er _ W tk xw fun v d Γ1 H1 g r ⟨⟨hsq, n, j, rk, hn, hj⟩, hp⟩ => ?_
  have hv : ∃ b, v = .ref b := by
    cases d with
    | lst ds => obtain ⟨b, xs, e, _⟩ := r.lst_; exact ⟨b, e⟩
    | tup ds => obtain ⟨b, xs, e, _⟩ := r.tup_; exact ⟨b, e⟩
    | non => cases hsq
    | bl _ => cases hsq
    | int _ => cases hsq
    | str _ => cases hsq
    | dic _ => cases hsq
    | ad _ => cases hsq
  obtain ⟨b, rfl⟩ := hv
  exact ⟨_, b, d, n, j, rfl, r, rk, hn, hj, q _ _ Γ1 H1 g (.str _) hp⟩
/-! ### {} -/
theorem ev_dicE (h : P (.dic []) Γ) : Ev c (.Dict [] [] pos) Γ P := fun σ H er Q W tk xw q =>
  outE pe_dnewK fun p hp => q _ _ Γ _ ((Go.refl er).grow (Grow.new hp)) (.dic upd_same (fun z => er.mx p z hp) .nil) h
theorem ev_reprE (bd : Bd c k) (hm : c.X.mg "repr" = none) (h : EvQ c a Γ fun d Γ1 => d = .dic [] ∧ P (.str (shw d)) Γ1) (hg : Gl c.X "repr") (hs : starEach [a] c.X.env = (false, eval a c.X.env) :: starEach [] c.X.env := by rfl) (hpl : (backTo pos (starEach [] c.X.env)).any (·.1) = false := by rfl) : Ev c (.Call (.Name "repr" p) [a] [] pos) Γ P := fun σ H er Q W tk xw q => .mk fun pins s I => by
  have cr : CallR c.X (.builtin "repr") (fun vs H Q => ∃ b, vs = [.ref b] ∧ H b = some (.dK []) ∧ Q (.str (shw (.dic []))) H) := by
    intro pins s σ' H xs us Q I r h
    obtain ⟨b, rfl, hb, q⟩ := h
    obtain ⟨u, rfl, ru⟩ := vals1 r
    cases ru
    obtain ⟨_, hsm, vs, kv, o, es, ep, ho, hx, hd, hko, hps, _⟩ := dk_of I.hok hb
    cases kv
    have hes : es.toList = [] := by cases hq : es.toList with
      | nil => rfl
      | cons x xs => rw [hq] at hps; cases hps
    have rd : Reads s.heap (.ref b) (.dict []) (b :: [] ++ []) := .dict ho hx.1 hd (by rw [hes]; exact .nil) (by rw [hes]; exact .nil)
    have hu := bd.hr.units
    refine repr_of_reads' rd (by simp [PyData.showable, PyData.showableKv]) (fun _ z => ?_) bd.gd (by simp only [PyData.depth, PyData.depthKv]; omega) (fun _ _ e => e) (fun h' u tk hk => ⟨.str (shw (.dic [])), H, I.kept (t' := tk) hk, ⟨u, by simp only [shw, toPy]⟩, q⟩) (by simp only [PyData.shown, PyData.shownKv]; decide)
    have z' : sysModules = b := by simpa using z
    rw [z'] at hsm
    simp at hsm
  refine (pe_callB cr hg hm (by decide +kernel) (pa_cons selfE pa_nil hs) (by decide) (by decide) hs hpl).run pins s σ H Q I ?_
  exact h σ H er _ W tk xw fun v d Γ1 H1 g r ⟨e, hp⟩ => by
    subst e
    obtain ⟨b, xs, rfl, e1, e2⟩ := r.dic_
    cases e2
    exact ⟨_, rfl, e1, q _ _ Γ1 H1 g (.str _) hp⟩
/-! ### stores -/
/-- x = e1 + e2, lists, the new one this body's own -/
theorem s1_setCat (bd : Bd c k) {x : Str} {pos' opos : Pos} (i : Nat) (hi : c.X.N[i]? = some x) (hx : Loc c.X.env.scope x) (hl : i < Γ.length) (h : Ev c a Γ fun x Γ1 => EvQ c b Γ1 fun y Γ2 => ∃ xs ys, x = .lst xs ∧ y = .lst ys ∧ xs.length + ys.length ≤ 16777216 ∧ R.nx (Γ2.set i (.own (xs ++ ys))))
    (hs : swapsWith (.BinOp a .Add b opos) (some (.Name x pos')) pos.line c.X.env = pure false := by rfl) (hf : c.X.fn x = true ∨ c.X.env.scope.names.lookup x = some .local := by first | exact .inl rfl | exact .inr rfl) : S1 c (.Assign [.Name x pos'] (.BinOp a .Add b opos) pos) Γ R := fun σ H er W Dd tk k =>
  outS (ps_set bd.nd hi hx (pe_op op_cat selfE selfE) hs hf) (h σ H er _ W tk k.xw fun v x Γ1 H1 g1 p1 h2 => h2 σ H1 g1.er _ W tk (k.xw.on g1.er g1.st) fun w y Γ2 H2 g2 p2 ⟨xs, ys, e1, e2, hz, hp⟩ => by
    subst e1 e2
    obtain ⟨l1, vs, rfl, q1, r1⟩ := (Rq.of (Rp.to (g2.goes g1.er) _ _ p1)).lst_
    obtain ⟨l2, ws, rfl, q2, r2⟩ := p2.lst_
    have g := g1.trans g2
    refine ⟨l1, l2, vs, ws, rfl, rfl, q1, q2, by rw [r1.length, r2.length]; exact sz hz, fun t ht => ?_⟩
    obtain ⟨r3, s3⟩ := g.er.make i (by rw [g.length]; exact hl) ht (.lst (r1.app r2))
    exact k.nx _ _ _ (g.st.trans g.er s3) r3 hp)
/-- target = e -/
theorem s1_asgG {tg : Expr} (h : Ev c e Γ fun d Γ1 => Gv c tg Γ1 d R.nx) (hs : swapsWithSole [tg] e pos.line c.X.env = pure false := by rfl) (hw : swappedStores [tg] e c.X.env = pure none := by rfl) (h1 : (assignEach [tg] c.X.env).map (·.2) = [assign tg c.X.env] := by rfl) : S1 c (.Assign [tg] e pos) Γ R := fun σ H er W Dd tk k =>
  outS (ps_asg selfE selfG hs hw h1) (h σ H er _ W tk k.xw fun v d Γ1 H1 g r hg => hg σ H1 v g.er r _ (fun σ' Γ' H' st er' hp => k.nx _ _ _ (g.st.trans g.er st) er' hp))
end
end U
/-! U14: the end of a law: its own call, no repr under way. -/
namespace U
open PySem PySem.Spec PyProof.Rows L2
/-- the script is all that is tracked -/
structure Alone (H : Hw) (a : Addr) (ns : List Int) (K : PySem.W.Frag) : Prop where
  only : ∀ b, H b ≠ none → b = a
  kind : ∀ b o, H b = some o → ∃ x xs, o = .frz x (.lst xs)
  sq : SqL K H a (ns.map V.int)
theorem end_call {P : Program} {w : World} {K : PySem.W.Frag} {mg mb : Str → Option Value} {k : Nat} {fa a : Addr} {fd : FuncData} {x : Str} {sp : Sp} {s1 : Shared} {us : List Value} {ns : List Int}
    (KX : K.In s1.heap) (n1 : s1.heap.Ns mainGlobals mg) (n2 : s1.heap.Ns builtinsNs mb) (n3 : ∀ y : Str, y ≠ "__name__" → mb y = bootBuiltins y) (n4 : s1.heap.NoLimit) {imp : Prop} (n5 : imp → ∃ mm, s1.heap.Ns sysModules mm) (g0 : s1.gens = #[])
    (at_ : s1.heap.get? a = some { cls := .type "list", data := .seq us.toArray }) (hi : IntsAre us ns) (hl : ns.length ≤ sizeLine) (hr : Room k callerA)
    (F : ∀ base : Heap, K.In base → base.Ns mainGlobals mg → (imp → ∃ mm, base.Ns sysModules mm) → FnG P w K mg base k fa fd [x] sp) (hb : ∀ (s : Shared) (u : Value), BindsTo s fd ⟨[u], []⟩ [(x, u)])
    (hsp : ∀ H : Hw, Alone H a ns K → sp [.ref a] H (fun v _ => v = .bl true) fun _ _ _ => False) (nox : ∀ H s e s', L2.CX P w [] H s (fun _ _ _ => False) e s' → False) :
    codeAny (model P w) callerA (.call (.ref fa) ⟨[.ref a], []⟩) (fun r t => r = .ok (.ret (.bool true)) ∧ OldK s1.heap t.heap ∧ t.os = s1.os ∧ AllBare t.gens) s1 := by
  have vals : Vals (ns.map V.int) us := vals_ints hi
  have len := hi.length
  have main : ∀ H : Hw, Alone H a ns K → HOk P w H s1.heap → (H a ≠ none → K.lookup a = none) →
      codeAny (model P w) callerA (.call (.ref fa) ⟨[.ref a], []⟩) (fun r t => r = .ok (.ret (.bool true)) ∧ OldK s1.heap t.heap ∧ t.os = s1.os ∧ AllBare t.gens) s1 := by
    intro H hA hok hK
    have low : ∀ {b : Addr} {o : Obj}, s1.heap.get? b = some o → (b = a → H a = none) → (hidT s1.heap H).get? b = some o := fun {b o} e z => hidT_get e (by
      by_cases q : H b = none
      · exact q
      · have e2 := hA.only b q
        subst e2
        exact absurd (z rfl) q)
    have dicts : ∀ {b : Addr} {m : Str → Option Value}, s1.heap.Ns b m → (hidT s1.heap H).Ns b m := fun {b m} ⟨o, es, ep, e, d, r⟩ => by
      refine ⟨o, es, ep, low e fun z => ?_, d, r⟩
      subst z
      rw [at_] at e
      cases e
      cases d
    have inK : K.In (hidT s1.heap H) := fun b o e => low (KX b o e) fun z => by
      by_cases q : H a = none
      · exact q
      · have e2 := hK q
        rw [← z, e] at e2
        cases e2
    have md : Mod K mg (hidT s1.heap H) := ⟨inK, dicts n1, ⟨mb, dicts n2, n3⟩, by obtain ⟨mc, h1, h2⟩ := n4; exact ⟨mc, dicts h1, h2⟩⟩
    have env : Env0 P w K mg (hidT s1.heap H) callerA [] s1 H := ⟨rfl, md, fun b o e => of_hidT e, Nat.le_of_eq (hidT_size _ _), trivial, (fun b z => absurd z (by simp [frs])), hok, .of_eq g0⟩
    have run := (F _ inK (dicts n1) fun z => (n5 z).imp fun _ y => dicts y).run callerA [] s1 H ⟨[.ref a], []⟩ [.ref a] [.ref a] _ _ hr rfl env (hb s1 (.ref a)) (.cons rfl .nil) (hsp H hA)
    refine codeAny_mono run fun r t h => ?_
    match r, h with
    | .error e, h => exact (nox H s1 e t h).elim
    | .ok (.ret u), ⟨v, H', os, bare, un, hok', r', q⟩ =>
      have q' : v = .bl true := q
      subst q'
      have eu : u = Value.bool true := r'
      subst eu
      refine ⟨rfl, OldK.of_keep fun b o e => ?_, os, bare⟩
      cases q : H b with
      | none => exact un.keep b o e q (fun z => absurd z (by simp [frs])) (by simp)
      | some ho =>
        obtain ⟨x1, xs, rfl⟩ := hA.kind b ho q
        have z2 := un.frzs b x1 _ q
        have a1 := (hok b _ q).1
        have a2 := (hok' b _ z2).1
        rw [e] at a1
        cases a1
        exact a2
  by_cases hk : K.lookup a = none
  · let H0 : Hw := fun b => if b = a then some (.frz { cls := .type "list", data := .seq us.toArray } (.lst (ns.map V.int))) else none
    have h0 : H0 a = some (.frz { cls := .type "list", data := .seq us.toArray } (.lst (ns.map V.int))) := if_pos rfl
    have h1 : ∀ b, b ≠ a → H0 b = none := fun b n => if_neg n
    refine main H0 ⟨fun b z => ?_, fun b o z => ?_, .inl (.inr ⟨_, h0⟩)⟩ (fun b o z => ?_) fun _ => hk
    · by_cases q : b = a
      · exact q
      · exact absurd (h1 b q) z
    · by_cases q : b = a
      · rw [q, h0] at z
        cases z
        exact ⟨_, _, rfl⟩
      · rw [h1 b q] at z
        cases z
    · by_cases q : b = a
      · rw [q, h0] at z
        cases z
        rw [q]
        exact ⟨at_, by rw [List.length_map]; exact hl, us, _, vals, at_⟩
      · rw [h1 b q] at z
        cases z
  · obtain ⟨o, ho⟩ := Option.ne_none_iff_exists'.mp hk
    have e := KX a o ho
    rw [at_] at e
    cases e
    refine main (fun _ => none) ⟨fun b z => absurd rfl z, (fun b o z => by cases z), .inr ⟨_, us.toArray, _, ho, rfl, rfl, rfl, by rw [List.size_toArray, len]; exact hl, by simpa using vals⟩⟩ (fun b o z => by cases z) fun z => absurd rfl z
/-- the goal that the law's head leaves -/
theorem end_of {l : PySem.W.OpenLaw} {n k : Nat} {q : Program} {loose : List Str} {XP : (Str → Option Value) → Heap → Prop} {YP : World → Heap → Prop} {d : DefRec} {K : Params → PySem.W.Frag} {sp : World → Sp} {x : Str}
    (hn : l.most = some n) (hn2 : n ≤ sizeLine) (hdf : d.params.defaults = []) (hr : Room k callerA) (hY : ∀ (w : World) (h : Heap), YP w h → (K w.params).In h)
    (F : ∀ (w : World) (mg : Str → Option Value) (fa : Addr) (h : Heap), (K w.params).In h → h.Ns mainGlobals mg → mg d.name = some (.ref fa) →
      ∃ fd : FuncData, (∀ (s : Shared) (u : Value), BindsTo s fd ⟨[u], []⟩ [(x, u)]) ∧ ∀ base : Heap, (K w.params).In base → base.Ns mainGlobals mg → (importsNone q = true → ∃ mm, base.Ns sysModules mm) → FnG l.prog w (K w.params) mg base k fa fd [x] (sp w))
    (hsp : ∀ (w : World) (H : Hw) (a : Addr) (ns : List Int), ns.length ≤ n → (∀ z ∈ ns, Builtin.Int.intBits z ≤ 1048576) → Alone H a ns (K w.params) → sp w [.ref a] H (fun v _ => v = .bl true) fun _ _ _ => False)
    (nox : ∀ (w : World) (H : Hw) (s : Shared) (e : Value) (s' : Shared), L2.CX l.prog w [] H s (fun _ _ _ => False) e s' → False) :
    PySem.W.WalkO q loose XP YP l.row.toRowW d [] (fun f vs => PySem.call f vs) := by
  refine Att.attach_callB hn hdf fun w s0 s1 mg mb fa o pm cd doc a us ns G Y ho hd hcd hmg hobj hints hlen hbits hg => ?_
  obtain ⟨fd, hb, hF⟩ := F w mg fa _ (hY w _ Y) G.T.g hmg
  exact end_call (hY w _ Y) G.T.g G.T.b G.T.builtins G.T.nolimit (fun z => (G.T.seer z).mods.imp fun _ y => y.1) hg hobj hints (Nat.le_trans hlen hn2) hr hF hb (fun H hA => hsp w H a ns hlen hbits hA) fun H s e s' => nox w H s e s'
end U
/-! U15: rows of ints compared; places by name. -/
namespace U
open PySem PySem.Spec PyProof.Rows L2
theorem toPyA_ints : ∀ ns : List Int, toPyA (ns.map D.int) = ns.map PyData.int
  | [] => rfl
  | n :: ns => by
    rw [List.map_cons, List.map_cons]
    simp only [toPyA, toPy]
    rw [toPyA_ints ns]
theorem dpa_ints {K : PySem.W.Frag} {H : Hw} : ∀ ns : List Int, DpAll K H (ns.map V.int) (ns.map PyData.int)
  | [] => .nil
  | n :: ns => .cons (.int n) (dpa_ints ns)
theorem eqvAll_ints : ∀ ns ms : List Int, PyData.eqvAll (ns.map PyData.int) (ms.map PyData.int) = decide (ns = ms)
  | [], [] => by simp [PyData.eqvAll]
  | [], _ :: _ => by simp [PyData.eqvAll]
  | _ :: _, [] => by simp [PyData.eqvAll]
  | n :: ns, m :: ms => by
    rw [List.map_cons, List.map_cons]
    simp only [PyData.eqvAll, PyData.eqv]
    rw [eqvAll_ints ns ms]
    by_cases h : n = m <;> by_cases h2 : ns = ms <;> simp [h, h2]
theorem eqv_lint (ns ms : List Int) : PyData.eqv (.list (ns.map PyData.int)) (.list (ms.map PyData.int)) = decide (ns = ms) := by
  simp only [PyData.eqv]
  exact eqvAll_ints ns ms
theorem plA_ints : ∀ ns : List Int, D.plA (ns.map D.int) = true
  | [] => rfl
  | n :: ns => by
    rw [List.map_cons]
    simp only [D.plA, D.pl, Bool.true_and]
    exact plA_ints ns
theorem eqk_lint (ns : List Int) : Eqk (.lst (ns.map D.int)) := ⟨by simp only [D.pl]; exact plA_ints ns, by simp only [toPy]; rw [toPyA_ints]; exact PySem.W.shaped_ints ns⟩
theorem eqd_lint (ns ms : List Int) : PyData.eqv (toPy (.lst (ns.map D.int))) (toPy (.lst (ms.map D.int))) = decide (ns = ms) := by
  simp only [toPy]
  rw [toPyA_ints, toPyA_ints]
  exact eqv_lint ns ms
/-! ### blocks at the values' level -/
theorem vb_cons {X : Cx} {D : Ends} {st : Stmt} {sts : List Stmt} {σ : L2.St} {H : Hw} (h : wpS X st { D with nx := fun σ H => wpB X sts D σ H } σ H) : wpB X (st :: sts) D σ H := outB (pss_cons selfS selfB) h
theorem ps_mid {X : Cx} {st : Stmt} : PS X st (fun D σ H => ∃ R : L2.St → Hw → Prop, wpS X st { D with nx := R } σ H ∧ ∀ σ' H', R σ' H' → D.nx σ' H') := ⟨fun pins s σ H D I ⟨R, h1, h2⟩ => by
  refine wpAny_mono (h1.run pins s I) (fun fl s' h => ?_) fun _ _ h => h
  cases fl with
  | next =>
    obtain ⟨σ', H', I', r⟩ := h
    exact ⟨σ', H', I', h2 _ _ r⟩
  | ret u => exact h
  | brk => exact h
  | cont => exact h⟩
/-- a statement, what holds behind it, the rest -/
theorem vb_mid {X : Cx} {D : Ends} {st : Stmt} {sts : List Stmt} {σ : L2.St} {H : Hw} (R : L2.St → Hw → Prop) (h1 : wpS X st { D with nx := R } σ H) (h2 : ∀ σ' H', R σ' H' → wpB X sts D σ' H') : wpB X (st :: sts) D σ H :=
  outB (pss_cons ps_mid selfB) ⟨R, h1, h2⟩
theorem vb_nil {X : Cx} {D : Ends} {σ : L2.St} {H : Hw} (h : D.nx σ H) : wpB X [] D σ H := outB pss_nil h
end U
/-! U16: comprehensions, item by item. -/
namespace U
open PySem PySem.Spec PyProof.Rows L2
inductive All2 (R : D → D → Prop) : List D → List D → Prop
  | nil : All2 R [] []
  | cons {x y : D} {xs ys : List D} : R x y → All2 R xs ys → All2 R (x :: xs) (y :: ys)
theorem All2.snoc {R : D → D → Prop} {x y : D} (h : R x y) : ∀ {xs ys : List D}, All2 R xs ys → All2 R (xs ++ [x]) (ys ++ [y])
  | [], [], _ => .cons h .nil
  | _ :: _, _ :: _, .cons a b => .cons a (All2.snoc h b)
theorem All2.length {R : D → D → Prop} : ∀ {xs ys : List D}, All2 R xs ys → ys.length = xs.length
  | [], [], _ => rfl
  | _ :: _, _ :: _, .cons _ b => by simp [All2.length b]
theorem All2.eq {g : D → D} : ∀ {xs ys : List D}, All2 (fun x y => y = g x) xs ys → ys = xs.map g
  | [], [], _ => rfl
  | _ :: _, _ :: _, .cons a b => by rw [a, All2.eq b]; rfl
theorem All2.all {p : D → Prop} : ∀ {xs ys : List D}, All2 (fun _ y => p y) xs ys → ∀ y ∈ ys, p y
  | [], [], _, _, h => by cases h
  | _ :: _, _ :: _, .cons a b, y, h => by
    rcases List.mem_cons.mp h with e | e
    · rw [e]; exact a
    · exact All2.all b y e
section
variable {c : Co} {k : Nat} {Γ : Ga} {pos : Pos}
/-- [elt for tg in iter] -/
theorem ev_lcR {P : D → Ga → Prop} {elt tg iter : Expr} {scope : Scope} (own : List (Str × Nat)) (bd : Bd c k) (ok : BlkOk c.X.N c.X.env.scope scope own)
    (h : Iv c tg iter Γ fun xs Γ1 => xs.length ≤ 1000000 ∧ (∀ m ∈ own.map (·.2), ∀ s, Γ1[m]? = some s → s.mine = false) ∧ ∃ R : D → D → Prop,
      (∀ x ∈ xs, ∀ (Dl : Addr) (s : Shared) (H : Hw) (C : Addr) (cl : List (Str × Addr)) (fp : List Addr), Gw (c.inner s H scope C cl fp Dl) (own.map (·.2)) tg (unset (own.map (·.2)) Γ1) x fun Γ2 =>
        ∀ (s : Shared) (H : Hw) (C : Addr) (cl : List (Str × Addr)) (fp : List Addr), Bd (c.inner s H scope C cl fp Dl) k → Ev (c.inner s H scope C cl fp Dl) elt Γ2 fun y Γ4 => Γ4 = Γ2 ∧ R x y) ∧
      ∀ ys, All2 R xs ys → P (.lst ys) Γ1)
    (hs : ∀ x, foldedSetIterable iter c.X.env x = pure x := by intro _; rfl) : Ev c (.ListComp elt [⟨tg, iter, [], 0⟩] scope pos) Γ P := by
  refine ev_lc own bd ok (fun σ H er R W tk xw q => h σ H er R W tk xw fun J xs Γ' H' g src hp => q J xs Γ' H' g src ?_) hs
  obtain ⟨hl, hm, R, ht, hd⟩ := hp
  refine ⟨fun i acc => All2 R (xs.take i) acc, (show All2 R (xs.take 0) [] from by rw [List.take_zero]; exact .nil), hl, hm, fun i x acc hx hI al Dl s H C cl fp => ?_, fun acc hI => hd acc (by have z : All2 R (xs.take xs.length) acc := hI; rw [List.take_length] at z; exact z)⟩
  have z := ht x (List.mem_of_getElem? hx) Dl s H C cl fp
  intro σ1 H1 v1 er1 p1 Q1 q1
  refine z σ1 H1 v1 er1 p1 Q1 fun σ' Γ' e1 e2 st er' hE => q1 σ' Γ' e1 e2 st er' ?_
  intro s2 H2 C2 cl2 fp2
  refine .inl ⟨rfl, rfl, fun _ s3 H3 C3 cl3 fp3 => ?_, fun z => by cases z⟩
  refine ev_mono (hE s3 H3 C3 cl3 fp3 (bd.inner s3 H3 scope C3 cl3 fp3 Dl)) fun y Γ4 ⟨e4, r⟩ => ⟨e4, ?_⟩
  show All2 R (xs.take (i + 1)) (acc ++ [y])
  rw [List.take_succ, hx]
  exact All2.snoc r hI
end
end U
/-! U17: repr of what may be an empty dict; statements one by one; rows of small items. -/
namespace U
open PySem PySem.Spec PyProof.Rows L2
/-- repr tells it -/
def Shown (d : D) : Prop := (∃ n j, Rk d n j ∧ n ≤ 16777216 ∧ j ≤ 60) ∨ d = .dic []
section
variable {c : Co} {k : Nat} {Γ : Ga} {R : Oc} {P : D → Ga → Prop} {a b e : Expr} {es : List Expr} {pos p : Pos} {X : Cx}
theorem call_reprE_data (gd : X.A.guards = some []) (hu : X.A.units + 64 < cLine) {H : Hw} {b : Addr} (hb : H b = some (.dK [])) {pins : List (Addr × Obj)} {s : Shared} {σ : Sw} {Q : VK} (I : Inv X pins σ H s) (q : Q (.str (shw (.dic []))) H) :
    wpAny (model X.prog X.w) X.A (call (.builtin "repr") [.ref b]) (EP X pins σ Q) X.xe s := by
  obtain ⟨_, hsm, vs, kv, o, es, ep, ho, hx, hd, hko, hps, _⟩ := dk_of I.hok hb
  cases kv
  have hes : es.toList = [] := by cases hq : es.toList with
    | nil => rfl
    | cons x xs => rw [hq] at hps; cases hps
  have rd : Reads s.heap (.ref b) (.dict []) (b :: [] ++ []) := .dict ho hx.1 hd (by rw [hes]; exact .nil) (by rw [hes]; exact .nil)
  refine repr_of_reads' rd (by simp [PyData.showable, PyData.showableKv]) (fun _ z => ?_) gd (by simp only [PyData.depth, PyData.depthKv]; omega) (fun _ _ e => e) (fun h' u tk hk => ⟨.str (shw (.dic [])), H, I.kept (t' := tk) hk, ⟨u, by simp only [shw, toPy]⟩, q⟩) (by simp only [PyData.shown, PyData.shownKv]; decide)
  have z' : sysModules = b := by simpa using z
  rw [z'] at hsm
  simp at hsm
theorem ev_reprG (bd : Bd c k) (hm : c.X.mg "repr" = none) (h : EvQ c a Γ fun d Γ1 => Shown d ∧ P (.str (shw d)) Γ1) (hg : Gl c.X "repr") (hs : starEach [a] c.X.env = (false, eval a c.X.env) :: starEach [] c.X.env := by rfl) (hpl : (backTo pos (starEach [] c.X.env)).any (·.1) = false := by rfl) : Ev c (.Call (.Name "repr" p) [a] [] pos) Γ P := fun σ H er Q W tk xw q => .mk fun pins s I => by
  have cr : CallR c.X (.builtin "repr") (fun vs H Q => ∃ (M' : Ex) (v : V) (d : D), vs = [v] ∧ Rq M' H v d ∧ Shown d ∧ Q (.str (shw d)) H) := by
    intro pins s σ' H xs us Q I r h
    obtain ⟨M', v, d, rfl, rq, sh, q⟩ := h
    obtain ⟨u, rfl, ru⟩ := vals1 r
    rcases sh with ⟨n, j, rk, hn, hj⟩ | e
    · exact call_repr_data bd.gd bd.hr.units rq rk hn hj I ru q
    · subst e
      obtain ⟨b, xs, rfl, e1, e2⟩ := rq.dic_
      cases e2
      cases ru
      exact call_reprE_data bd.gd bd.hr.units e1 I q
  refine (pe_callB cr hg hm (by decide +kernel) (pa_cons selfE pa_nil hs) (by decide) (by decide) hs hpl).run pins s σ H Q I ?_
  exact h σ H er _ W tk xw fun v d Γ1 H1 g r ⟨sh, hp⟩ => ⟨_, v, d, rfl, r, sh, q _ _ Γ1 H1 g (.str _) hp⟩
theorem sv_mid {st : Stmt} {sts : List Stmt} (N : Ga → Prop) (h1 : S1 c st Γ { R with nx := N }) (h2 : ∀ Γ', N Γ' → Sv c sts Γ' R) : Sv c (st :: sts) Γ R := sv_cons (s1_mono h1 h2 (fun _ h => h) (fun _ h => h) fun _ h => h)
end
/-! ### small items -/
def Small (x : D) : Prop := x.isAd = false ∧ Rk x 700 3
def Smalls (xs : List D) (n : Nat) : Prop := xs.length ≤ n ∧ ∀ x ∈ xs, Small x
theorem mem_cut {α : Type} {x : α} {xs : List α} {lo hi : Option Int} (h : x ∈ cut xs lo hi) : x ∈ xs := List.mem_of_mem_drop (List.mem_of_mem_take h)
theorem cut_le {α : Type} (xs : List α) (lo hi : Option Int) : (cut xs lo hi).length ≤ xs.length := by
  unfold U.cut
  rw [List.length_take, List.length_drop]
  omega
theorem Smalls.cut {xs : List D} {n : Nat} (h : Smalls xs n) (lo hi : Option Int) : Smalls (U.cut xs lo hi) n := ⟨Nat.le_trans (cut_le xs lo hi) h.1, fun x hx => h.2 x (mem_cut hx)⟩
theorem Smalls.app {xs ys : List D} {n m : Nat} (h : Smalls xs n) (h2 : Smalls ys m) : Smalls (xs ++ ys) (n + m) := ⟨by rw [List.length_append]; exact Nat.add_le_add h.1 h2.1, fun x hx => (List.mem_append.mp hx).elim (h.2 x) (h2.2 x)⟩
theorem Smalls.rev {xs : List D} {n : Nat} (h : Smalls xs n) : Smalls xs.reverse n := ⟨by rw [List.length_reverse]; exact h.1, fun x hx => h.2 x (List.mem_reverse.mp hx)⟩
theorem Smalls.one {x : D} (h : Small x) : Smalls [x] 1 := ⟨Nat.le_refl _, fun y hy => by rw [List.mem_singleton.mp hy]; exact h⟩
theorem small_int {i : Int} (h : i.natAbs < 2 ^ 600) : Small (.int i) := ⟨rfl, (rk_int (n := 600) (k := 3) h (by decide) (by decide)).le (by decide) (by decide)⟩
theorem Smalls.ints {ns : List Int} (h : ∀ i ∈ ns, i.natAbs < 2 ^ 600) : Smalls (ns.map D.int) ns.length := ⟨by rw [List.length_map]; exact Nat.le_refl _, fun x hx => by
  obtain ⟨i, hi, rfl⟩ := List.mem_map.mp hx
  exact small_int (h i hi)⟩
theorem Smalls.rka {xs : List D} {n : Nat} (h : Smalls xs n) : RkA xs (702 * n) 3 := by
  have a := rka_all (n := 700) (k := 3) fun d hd => (h.2 d hd).2
  exact ⟨a.pl, a.nd, a.sh, Nat.le_trans a.ln (Nat.mul_le_mul_left _ h.1), a.dp⟩
theorem Smalls.tup {xs : List D} {n : Nat} (h : Smalls xs n) (hn : n ≤ 20000) : Shown (.tup xs) := .inl ⟨_, _, rk_tup h.rka, by omega, by omega⟩
theorem Smalls.lst {xs : List D} {n : Nat} (h : Smalls xs n) (hn : n ≤ 20000) : Shown (.lst xs) := .inl ⟨_, _, rk_lst h.rka, by omega, by omega⟩
theorem Small.shown {x : D} (h : Small x) : Shown x := .inl ⟨_, _, h.2, by omega, by omega⟩
/-- what a value may be -/
structure Good (d : D) : Prop where
  na : d.isAd = false
  it : ∀ xs, d = .tup xs → ∀ x ∈ xs, x.isAd = false
  sh : Shown d
theorem Smalls.gtup {xs : List D} {n : Nat} (h : Smalls xs n) (hn : n ≤ 20000) : Good (.tup xs) := ⟨rfl, fun ys e x hx => by cases e; exact (h.2 x hx).1, h.tup hn⟩
theorem Smalls.glst {xs : List D} {n : Nat} (h : Smalls xs n) (hn : n ≤ 20000) : Good (.lst xs) := ⟨rfl, fun ys e x hx => (by cases e), h.lst hn⟩
end U
/-! U18: the text of a tuple of ints, itself told again. -/
namespace U
open PySem PySem.Spec PyProof.Rows L2
theorem shw_tup_low (ns : List Int) : ∀ c ∈ (shw (.tup (ns.map D.int))).cps.toList, c < 16 ^ 8 := fun c hc => by
  by_cases hlt : c < 100
  · exact Nat.lt_trans hlt (by decide)
  · exfalso
    simp only [shw, toPy] at hc
    rw [toPyA_ints, PyData.shown_tuple, mem_cps_append, mem_cps_append, signs_lparen, mem_join, signs_tuple_end] at hc
    rcases hc with (hm | (⟨t, ht, hc⟩ | ⟨_, hm⟩)) | hm
    · have := List.mem_singleton.mp hm
      omega
    · refine shownAll_free (xs := ns.map PyData.int) (k := c) (fun x hx => ?_) t ht hc
      obtain ⟨n, _, rfl⟩ := List.mem_map.mp hx
      exact shown_int_free' ⟨by omega, by omega⟩ n
    · rw [signs_sep] at hm
      simp only [List.mem_cons, List.not_mem_nil, or_false] at hm
      omega
    · split at hm
      all_goals
        simp only [List.mem_cons, List.not_mem_nil, or_false] at hm
        omega
theorem shown_str_tup {ns : List Int} {n j : Nat} (h : Rk (.tup (ns.map D.int)) n j) (hn : 10 * n + 2 ≤ 16777216) : Shown (.str (shw (.tup (ns.map D.int)))) :=
  .inl ⟨_, 3, (rk_str (k := 3) (shw_tup_low ns)).le (Nat.le_refl _) (Nat.le_refl 3), Nat.le_trans (show 10 * (shw (.tup (ns.map D.int))).length + 2 ≤ 10 * n + 2 from by have z : (shw (.tup (ns.map D.int))).length ≤ n := h.ln; omega) hn, by omega⟩
end U
/-! U19: x = [elt for tg in iter if ..] on one line. -/
namespace U
open PySem PySem.Spec PyProof.Rows L2
section
variable {c : Co} {k : Nat} {Γ : Ga} {R : Oc} {pos : Pos}
theorem lc_reads {P : D → Ga → Prop} {elt tg iter : Expr} {ifs : List Expr} {scope : Scope} (own : List (Str × Nat)) (bd : Bd c k)
    (h : Iv c tg iter Γ fun xs Γ1 => ∃ I : Nat → List D → Prop, I 0 [] ∧ xs.length ≤ 1000000 ∧ (∀ m ∈ own.map (·.2), ∀ s, Γ1[m]? = some s → s.mine = false) ∧
      (∀ i x acc, xs[i]? = some x → I i acc → acc.length ≤ i → ∀ (Dl : Addr) (s : Shared) (H : Hw) (C : Addr) (cl : List (Str × Addr)) (fp : List Addr), Gw (c.inner s H scope C cl fp Dl) (own.map (·.2)) tg (unset (own.map (·.2)) Γ1) x fun Γ2 =>
        ∀ (s : Shared) (H : Hw) (C : Addr) (cl : List (Str × Addr)) (fp : List Addr), Fv (c.inner s H scope C cl fp Dl) ifs Γ2 fun b Γ3 => Γ3 = Γ2 ∧ (b = true →
          ∀ (s : Shared) (H : Hw) (C : Addr) (cl : List (Str × Addr)) (fp : List Addr), Ev (c.inner s H scope C cl fp Dl) elt Γ2 fun y Γ4 => Γ4 = Γ2 ∧ I (i + 1) (acc ++ [y])) ∧ (b = false → I (i + 1) acc)) ∧
      ∀ acc, I xs.length acc → P (.lst acc) Γ1)
    {σ : Sw} {H : Hw} (er : ER c.U c.M H σ Γ) {Q : VK} {W : WX} (tk : Takes c.X W) (xw : XW c σ Γ H W) (q : ∀ v d Γ' H', Go c σ Γ H Γ' H' → Rp (Mx c.M σ Γ') H' v d → P d Γ' → Q v H') :
    tLc (wpI c.X tg iter) (wpGX c.X scope tg) (wpFX c.X scope ifs) (wpEX c.X scope elt) (own.map (·.2)) σ H Q := by
  refine h σ H er _ W tk xw fun J xs Γ1 H1 g src ⟨I, h0, hl, hm, ht, hd⟩ Dl hD => ?_
  refine lc_data (P := fun acc => P (.lst acc) Γ1) g.er src hD h0 hl (fun i x acc hx hI al => ht i x acc hx hI al Dl) fun accV acc H2 md hI => ?_
  have st : Step c.U σ Γ1 H1 σ Γ1 H2 := ⟨md.pres, fun a z => .inl z⟩
  have ge : Goes (Mx c.M σ Γ1) (Mx c.M σ Γ1) H1 H2 := st.goes g.er
  have down : ∀ a, Ow σ Γ1 a → Ow (wipe σ (own.map (·.2))) (unset (own.map (·.2)) Γ1) a := fun a ⟨i, s, h1, h2, h3⟩ => by
    by_cases hi : i ∈ own.map (·.2)
    · rw [hm i hi s h1] at h2
      cases h2
    · exact ⟨i, s, by rw [unset_off hi]; exact h1, h2, by rw [wipe_off hi]; exact h3⟩
  have gd : Goes (Mx (fun a => c.M a ∨ a = Dl) (wipe σ (own.map (·.2))) (unset (own.map (·.2)) Γ1)) (Mx c.M σ Γ1) H2 H2 := ⟨fun a o m e => ⟨e, fun z => m (z.elim (fun y => .inl (.inl y)) fun y => .inr (down a y))⟩⟩
  have er2 : ER c.U c.M H2 σ Γ1 := by
    refine ER.of g.er.tm (fun a m => md.er.kn a (.inl m)) md.er.j g.er.len (fun i d h => ?_) (fun i s h m => ?_) g.er.sep
    · obtain ⟨v, h1, h2⟩ := g.er.dat i d h
      exact ⟨v, h1, Rp.to ge _ _ h2⟩
    · have hi : i ∉ own.map (·.2) := fun z => by rw [hm i z s h] at m; cases m
      obtain ⟨a, o, h1, h2, h3, h4⟩ := md.er.ob (i := i) (s := s) (by rw [unset_off hi]; exact h) m
      rw [wipe_off hi] at h1
      exact ⟨a, o, h1, h2, fun z => h3 (.inl z), h4.to gd⟩
  have nm : ¬ Mx c.M σ Γ1 Dl := fun z => g.er.mx Dl z hD
  exact q _ _ Γ1 H2 (g.trans ⟨st, rfl, er2⟩) (.lst md.dl nm (RpA.to gd _ _ md.ra)) (hd acc hI)

theorem s1_setLc {elt tg iter : Expr} {ifs : List Expr} {scope : Scope} {y : Str} {py spos : Pos} (own : List (Str × Nat)) (bd : Bd c k) (j : Nat) (hy : c.X.N[j]? = some y) (hyl : c.X.env.scope.names.lookup y = some .local) (hj : j < Γ.length) (ok : BlkOk c.X.N c.X.env.scope scope own)
    (h : Iv c tg iter Γ fun xs Γ1 => ∃ I : Nat → List D → Prop, I 0 [] ∧ xs.length ≤ 1000000 ∧ (∀ m ∈ own.map (·.2), ∀ s, Γ1[m]? = some s → s.mine = false) ∧
      (∀ i x acc, xs[i]? = some x → I i acc → acc.length ≤ i → ∀ (Dl : Addr) (s : Shared) (H : Hw) (C : Addr) (cl : List (Str × Addr)) (fp : List Addr), Gw (c.inner s H scope C cl fp Dl) (own.map (·.2)) tg (unset (own.map (·.2)) Γ1) x fun Γ2 =>
        ∀ (s : Shared) (H : Hw) (C : Addr) (cl : List (Str × Addr)) (fp : List Addr), Fv (c.inner s H scope C cl fp Dl) ifs Γ2 fun b Γ3 => Γ3 = Γ2 ∧ (b = true →
          ∀ (s : Shared) (H : Hw) (C : Addr) (cl : List (Str × Addr)) (fp : List Addr), Ev (c.inner s H scope C cl fp Dl) elt Γ2 fun y Γ4 => Γ4 = Γ2 ∧ I (i + 1) (acc ++ [y])) ∧ (b = false → I (i + 1) acc)) ∧
      ∀ acc, I xs.length acc → R.nx (Γ1.set j (.dat (.lst acc))))
    (hsw : swapsWith (.ListComp elt [⟨tg, iter, ifs, 0⟩] scope pos) (some (.Name y py)) spos.line c.X.env = pure true) (hs : ∀ x, foldedSetIterable iter c.X.env x = pure x := by intro _; rfl) :
    S1 c (.Assign [.Name y py] (.ListComp elt [⟨tg, iter, ifs, 0⟩] scope pos) spos) Γ R := fun σ H er W Dd tk k => by
  refine outS (ps_setLc (own := own) (g := wpGX c.X scope tg) (tt := wpFX c.X scope ifs) (te := wpEX c.X scope elt) bd.calm bd.nd hy hyl hsw selfI ok (fun s H C cl fp => ⟨fun pins s' σ H' v u Q I r h => (h s H C cl fp).run pins s' u I r⟩)
    (fun s H C cl fp => ⟨fun pins s' σ H' Q I h => selfF.run pins s' σ H' Q I (h s H C cl fp)⟩) (fun s H C cl fp => ⟨fun pins s' σ H' Q I h => (h s H C cl fp).run pins s' I⟩) hs) ?_
  exact lc_reads (P := fun d Γ1 => R.nx (Γ1.set j (.dat d))) own bd h er tk k.xw fun v d Γ1 H1 g p hp => k.nx _ _ _ (g.st.trans g.er (step_set j)) (g.er.set j p (by rw [g.length]; exact hj)) hp
theorem s1_setLcR {elt tg iter : Expr} {scope : Scope} {y : Str} {py spos : Pos} (own : List (Str × Nat)) (bd : Bd c k) (j : Nat) (hy : c.X.N[j]? = some y) (hyl : c.X.env.scope.names.lookup y = some .local) (hj : j < Γ.length) (ok : BlkOk c.X.N c.X.env.scope scope own)
    (h : Iv c tg iter Γ fun xs Γ1 => xs.length ≤ 1000000 ∧ (∀ m ∈ own.map (·.2), ∀ s, Γ1[m]? = some s → s.mine = false) ∧ ∃ Rl : D → D → Prop,
      (∀ x ∈ xs, ∀ (Dl : Addr) (s : Shared) (H : Hw) (C : Addr) (cl : List (Str × Addr)) (fp : List Addr), Gw (c.inner s H scope C cl fp Dl) (own.map (·.2)) tg (unset (own.map (·.2)) Γ1) x fun Γ2 =>
        ∀ (s : Shared) (H : Hw) (C : Addr) (cl : List (Str × Addr)) (fp : List Addr), Bd (c.inner s H scope C cl fp Dl) k → Ev (c.inner s H scope C cl fp Dl) elt Γ2 fun y Γ4 => Γ4 = Γ2 ∧ Rl x y) ∧
      ∀ ys, All2 Rl xs ys → R.nx (Γ1.set j (.dat (.lst ys))))
    (hsw : swapsWith (.ListComp elt [⟨tg, iter, [], 0⟩] scope pos) (some (.Name y py)) spos.line c.X.env = pure true) (hs : ∀ x, foldedSetIterable iter c.X.env x = pure x := by intro _; rfl) :
    S1 c (.Assign [.Name y py] (.ListComp elt [⟨tg, iter, [], 0⟩] scope pos) spos) Γ R := by
  refine s1_setLc own bd j hy hyl hj ok (fun σ H er R' W tk xw q => h σ H er R' W tk xw fun J xs Γ' H' g src hp => q J xs Γ' H' g src ?_) hsw hs
  obtain ⟨hl, hm, Rl, ht, hd⟩ := hp
  refine ⟨fun i acc => All2 Rl (xs.take i) acc, (show All2 Rl (xs.take 0) [] from by rw [List.take_zero]; exact .nil), hl, hm, fun i x acc hx hI al Dl s H C cl fp => ?_, fun acc hI => hd acc (by have z : All2 Rl (xs.take xs.length) acc := hI; rw [List.take_length] at z; exact z)⟩
  have z := ht x (List.mem_of_getElem? hx) Dl s H C cl fp
  intro σ1 H1 v1 er1 p1 Q1 q1
  refine z σ1 H1 v1 er1 p1 Q1 fun σ' Γ' e1 e2 st er' hE => q1 σ' Γ' e1 e2 st er' ?_
  intro s2 H2 C2 cl2 fp2
  refine .inl ⟨rfl, rfl, fun _ s3 H3 C3 cl3 fp3 => ?_, fun z => by cases z⟩
  refine ev_mono (hE s3 H3 C3 cl3 fp3 (bd.inner s3 H3 scope C3 cl3 fp3 Dl)) fun y Γ4 ⟨e4, r⟩ => ⟨e4, ?_⟩
  show All2 Rl (xs.take (i + 1)) (acc ++ [y])
  rw [List.take_succ, hx]
  exact All2.snoc r hI
end
end U
/-! U20: a call at the values' level; where defs stand; enumerate's items. -/
namespace U
open PySem PySem.Spec PyProof.Rows L2
theorem wpE_call {X : Cx} {W : WX} {x : Str} {f : Addr} {fd : FuncData} {ps : List Str} {j k : Nat} {sp : Sp} {e : Expr} {es : List Expr} {p pos : Pos} {σ : L2.St} {H : Hw} {Q : VK} (tk : Takes X W) (F : FnG X.prog X.w X.K X.mg X.base j f fd ps sp) (hr : Room k X.A) (gd : X.A.guards = some []) (hj : j ≤ k)
    (hm : X.mg x = some (.ref f)) (hk : PySem.W.keepIn X.K (.ref f) = true) (hb : Binds X.K fd ps []) (hg : Gl X x) (h : wpA X (e :: es) σ H fun vs H1 => sp vs H1 Q fun cls d H' => W cls d σ H')
    (hdb : (x == ("__debug__" : Str)) = false := by decide) (he : starEach (e :: es) X.env = (false, eval e X.env) :: starEach es X.env := by rfl) (hpl : (backTo pos (starEach es X.env)).any (·.1) = false := by rfl) : wpE X (.Call (.Name x p) (e :: es) [] pos) σ H Q := .mk fun pins s I => by
  refine wpAny_Call_Name_kw (ld_glob I hg hm ?_ hdb)
  refine PySem.W.callWith_K (h₀ := X.base) I.ok.mod.kin hk (thn (h.run pos pins s I) fun us s1 ⟨vs, H1, I1, rv, hS⟩ => ⟨I1.kIn, ?_⟩) he hpl
  have hl : us.length = ps.length := by
    rw [← rv.length]
    exact F.len vs H1 _ _ hS
  have hb1 := hb s1 us I1.kIn (by rw [List.append_nil]; exact hl)
  rw [List.append_nil] at hb1
  refine wpAny_call (codeAny_mono (F.run X.A X.stack s1 H1 ⟨us, []⟩ us vs Q _ (hr.mono hj) gd I1.env0 hb1 rv hS) fun r s' hq => ?_)
  cases r with
  | error e => exact tk e s' (XE.of_call I1 (fun _ _ _ h => h) hq)
  | ok fl =>
    cases fl with
    | ret u => exact I1.after hq
    | next => exact False.elim hq
    | brk => exact False.elim hq
    | cont => exact False.elim hq
theorem sv_run {c : Co} {sts : List Stmt} {Γ : Ga} {R : Oc} {σ : Sw} {H : Hw} {W : WX} {Dd : Ends} (h : Sv c sts Γ R) (er : ER c.U c.M H σ Γ) (tk : Takes c.X W) (k : Ends' c σ Γ H R W Dd) : wpB c.X sts Dd σ H := h σ H er W Dd tk k
theorem at_mk {K : PySem.W.Frag} {h : Heap} {mg : Str → Option Value} (X : K.In h) (G : h.Ns mainGlobals mg) {x : Str} {st : Stmt} {f : Addr} {od an : Option Addr} {sl : Array (Option Value)} {oc kV dc pm cd ct : Value}
    (a : PySem.W.nsIn K mainGlobals x = some (some (.ref f))) (l : K.lookup f = some ⟨oc, od, .func (PySem.W.fnOf x x (defArgs st) (defBody st) (defScope st) .none kV dc pm an cd ct), sl⟩) (c : PySem.W.codeIn K cd x = true) (k : PySem.W.keepIn K (.ref f) = true) : At K mg x st := ⟨f, _, fun_mk (st := st) l c k, PySem.W.mg_of X G a⟩
theorem enumD_inv {xs : List D} {i : Nat} {x : D} (h : (enumD xs)[i]? = some x) : ∃ v, xs[i]? = some v ∧ x = .tup [.int (i : Nat), v] := by
  have hi : i < xs.length := by
    have z := (List.getElem?_eq_some_iff.mp h).1
    rw [enumD_length] at z
    exact z
  rw [enumD_at (List.getElem?_eq_getElem hi)] at h
  exact ⟨_, List.getElem?_eq_getElem hi, (Option.some.inj h).symm⟩
/-- an environment of plain data and of nothing -/
theorem er_plain {U : Vol} {M : Ex} {H : Hw} {σ : Sw} {Γ : Ga} (tm : ∀ a, U.T a → M a) (kn : ∀ a, M a → H a ≠ none) (j : U.J H) (len : σ.length = Γ.length) (nm : ∀ (i : Nat) (s : Sl), Γ[i]? = some s → s.mine = false)
    (dat : ∀ (i : Nat) (d : D), Γ[i]? = some (.dat d) → ∃ v, σ[i]? = some (some v) ∧ Rp (Mx M σ Γ) H v d) : ER U M H σ Γ :=
  ⟨tm, kn, j, len, dat, fun i ds h => (by have z := nm i _ h; cases z), fun i ds h => (by have z := nm i _ h; cases z), fun i j s t a h1 _ m1 _ _ _ => by rw [nm i s h1] at m1; cases m1⟩
end U
/-! U21: one's own lists: items taken out, two made at once. -/
namespace U
open PySem PySem.Spec PyProof.Rows L2
theorem RpA.getN {M : Ex} {H : Hw} {vs : List V} {ds : List D} (r : RpA M H vs ds) {k : Nat} {d : D} (h : ds[k]? = some d) : ∃ v, vs[k]? = some v ∧ Rp M H v d := r.at h
section
variable {c : Co} {k : Nat} {Γ : Ga} {R : Oc} {P : D → Ga → Prop} {a b e : Expr} {es : List Expr} {pos p : Pos} {X : Cx}
/-- x.pop(e), x one's own -/
theorem ev_popAt {x name : Str} {apos cpos npos : Pos} (i : Nat) (hN : c.X.N[i]? = some x) (hv : Vis c.X.env.scope x) (hn : name = "pop") {s0 : List D} (hs0 : Γ[i]? = some (.own s0)) (h : Ev c e Γ fun d Γ1 => ∃ ds n kk v, d = .int n ∧ Γ1[i]? = some (.own ds) ∧ (-(2 ^ 60) ≤ n ∧ n < 2 ^ 60) ∧ seqIndex? n ds.length = some kk ∧ ds[kk]? = some v ∧ P v (Γ1.set i (.own (ds.eraseIdx kk))))
    (hdb : (x == ("__debug__" : Str)) = false := by decide) (hcd : (x == ("__classdict__" : Str)) = false := by decide)
    (hfew : ((backTo cpos (starEach [e] c.X.env)).all (fun x => !x.1) && (backToKw cpos (keywordEach [] c.X.env)).all (fun x => x.1.isSome) && decide (([e] : List Expr).length + ([] : List Keyword).length + (if ([] : List Keyword).isEmpty then 0 else 1) < 30)) = true := by rfl)
    (hbase : attributeBase (.Name x npos) "pop" c.X.env (eval (.Name x npos) c.X.env) = eval (.Name x npos) c.X.env := by rfl)
    (hline : (apos.endLine == cpos.line) = true := by rfl) (hst : starEach [e] c.X.env = (false, eval e c.X.env) :: starEach [] c.X.env := by rfl) :
    Ev c (.Call (.Attribute (.Name x npos) name apos) [e] [] cpos) Γ P := fun σ H er Q W tk xw q => by
  subst hn
  obtain ⟨a0, xs0, f1, f2, f3, f4⟩ := er.own i s0 hs0
  refine outE (pe_bm PySem.F.plainAttrs_list PySem.F.slot_list_pop PySem.F.type_list_pop mt_popAt (pe_var hN hv hdb hcd) (pa_cons selfE pa_nil hst) hbase hfew hline hst (by rfl)) ⟨_, f1, .inl ⟨rfl, _, .inl (.inl f2)⟩, ?_⟩
  refine h σ H er _ W tk xw fun v d Γ1 H1 g r ⟨ds, n, kk, y, e1, h1, hb, h2, h3, h4⟩ => ?_
  subst e1
  cases r
  obtain ⟨a1, xs1, q1, q2, q3, q4⟩ := g.er.own i ds h1
  have e1 := q1.symm.trans f1
  cases e1
  obtain ⟨w, hw, rw_⟩ := q4.getN h3
  obtain ⟨r2, s2, sh2⟩ := g.er.mut i h1 rfl q1 (.lst (RpA.erase kk q4))
  have g2 : Go c σ Γ1 H1 (Γ1.set i (.own (ds.eraseIdx kk))) (upd H1 a0 (.lst (xs1.eraseIdx kk))) := ⟨s2, sh2, r2⟩
  exact ⟨_, xs1, n, kk, w, rfl, rfl, q2, by omega, by omega, by rw [q4.length]; exact h2, hw, q w y _ _ (g.trans g2) (Rp.to (g2.goes g.er) _ _ rw_) h4⟩
/-- x, y = list(e), [], both one's own -/
theorem s1_parOwn {x y : Str} {px py pt lp : Pos} {kt k2 : Nat} {pt2 : Pos} (bd : Bd c k) (i j : Nat) (hi : c.X.N[i]? = some x) (hj : c.X.N[j]? = some y) (hij : i ≠ j) (hx : c.X.env.scope.names.lookup x = some .local) (hy : c.X.env.scope.names.lookup y = some .local) (hl : i < Γ.length) (hl2 : j < Γ.length)
    (hm : c.X.mg "list" = none) (hg : Gl c.X "list") (h : EvQ c a Γ fun d Γ1 => ∃ ds, d.items? = some ds ∧ R.nx ((Γ1.set i (.own ds)).set j (.own [])))
    (hw : swappedStores [.Tuple [.Name x px, .Name y py] kt pt] (.Tuple [.Call (.Name "list" p) [a] [] pos, .List [] lp] k2 pt2) c.X.env = pure (some [x, y])) {spos : Pos}
    (hs : swapsWithSole [.Tuple [.Name x px, .Name y py] kt pt] (.Tuple [.Call (.Name "list" p) [a] [] pos, .List [] lp] k2 pt2) spos.line c.X.env = pure false := by rfl)
    (hs1 : starEach [a] c.X.env = (false, eval a c.X.env) :: starEach [] c.X.env := by rfl) (hpl : (backTo pos (starEach [] c.X.env)).any (·.1) = false := by rfl)
    (hs2 : starEach [.Call (.Name "list" p) [a] [] pos, .List [] lp] c.X.env = (false, eval (.Call (.Name "list" p) [a] [] pos) c.X.env) :: starEach [.List [] lp] c.X.env := by rfl) (hs3 : starEach [.List [] lp] c.X.env = (false, eval (.List [] lp) c.X.env) :: starEach [] c.X.env := by rfl) :
    S1 c (.Assign [.Tuple [.Name x px, .Name y py] kt pt] (.Tuple [.Call (.Name "list" p) [a] [] pos, .List [] lp] k2 pt2) spos) Γ R := fun σ H er W Dd tk k => by
  refine outS (ps_par bd.calm bd.nd hi hj hij hx hy (pa_cons (pe_callTy call_list_of hg hm (by decide +kernel) (pa_cons selfE pa_nil hs1) (by decide) (by decide) hs1 hpl) (pa_cons (pe_lst pa_nil) pa_nil hs3) hs2) hw hs) ?_
  refine h σ H er _ W tk k.xw fun v d Γ1 H1 g r ⟨ds, hd, hp⟩ => ?_
  have items : ∃ p ys, v = .ref p ∧ (SqL c.X.K H1 p ys ∨ SqT c.X.K H1 p ys) ∧ RpA (Mx c.M σ Γ1) H1 ys ds := by
    cases d with
    | lst es => cases hd; obtain ⟨a, xs, e1, e2, e3⟩ := r.lst_; exact ⟨a, xs, e1, .inl (sql_of e2), e3⟩
    | tup es => cases hd; obtain ⟨a, xs, e1, e2, _, e3⟩ := r.tup_; exact ⟨a, xs, e1, .inr (sqt_of e2), e3⟩
    | non => cases hd
    | bl _ => cases hd
    | int _ => cases hd
    | str _ => cases hd
    | dic _ => cases hd
    | ad _ => cases hd
  obtain ⟨p0, ys, rfl, hq, ra⟩ := items
  refine ⟨p0, ys, rfl, hq, fun l hl' => ⟨by decide, fun t ht => ?_⟩⟩
  obtain ⟨r1, s1⟩ := g.er.make i (by rw [g.length]; exact hl) hl' (.lst ra)
  obtain ⟨r2, s2⟩ := r1.make j (by rw [List.length_set, g.length]; exact hl2) ht (.lst .nil)
  exact ⟨_, _, rfl, k.nx _ _ _ ((g.st.trans g.er s1).trans r1 s2) r2 hp⟩
end
end U
/-! U22: a tuple once. -/
namespace U
open PySem PySem.Spec PyProof.Rows L2
theorem tuple_mul1 (l : Addr) (items : Array Value) (n : Nat) (dd : Option Addr) (sl : Array (Option Value)) (u : Tok) :
    Meets (Builtin.«tuple.__mul__» ⟨[.ref l, .int 1 u], []⟩) (fun _ R s => s.heap.get? l = some { cls := .type "tuple", dict := dd, data := .seq items n, slots := sl } ∧ R (.ok (.ret (Value.ref l))) s) :=
  .of_wp fun prog w A R s h => by
    obtain ⟨hp, g, d, tk, os⟩ := s
    obtain ⟨hl, h⟩ := h
    have f1 := AutoSeq1.idx_int
    wp_walk using wpAny_loadPart' hl
    exact ⟨_, rfl, h⟩
def rRepT1 : R2 := fun x y H Q => ∃ l xs, x = .ref l ∧ y = .int 1 ∧ TupAt H l xs ∧ Q (.ref l) H
theorem op_repT1 {X : Cx} : OpR X (binaryOp .Mult) rRepT1 := by
  intro pins s σ H x y v u Q I rx ry h
  obtain ⟨l, xs, rfl, rfl, he, q⟩ := h
  cases rx
  obtain ⟨t, rfl⟩ := ry
  obtain ⟨its, r, ⟨o, ho, hc, n, hd⟩, hzx⟩ := I.tuple (sqt_of (K := X.K) he)
  obtain ⟨oc, dd, dt, sl⟩ := o
  simp only at hc hd
  subst hc hd
  refine wpAny_binaryOp_repeat_ref (T := "tuple") (U := "int") (by decide) ⟨_, ho, rfl⟩ (fun s' => typeIs_int s' 1 t) noFill_tuple_mul F.fills_int_mul F.slot_int_rmul repeat_tuple F.slot_int_index.lookup ?_
  refine call_meets F.slot_int_rmul (typeIs_int s 1 t) F.entry_int_rmul (F.args_int_rmul_2 _ _) (int_rmul_tuple 1 t l its.toArray n dd sl) ⟨ho, rfl, ⟨_, ho, rfl⟩, ?_⟩
  exact call_meets F.slot_tuple_mul ⟨_, ho, rfl⟩ F.entry_tuple_mul (F.args_tuple_mul_2 _ _) (tuple_mul1 l its.toArray n dd sl t) ⟨ho, ⟨.ref l, H, I, rfl, q⟩⟩
section
variable {c : Co} {Γ : Ga} {P : D → Ga → Prop} {a b : Expr} {pos : Pos}
theorem rep_one (xs : List D) : (List.replicate (1 : Int).toNat xs).flatten = xs := by simp
/-- t * i, 1 <= i -/
theorem ev_mulT (h : Ev c a Γ fun x Γ1 => EvQ c b Γ1 fun y Γ2 => ∃ xs i, x = .tup xs ∧ y = .int i ∧ xs ≠ [] ∧ 1 ≤ i ∧ xs.length * i.toNat ≤ 1000000 ∧ P (.tup (List.replicate i.toNat xs).flatten) Γ2) : Ev c (.BinOp a .Mult b pos) Γ P :=
  ev_op (op_repTZ.or op_repT1) (ev_mono h fun x _ h => eq_mono h fun y _ ⟨xs, i, e1, e2, h0, h1, h2, hp⟩ => ⟨_, by
    rw [e1, e2]
    intro M H v w hk g1 g2 Q q
    cases g2.int_
    obtain ⟨p, ys, rfl, e, m, r⟩ := g1.tup_
    by_cases hi : i = 1
    · subst hi
      refine .inr ⟨p, ys, rfl, rfl, e, q _ _ (Grow.refl H) ?_⟩
      rw [rep_one]
      exact .tup e m r
    · refine .inl ⟨p, i, ys, rfl, rfl, sqt_of e, fun z => h0 ?_, by omega, by rw [r.length]; exact h2, fun t ob od ht => q _ _ (Grow.new ht) (.tup (tupAt_upd od) (fun z => hk t z ht) (RpA.to (Grow.new ht).goes _ _ (r.rep _)))⟩
      subst z
      cases r
      rfl, hp⟩)
end
end U
/-! U23: sorted(set(t)), t a tuple of ints; how often an int stands in a list. -/
namespace U
open PySem PySem.Spec PyProof.Rows L2
theorem nodup_le : ∀ {l ms : List Int}, l.Nodup → (∀ k ∈ l, k ∈ ms) → l.length ≤ ms.length
  | [], _, _, _ => Nat.zero_le _
  | x :: l, ms, h, hs => by
    have hx := hs x List.mem_cons_self
    have hn := List.nodup_cons.mp h
    have z := nodup_le (l := l) (ms := ms.erase x) hn.2 fun k hk => (List.mem_erase_of_ne fun e => hn.1 (by rw [← e]; exact hk)).mpr (hs k (List.mem_cons_of_mem _ hk))
    rw [List.length_erase_of_mem hx] at z
    have := List.length_pos_of_mem hx
    rw [List.length_cons]
    omega
theorem setR_le {w : World} {h : Heap} {a : Addr} {ns ms : List Int} {c : Nat} (R : SetR w h a (fun j => decide (j ∈ ns)) c) (hs : ∀ k ∈ ns, k ∈ ms) : c ≤ ms.length := by
  obtain ⟨o, es, ep, t, _, _, _, _, nd, mem, _, _, hn, _⟩ := R
  have z := nodup_le nd fun k hk => hs k (of_decide_eq_true ((mem k).mpr hk))
  rw [List.length_map, Array.length_toList] at z
  omega
section
variable {X : Cx}
def rSetI (K : PySem.W.Frag) (w : World) : List V → Hw → VK → Prop := fun vs H Q => ∃ (a : Addr) (ns : List Int), vs = [V.ref a] ∧ SqT K H a (ns.map V.int) ∧ ns.length + 1 < scanBound ∧
  ∀ (p : Addr) (c : Nat), H p = none → (∀ ms : List Int, (∀ k ∈ ns, k ∈ ms) → c ≤ ms.length) → Q (.ref p) (upd H p (SetO w p (fun j => decide (j ∈ ns)) c))
theorem cr_setI (hc : X.calm = true) : CallR X (.type "set") (rSetI X.K X.w) := by
  intro pins s σ H vs us Q I r h
  obtain ⟨a, ns, rfl, hx, hb, q⟩ := h
  rw [Vals.ref1 r]
  obtain ⟨its, rv, ht, hz⟩ := I.tuple hx
  refine call_set_tupI ns (I.ok.hd hc) ht (by simpa using rv.ints) hb fun h' tk c R hle k => ?_
  exact ⟨.ref s.heap.objs.size, _, I.laid (t' := tk) k (Nat.le_refl _) (setO_new R), rfl, q _ c (I.hok.fresh (Nat.le_refl _)) fun ms hs => setR_le R hs⟩
end
section
variable {c : Co} {k : Nat} {Γ : Ga} {P : D → Ga → Prop} {a e o : Expr} {pos p p2 q2 : Pos}
/-- sorted(set(t)), fewer than 64 of them -/
theorem ev_sortedSet (bd : Bd c k) (hm : c.X.mg "sorted" = none) (hm2 : c.X.mg "set" = none) (h : Ev c a Γ fun d Γ1 => ∃ ns : List Int, d = .tup (ns.map D.int) ∧ ns.length + 1 < scanBound ∧ (∃ ms : List Int, ms.length < 64 ∧ ∀ k ∈ ns, k ∈ ms) ∧ ∀ ms : List Int, ms.Pairwise (· < ·) → (∀ k, k ∈ ms ↔ k ∈ ns) → P (.lst (ms.map D.int)) Γ1)
    (hg : Gl c.X "sorted") (hg2 : Gl c.X "set") (hs : starEach [a] c.X.env = (false, eval a c.X.env) :: starEach [] c.X.env := by rfl) (hs2 : starEach [.Call (.Name "set" p2) [a] [] q2] c.X.env = (false, eval (.Call (.Name "set" p2) [a] [] q2) c.X.env) :: starEach [] c.X.env := by rfl)
    (hpl : (backTo q2 (starEach [] c.X.env)).any (·.1) = false := by rfl) (hpl2 : (backTo pos (starEach [] c.X.env)).any (·.1) = false := by rfl) : Ev c (.Call (.Name "sorted" p) [.Call (.Name "set" p2) [a] [] q2] [] pos) Γ P := fun σ H er Q W tk xw q => by
  refine outE (pe_callB (cr_sortedSet bd.calm) hg hm (by decide +kernel) (pa_cons (pe_callTy (cr_setI bd.calm) hg2 hm2 (by decide +kernel) (pa_cons selfE pa_nil hs) (by decide) (by decide) hs hpl) pa_nil hs2) (by decide) (by decide) hs2 hpl2) ?_
  refine h σ H er _ W tk xw fun v d Γ1 H1 g r ⟨ns, e, hb, ⟨ms0, hl0, hs0⟩, hp⟩ => ?_
  subst e
  cases r with
  | tup h1 h2 h3 =>
    rw [h3.ints_] at h1
    refine ⟨_, ns, rfl, sqt_of h1, hb, fun p' cc hp' hc => ?_⟩
    refine ⟨p', _, cc, rfl, upd_same, Nat.lt_of_le_of_lt (hc ms0 hs0) hl0, fun ms t hpw hmem hlen ht => ?_⟩
    have G := (g.grow (Grow.new (o := SetO c.X.w p' (fun j => decide (j ∈ ns)) cc) hp')).grow (Grow.new (o := .lst (ms.map V.int)) ht)
    exact q _ _ Γ1 _ G (.lst upd_same (fun z => (g.grow (Grow.new hp')).er.mx t z ht) (RpA.ints _)) (hp ms hpw fun k => (hmem k).trans (by simp))
end
end U
/-! U24: count; sorted pairs of ints. -/
namespace U
open PySem PySem.Spec PyProof.Rows L2
theorem RpA.perm {M : Ex} {H : Hw} {ws vs : List V} (h : ws.Perm vs) : ∀ {ds : List D}, RpA M H vs ds → ∃ es, es.Perm ds ∧ RpA M H ws es := by
  induction h with
  | nil => intro ds r; exact ⟨ds, .refl _, r⟩
  | cons x _ ih =>
    intro ds r
    cases r with
    | cons a b =>
      obtain ⟨es, p, q⟩ := ih b
      exact ⟨_, p.cons _, .cons a q⟩
  | swap x y l =>
    intro ds r
    cases r with
    | cons a b =>
      cases b with
      | cons b c => exact ⟨_, .swap _ _ _, .cons b (.cons a c)⟩
  | trans _ _ i1 i2 =>
    intro ds r
    obtain ⟨es, p, q⟩ := i2 r
    obtain ⟨fs, p2, q2⟩ := i1 q
    exact ⟨fs, p2.trans p, q2⟩
theorem RpA.memv {M : Ex} {H : Hw} : ∀ {vs : List V} {ds : List D}, RpA M H vs ds → ∀ v ∈ vs, ∃ d ∈ ds, Rp M H v d
  | _ :: _, _ :: _, .cons a b, v, h => by
    rcases List.mem_cons.mp h with e | e
    · rw [e]; exact ⟨_, List.mem_cons_self, a⟩
    · obtain ⟨d, hd, r⟩ := RpA.memv b v e
      exact ⟨d, List.mem_cons_of_mem _ hd, r⟩
def rSortedPZ (K : PySem.W.Frag) : List V → Hw → VK → Prop := fun vs H Q => ∃ a xs, vs = [V.ref a] ∧ SqL K H a xs ∧ (∀ x ∈ xs, ∃ t i j, x = V.ref t ∧ SqT K H t [.int i, .int j]) ∧ ∀ ys p, ys.Perm xs → H p = none → Q (.ref p) (upd H p (.lst ys))
theorem cr_sortedPZ {X : Cx} : CallR X (.builtin "sorted") (rSortedPZ X.K) := by
  intro pins s σ H vs us Q I r h
  obtain ⟨a, xs, rfl, hs, hx, q⟩ := h
  obtain ⟨its, rv, hl, hz⟩ := I.list hs
  obtain ⟨u, rfl, ru⟩ := vals1 r
  obtain rfl : u = Value.ref a := ru
  obtain ⟨e1, e2⟩ := refs_back rv fun x m => (hx x m).elim fun t h => h.elim fun _ h => h.elim fun _ h => ⟨t, h.1⟩
  refine Srt.sorted_pairs hl.isList (by rw [← rv.length]; exact hz) (fun v hv => ?_) fun h' d out hp k hd ⟨n, hn⟩ => ?_
  · obtain ⟨t, rfl⟩ := e2 v hv
    obtain ⟨t', i, j, e, ht⟩ := hx (V.ref t) (by rw [e1]; exact List.mem_map.mpr ⟨_, hv, rfl⟩)
    cases e
    obtain ⟨its2, r2, ⟨o, ho, hc, n, hd⟩, _⟩ := I.tuple ht
    obtain ⟨u1, u2, rfl, ⟨t1, rfl⟩, ⟨t2, rfl⟩⟩ := vals2 r2
    exact ⟨i, j, t, o, t1, t2, n, rfl, ho, hc, hd⟩
  · have L := I.laid (t' := s.toks) (o := .lst (out.map backV)) k hd ⟨by rw [List.length_map, hp.length_eq, ← rv.length]; exact hz, out, n, vals_back fun u hu => e2 u (hp.mem_iff.mp hu), hn⟩
    exact ⟨.ref d, _, L, rfl, q _ d (by rw [e1]; exact hp.map backV) (I.hok.fresh hd)⟩
section
variable {c : Co} {k : Nat} {Γ : Ga} {P : D → Ga → Prop} {a e o : Expr} {pos p : Pos}
theorem ev_sortedP (hm : c.X.mg "sorted" = none) (h : EvQ c a Γ fun d Γ1 => ∃ ds : List D, d = .lst ds ∧ (∀ x ∈ ds, ∃ i j, x = .tup [.int i, .int j]) ∧ ∀ es : List D, es.Perm ds → P (.lst es) Γ1) (hg : Gl c.X "sorted") (hs : starEach [a] c.X.env = (false, eval a c.X.env) :: starEach [] c.X.env := by rfl) (hpl : (backTo pos (starEach [] c.X.env)).any (·.1) = false := by rfl) : Ev c (.Call (.Name "sorted" p) [a] [] pos) Γ P := fun σ H er Q W tk xw q => by
  refine outE (pe_callB cr_sortedPZ hg hm (by decide +kernel) (pa_cons selfE pa_nil hs) (by decide) (by decide) hs hpl) ?_
  refine h σ H er _ W tk xw fun v d Γ1 H1 g r ⟨ds, e, hd, hp⟩ => ?_
  subst e
  obtain ⟨l, vs, rfl, e1, r1⟩ := r.lst_
  refine ⟨l, vs, rfl, sql_of e1, fun x hx => ?_, fun ys t hy ht => ?_⟩
  · obtain ⟨d, hd', rd⟩ := r1.memv x hx
    obtain ⟨i, j, rfl⟩ := hd d hd'
    cases rd with
    | tup h1 h2 h3 =>
      cases h3 with
      | cons a b =>
        cases b with
        | cons b c =>
          cases c
          cases a
          cases b
          exact ⟨_, i, j, rfl, sqt_of h1⟩
  · obtain ⟨es, hpm, re⟩ := r1.perm hy
    exact q _ _ Γ1 _ (g.grow (Grow.new ht)) (.lst upd_same (fun z => g.er.mx t z ht) (RpA.to (Grow.new ht).goes _ _ re)) (hp es hpm)
/-- l.count(i), l a list of ints -/
theorem ev_lcount {name : Str} {apos cpos : Pos} (hn : name = "count") (h : Ev c o Γ fun x Γ1 => ∃ ns : List Int, x = .lst (ns.map D.int) ∧ Ev c e Γ1 fun d Γ2 => ∃ i : Int, d = .int i ∧ P (.int (ns.count i : Nat)) Γ2)
    (hfew : ((backTo cpos (starEach [e] c.X.env)).all (fun x => !x.1) && (backToKw cpos (keywordEach [] c.X.env)).all (fun x => x.1.isSome) && decide (([e] : List Expr).length + ([] : List Keyword).length + (if ([] : List Keyword).isEmpty then 0 else 1) < 30)) = true := by rfl)
    (hbase : attributeBase o "count" c.X.env (eval o c.X.env) = eval o c.X.env := by rfl) (hline : (apos.endLine == cpos.line) = true := by rfl) (hst : starEach [e] c.X.env = (false, eval e c.X.env) :: starEach [] c.X.env := by rfl) :
    Ev c (.Call (.Attribute o name apos) [e] [] cpos) Γ P := fun σ H er Q W tk xw q => by
  subst hn
  refine outE (pe_bm PySem.F.plainAttrs_list PySem.F.slot_list_count PySem.F.type_list_count mt_lcount selfE (pa_cons selfE pa_nil hst) hbase hfew hline hst (by rfl)) ?_
  refine h σ H er _ W tk xw fun v x Γ1 H1 g1 r1 ⟨ns, e1, h2⟩ => ?_
  subst e1
  cases r1 with
  | lst q1 q2 q3 =>
    refine ⟨.inl ⟨rfl, _, sql_of q1⟩, ?_⟩
    refine h2 σ H1 g1.er _ W tk (xw.on g1.er g1.st) fun w d Γ2 H2 g2 r2 ⟨i, e2, hp⟩ => ?_
    subst e2
    cases r2
    have z := Rp.to (g2.goes g1.er) _ _ (Rp.lst q1 q2 q3)
    cases z with
    | lst z1 z2 z3 =>
      rw [z3.ints_] at z1
      exact ⟨_, ns, i, rfl, rfl, sql_of z1, q _ _ Γ2 H2 (g1.trans g2) (.int _) hp⟩
end
end U
/-! U25: set(l), sorted(set(l)), l a list of ints. -/
namespace L2
open PySem PyProof.Rows
section
variable {P : Program} {w : World} {A : Around} {E : Value → Shared → Prop} {s : Shared}
theorem u_set_list {l : Addr} {items : Array Value} (ns : List Int) {Q : Value → Shared → Prop} (nh : A.handled = none) (il : s.heap.IsList l items) (ii : IntsAre items.toList ns) (few : ns.length + 1 < scanBound)
    (q : ∀ (g : Heap) (tk c : Nat), SetR w g s.heap.objs.size (fun j => decide (j ∈ ns)) c → (∀ b o, s.heap.get? b = some o → g.get? b = some o) → Q (.ref s.heap.objs.size) { s with heap := g, toks := tk }) :
    wpAny (model P w) A (call (.type "set") [.ref l]) Q E s := by
  have size : items.size = ns.length := by
    have z := IntsAre.length ii
    rwa [Array.length_toList] at z
  obtain ⟨c, tl, hmro⟩ := F.called_set.mro
  have hmade := F.called_set.made
  have hsub := F.called_set.sub
  refine wpAny_call (codeAny_of_tree ?_)
  show wpAny _ _ (callAny (.type "set") _) _ _ _
  refine wpAny_pure ⟨Code.quiet_builtin _ (by decide +kernel), codeAny_builtin F.entry_type_call ?_⟩
  rw [Around.under_plain (weight_type_call_type "set" [.ref l] []) rfl]
  have h1 := F.called_set.notType
  have h2 := F.called_set.canCreate
  have hct := F.typeCall_set_1 (.ref l)
  repeat (any_goals (first | assumption | wp_step))
  refine codeAny_mono (code_set_led1 (.ref l) (E := E) (Q₁ := fun y t => y = .ref s.heap.objs.size ∧ t = { s with heap := s.heap.push { cls := .type "set", dict := none, data := .set #[] 0 (.fresh 0 0 (!w.params.followText "set-order")) } }) ⟨rfl, rfl⟩) fun r t hr => ?_
  cases r with
  | error e => exact hr
  | ok fl =>
    cases fl with
    | ret y =>
      obtain ⟨rfl, rfl⟩ := hr
      have new : (s.heap.push { cls := .type "set", dict := none, data := .set #[] 0 (.fresh 0 0 (!w.params.followText "set-order")) }).get? s.heap.objs.size = some { cls := .type "set", dict := none, data := .set #[] 0 (.fresh 0 0 (!w.params.followText "set-order")) } := Heap.get?_push_size _ rfl
      have ty : Shared.TypeIs { s with heap := s.heap.push { cls := .type "set", dict := none, data := .set #[] 0 (.fresh 0 0 (!w.params.followText "set-order")) } } (.ref s.heap.objs.size) "set" := ⟨_, new, rfl⟩
      have hli := F.called_set.init.lookup
      have hbi := F.called_set.init.bind (.ref s.heap.objs.size)
      repeat (any_goals (first | assumption | wp_step))
      refine codeAny_mono (codeAny_call_builtin (R := wants (fun r t => r = .none ∧ ∃ g tk c, t = { s with heap := g, toks := tk } ∧ SetR w g s.heap.objs.size (fun j => decide (j ∈ ns)) c ∧ (∀ b o, s.heap.get? b = some o → g.get? b = some o)) E) F.called_set.init.plain F.entry_set_init (check_set_init_1 ty ?_)) fun r t hr => ?_
      · obtain ⟨⟨ocls, odict, odata, oslots⟩, hol, hcl, nl, hdl⟩ := il
        simp only at hcl hdl
        subst hcl hdl
        have hol' : (s.heap.push { cls := .type "set", dict := none, data := .set #[] 0 (.fresh 0 0 (!w.params.followText "set-order")) }).get? l = some { cls := .type "list", dict := odict, data := .seq items nl, slots := oslots } := Heap.get?_push_of_some _ hol
        have hsls := PySem.F.sub_list_set
        have hslf := PySem.F.sub_list_frozenset
        have hne : (Value.type "list" == Value.type "dict") = false := by decide
        have hl1 : (s.heap.push { cls := .type "set", dict := none, data := .set #[] 0 (.fresh 0 0 (!w.params.followText "set-order")) }).IsList l items := ⟨_, hol', rfl, nl, rfl⟩
        unfold Builtin.«set.__init__» noKeywords Builtin.Frozenset.updateFrom
        generalize hPI : pyIter = PI
        wp_walk
        subst hPI
        refine wpAny_pyIter_list hl1 (wpAny_bind (wpAny_runValue ?_))
        have lt : l < s.heap.objs.size := Heap.lt_size hol
        have nh3 : A.in1.in1.in1.handled = none := by simp [nh]
        have sz : (s.heap.push { cls := .type "set", dict := none, data := .set #[] 0 (.fresh 0 0 (!w.params.followText "set-order")) }).objs.size = s.heap.objs.size + 1 := Heap.size_push ..
        have nI : l ≠ (s.heap.push { cls := .type "set", dict := none, data := .set #[] 0 (.fresh 0 0 (!w.params.followText "set-order")) }).objs.size := by rw [sz]; exact Nat.ne_of_lt (Nat.lt_succ_of_lt lt)
        have off : s.heap.objs.size ∉ [(s.heap.push { cls := .type "set", dict := none, data := .set #[] 0 (.fresh 0 0 (!w.params.followText "set-order")) }).objs.size, l] := by
          rw [sz]
          simp only [List.mem_cons, List.not_mem_nil, or_false, not_or]
          exact ⟨Nat.ne_of_lt (Nat.lt_succ_self _), Nat.ne_of_gt lt⟩
        have vals : ∀ (i : Nat) (v : Value), items[i]? = some v → ∃ k t, ns[i]? = some k ∧ v = .int k t := fun i v hv => by
          have hi : i < ns.length := by rw [← size]; exact (Array.getElem?_eq_some_iff.mp hv).1
          obtain ⟨t, e⟩ := PyProof.Rows.IntsAre.int_at ii i v (by rw [Array.getElem?_toList]; exact hv)
          exact ⟨ns[i], t, List.getElem?_eq_getElem hi, by rw [e, List.getD_eq_getElem?_getD, List.getElem?_eq_getElem hi] <;> rfl⟩
        refine set_update_ints ((Walks.list nh3 _ l nI items).toS) s.heap.objs.size off ns size few vals (items.size - 0) 0 _ (by omega) (Nat.zero_le _) ⟨⟨_, Heap.get?_push_size _ rfl, rfl, rfl⟩, (hl1.push _)⟩ ⟨0, Nat.le_refl 0, setR_new_at (Heap.get?_push_of_some _ new)⟩ ?_
        intro t c' mv hc' hS'
        obtain ⟨g, g2, d', tk', os'⟩ := t
        have eg : g2 = s.gens := mv.gens
        have ed : d' = s.drawn := mv.drawn
        have eo : os' = s.os := mv.os
        subst eg ed eo
        show wpAny _ _ _ _ _ _
        refine wpAny_pure ?_
        show wpAny _ _ (ret Value.none) _ _ _
        refine wpAny_pure ⟨rfl, g, tk', c', rfl, hS', fun b o e => ?_⟩
        have b0 : b < s.heap.objs.size := Heap.lt_size e
        refine mv.heap b o ?_ (Heap.get?_push_of_some _ (Heap.get?_push_of_some _ e))
        rw [sz]
        simp only [List.mem_cons, List.not_mem_nil, or_false, not_or]
        exact ⟨Nat.ne_of_lt b0, Nat.ne_of_lt (Nat.lt_succ_of_lt b0)⟩
      · cases r with
        | error e => exact hr
        | ok fl =>
          cases fl with
          | ret r =>
            obtain ⟨rfl, g, tk, c, rfl, hS', hk'⟩ := hr
            repeat (any_goals (first | assumption | wp_step))
            exact q _ _ _ hS' hk'
          | _ => exact hr.elim
    | _ => exact hr.elim
end
end L2
namespace U
open PySem PySem.Spec PyProof.Rows L2
section
variable {X : Cx}
def rSetL (K : PySem.W.Frag) (w : World) : List V → Hw → VK → Prop := fun vs H Q => ∃ (a : Addr) (ns : List Int), vs = [V.ref a] ∧ SqL K H a (ns.map V.int) ∧ ns.length + 1 < scanBound ∧
  ∀ (p : Addr) (c : Nat), H p = none → (∀ ms : List Int, (∀ k ∈ ns, k ∈ ms) → c ≤ ms.length) → Q (.ref p) (upd H p (SetO w p (fun j => decide (j ∈ ns)) c))
theorem cr_setL (hc : X.calm = true) : CallR X (.type "set") (rSetL X.K X.w) := by
  intro pins s σ H vs us Q I r h
  obtain ⟨a, ns, rfl, hx, hb, q⟩ := h
  rw [Vals.ref1 r]
  obtain ⟨its, rv, ht, hz⟩ := I.list hx
  refine u_set_list ns (I.ok.hd hc) ht.isList (by simpa using rv.ints) hb fun h' tk c R k => ?_
  exact ⟨.ref s.heap.objs.size, _, I.laid (t' := tk) k (Nat.le_refl _) (setO_new R), rfl, q _ c (I.hok.fresh (Nat.le_refl _)) fun ms hs => setR_le R hs⟩
end
section
variable {c : Co} {k : Nat} {Γ : Ga} {P : D → Ga → Prop} {a : Expr} {pos p p2 q2 : Pos}
/-- sorted(set(l)), fewer than 64 of them -/
theorem ev_sortedSetL (bd : Bd c k) (hm : c.X.mg "sorted" = none) (hm2 : c.X.mg "set" = none) (h : EvQ c a Γ fun d Γ1 => ∃ ns : List Int, d = .lst (ns.map D.int) ∧ ns.length + 1 < scanBound ∧ (∃ ms : List Int, ms.length < 64 ∧ ∀ k ∈ ns, k ∈ ms) ∧ ∀ ms : List Int, ms.Pairwise (· < ·) → (∀ k, k ∈ ms ↔ k ∈ ns) → P (.lst (ms.map D.int)) Γ1)
    (hg : Gl c.X "sorted") (hg2 : Gl c.X "set") (hs : starEach [a] c.X.env = (false, eval a c.X.env) :: starEach [] c.X.env := by rfl) (hs2 : starEach [.Call (.Name "set" p2) [a] [] q2] c.X.env = (false, eval (.Call (.Name "set" p2) [a] [] q2) c.X.env) :: starEach [] c.X.env := by rfl)
    (hpl : (backTo q2 (starEach [] c.X.env)).any (·.1) = false := by rfl) (hpl2 : (backTo pos (starEach [] c.X.env)).any (·.1) = false := by rfl) : Ev c (.Call (.Name "sorted" p) [.Call (.Name "set" p2) [a] [] q2] [] pos) Γ P := fun σ H er Q W tk xw q => by
  refine outE (pe_callB (cr_sortedSet bd.calm) hg hm (by decide +kernel) (pa_cons (pe_callTy (cr_setL bd.calm) hg2 hm2 (by decide +kernel) (pa_cons selfE pa_nil hs) (by decide) (by decide) hs hpl) pa_nil hs2) (by decide) (by decide) hs2 hpl2) ?_
  refine h σ H er _ W tk xw fun v d Γ1 H1 g r ⟨ns, e, hb, ⟨ms0, hl0, hs0⟩, hp⟩ => ?_
  subst e
  obtain ⟨l, vs, rfl, h1, h3⟩ := r.lst_
  rw [h3.ints_] at h1
  refine ⟨l, ns, rfl, sql_of h1, hb, fun p' cc hp' hc => ?_⟩
  refine ⟨p', _, cc, rfl, upd_same, Nat.lt_of_le_of_lt (hc ms0 hs0) hl0, fun ms t hpw hmem hlen ht => ?_⟩
  have G := (g.grow (Grow.new (o := SetO c.X.w p' (fun j => decide (j ∈ ns)) cc) hp')).grow (Grow.new (o := .lst (ms.map V.int)) ht)
  exact q _ _ Γ1 _ G (.lst upd_same (fun z => (g.grow (Grow.new hp')).er.mx t z ht) (RpA.ints _)) (hp ms hpw fun k => (hmem k).trans (by simp))
end
end U
/-! U26: one's own list becomes data. -/
namespace U
open PySem PySem.Spec PyProof.Rows L2
section
variable {c : Co} {k : Nat} {Γ : Ga} {R : Oc} {P : D → Ga → Prop} {a b e : Expr} {es : List Expr} {pos p : Pos} {sts : List Stmt}
theorem sv_freeze {ds : List D} (i : Nat) (hi : Γ[i]? = some (.own ds)) (h : Sv c sts (Γ.set i (.dat (.lst ds))) R) : Sv c sts Γ R := fun σ H er W Dd tk k => by
  obtain ⟨r, s⟩ := er.freeze i hi
  exact h σ H r W Dd tk (k.on r s)
end
end U
/-! W1: readings: each piece of the text has a transformer over data. -/
namespace U
open PySem PySem.Spec PyProof.Rows L2
abbrev WE := Ga → (D → Ga → Prop) → Prop
abbrev WT := Ga → (Bool → Ga → Prop) → Prop
abbrev WL := Ga → (List D → Ga → Prop) → Prop
abbrev WS := Ga → Oc → Prop
abbrev WG := Ga → D → (Ga → Prop) → Prop
abbrev WO := Ga → (Option Int → Ga → Prop) → Prop
abbrev O2 := D → D → (D → Prop) → Prop
abbrev O1 := D → (D → Prop) → Prop
abbrev OC := D → D → (Bool → Prop) → Prop
structure SE (c : Co) (e : Expr) (w : WE) : Prop where
  run : ∀ {Γ : Ga} {P : D → Ga → Prop}, w Γ P → Ev c e Γ P
structure SQ (c : Co) (e : Expr) (w : WE) : Prop where
  run : ∀ {Γ : Ga} {P : D → Ga → Prop}, w Γ P → EvQ c e Γ P
structure ST (c : Co) (e : Expr) (w : WT) : Prop where
  run : ∀ {Γ : Ga} {P : Bool → Ga → Prop}, w Γ P → Tv c e Γ P
structure SW (c : Co) (e : Expr) (w : WT) : Prop where
  run : ∀ {Γ : Ga} {P : Bool → Ga → Prop}, w Γ P → Wv c e Γ P
structure SA (c : Co) (es : List Expr) (w : WL) : Prop where
  run : ∀ {Γ : Ga} {P : List D → Ga → Prop}, w Γ P → Av c es Γ P
structure SK (c : Co) (es : List Keyword) (w : WL) : Prop where
  run : ∀ {Γ : Ga} {P : List D → Ga → Prop}, w Γ P → Kv c es Γ P
structure SI (c : Co) (tg iter : Expr) (w : WL) : Prop where
  run : ∀ {Γ : Ga} {P : List D → Ga → Prop}, w Γ P → Iv c tg iter Γ P
structure SG (c : Co) (tg : Expr) (w : WG) : Prop where
  run : ∀ {Γ : Ga} {d : D} {P : Ga → Prop}, w Γ d P → Gv c tg Γ d P
structure SH (c : Co) (vs : List Nat) (tg : Expr) (w : WG) : Prop where
  run : ∀ {Γ : Ga} {d : D} {P : Ga → Prop}, w Γ d P → Gw c vs tg Γ d P
structure SO (c : Co) (e : Option Expr) (w : WO) : Prop where
  run : ∀ {Γ : Ga} {P : Option Int → Ga → Prop}, w Γ P → Ov c e Γ P
structure SS (c : Co) (st : Stmt) (w : WS) : Prop where
  run : ∀ {Γ : Ga} {R : Oc}, w Γ R → S1 c st Γ R
structure SB (c : Co) (sts : List Stmt) (w : WS) : Prop where
  run : ∀ {Γ : Ga} {R : Oc}, w Γ R → Sv c sts Γ R
/-! ### the transformers -/
def wVar (i : Nat) : WE := fun Γ P => match Γ[i]? with
  | some (.dat d) => P d Γ
  | _ => False
def wVarQ (i : Nat) : WE := fun Γ P => match Γ[i]? with
  | some (.dat d) => P d Γ
  | some (.own ds) => P (.lst ds) Γ
  | some (.ownD ks) => P (.dic ks) Γ
  | _ => False
def wC (d : D) : WE := fun Γ P => P d Γ
def wOp (o : O2) (a b : WE) : WE := fun Γ P => a Γ fun x Γ1 => b Γ1 fun y Γ2 => o x y fun z => P z Γ2
def wOp1 (o : O1) (a : WE) : WE := fun Γ P => a Γ fun x Γ1 => o x fun z => P z Γ1
def wCmp (o : OC) (a b : WE) : WE := fun Γ P => a Γ fun x Γ1 => b Γ1 fun y Γ2 => o x y fun q => P (.bl q) Γ2
def wtCmp (o : OC) (a b : WE) : WT := fun Γ T => a Γ fun x Γ1 => b Γ1 fun y Γ2 => o x y fun q => T q Γ2
def wtCmpO (o : OC) (i : Nat) (b : WE) : WT := fun Γ T => match Γ[i]? with
  | some (.own ds) => b Γ fun y Γ2 => Γ2[i]? = some (.own ds) ∧ o (.lst ds) y fun q => T q Γ2
  | some (.dat d) => b Γ fun y Γ2 => o d y fun q => T q Γ2
  | _ => False
def wChain (o o' : OC) (a b e : WE) : WE := fun Γ P => a Γ fun x Γ1 => b Γ1 fun y Γ2 => o x y fun q => (q = false → P (.bl false) Γ2) ∧ (q = true → e Γ2 fun z Γ3 => o' y z fun r => P (.bl r) Γ3)
def wtChain (o o' : OC) (a b e : WE) : WT := fun Γ T => a Γ fun x Γ1 => b Γ1 fun y Γ2 => o x y fun q => (q = false → T false Γ2) ∧ (q = true → e Γ2 fun z Γ3 => o' y z fun r => T r Γ3)
def oBool : D → (Bool → Prop) → Prop
  | .bl q, P => P q
  | _, _ => False
def oInt : D → (Int → Prop) → Prop
  | .int i, P => P i
  | _, _ => False
def wtVal (a : WE) : WT := fun Γ T => a Γ fun d Γ1 => oBool d fun q => T q Γ1
def wtNot (t : WT) : WT := fun Γ T => t Γ fun q Γ1 => T (!q) Γ1
def wtAnd (t u : WT) : WT := fun Γ T => t Γ fun q Γ1 => (q = true → u Γ1 T) ∧ (q = false → T false Γ1)
def wtOr (t u : WT) : WT := fun Γ T => t Γ fun q Γ1 => (q = false → u Γ1 T) ∧ (q = true → T true Γ1)
def wAnd (a b : WE) : WE := fun Γ P => a Γ fun d Γ1 => oBool d fun q => (q = true → b Γ1 P) ∧ (q = false → P (.bl false) Γ1)
def wOr (a b : WE) : WE := fun Γ P => a Γ fun d Γ1 => oBool d fun q => (q = false → b Γ1 P) ∧ (q = true → P (.bl true) Γ1)
def wNot (a : WE) : WE := fun Γ P => a Γ fun d Γ1 => oBool d fun q => P (.bl (!q)) Γ1
def wIfE (t : WT) (a b : WE) : WE := fun Γ P => t Γ fun q Γ1 => (q = true → a Γ1 P) ∧ (q = false → b Γ1 P)
def waNil : WL := fun Γ P => P [] Γ
def waCons (a : WE) (b : WL) : WL := fun Γ P => a Γ fun x Γ1 => b Γ1 fun xs Γ2 => P (x :: xs) Γ2
def wTup (a : WL) : WE := fun Γ P => a Γ fun ds Γ1 => ds.length ≤ 16777216 ∧ P (.tup ds) Γ1
def wLst (a : WL) : WE := fun Γ P => a Γ fun ds Γ1 => ds.length ≤ 16777216 ∧ P (.lst ds) Γ1
def woNone : WO := fun Γ P => P none Γ
def woSome (a : WE) : WO := fun Γ P => a Γ fun d Γ1 => oInt d fun i => P (some i) Γ1
def oCut (lo hi : Option Int) : D → (D → Prop) → Prop
  | .lst ds, P => P (.lst (cut ds lo hi))
  | .tup ds, P => P (.tup (cut ds lo hi))
  | .str z, P => z.length ≤ 16777216 ∧ P (.str (cutS z lo hi))
  | _, _ => False
def wSlice (a : WE) (lo hi : WO) : WE := fun Γ P => a Γ fun x Γ1 => lo Γ1 fun l Γ2 => hi Γ2 fun u Γ3 => oCut l u x fun z => P z Γ3
def oRevT : O1
  | .tup ds, P => P (.tup ds.reverse)
  | _, _ => False
def oRevL : O1
  | .lst ds, P => P (.lst ds.reverse)
  | _, _ => False
def oItems : D → (List D → Prop) → Prop
  | .lst ds, P => P ds
  | .tup ds, P => P ds
  | _, _ => False
def wCall (n : Nat) (S : Fs) (E : Addr → Option (Str × D) → Ga → Prop) (a : WL) : WE := fun Γ P => a Γ fun ds Γ1 => ds.length = n ∧ S ds (fun d => P d Γ1) fun C fo => E C fo Γ1
/-! ### operations -/
def oAdd : O2
  | .int i, .int j, P => P (.int (i + j))
  | .lst xs, .lst ys, P => xs.length + ys.length ≤ 16777216 ∧ P (.lst (xs ++ ys))
  | .tup xs, .tup ys, P => xs.length + ys.length ≤ 16777216 ∧ P (.tup (xs ++ ys))
  | .str x, .str y, P => x.length + y.length ≤ 16777216 ∧ P (.str (x ++ y))
  | _, _, _ => False
def oSub : O2
  | .int i, .int j, P => P (.int (i - j))
  | _, _, _ => False
def oMul : O2
  | .int i, .int j, P => CMul i j ∧ P (.int (i * j))
  | .lst xs, .int i, P => -(2 ^ 60) ≤ i ∧ i < 2 ^ 60 ∧ xs.length * i.toNat ≤ 16777216 ∧ P (.lst (List.replicate i.toNat xs).flatten)
  | .tup xs, .int i, P => xs ≠ [] ∧ 1 ≤ i ∧ xs.length * i.toNat ≤ 1000000 ∧ P (.tup (List.replicate i.toNat xs).flatten)
  | _, _, _ => False
def oMod : O2
  | .int i, .int j, P => 0 < j ∧ P (.int (i % j))
  | _, _, _ => False
def oDiv : O2
  | .int i, .int j, P => 0 < j ∧ j < 1073741824 ∧ P (.int (i / j))
  | _, _, _ => False
def oDivW : O2
  | .int i, .int j, P => 0 < j ∧ j.natAbs.log2 < 9000 ∧ P (.int (i / j))
  | _, _, _ => False
def oPow : O2
  | .int i, .int j, P => 0 ≤ j ∧ j ≤ 1000000 ∧ i.natAbs < 2 ^ 64 ∧ P (.int (i ^ j.toNat))
  | _, _, _ => False
def oNeg : O1
  | .int i, P => P (.int (-i))
  | _, _ => False
def oIx : O2
  | .lst xs, .int i, P => ∃ z, L2.atI xs i = some z ∧ P z
  | .tup xs, .int i, P => ∃ z, L2.atI xs i = some z ∧ P z
  | .str s, .int i, P => s.length ≤ 16777216 ∧ ∃ k, L2.atI s.cps.toList i = some k ∧ P (.str ⟨#[k]⟩)
  | _, _, _ => False
def oLt : OC
  | .int i, .int j, P => P (decide (i < j))
  | _, _, _ => False
def oLe : OC
  | .int i, .int j, P => P (decide (i ≤ j))
  | _, _, _ => False
def oGt : OC
  | .int i, .int j, P => P (decide (j < i))
  | _, _, _ => False
def oGe : OC
  | .int i, .int j, P => P (decide (j ≤ i))
  | _, _, _ => False
def oEq : OC
  | .int i, .int j, P => P (decide (i = j))
  | .str i, .str j, P => P (decide (i = j))
  | x, y, P => (∃ v w, x.sc = some v ∧ y.sc = some w ∧ scal v w = true ∧ P (decide (v = w))) ∨ (Eqk x ∧ Eqk y ∧ P (PyData.eqv (toPy x) (toPy y)))
def oNe : OC
  | .int i, .int j, P => P (!decide (i = j))
  | .str i, .str j, P => P (!decide (i = j))
  | x, y, P => (∃ v w, x.sc = some v ∧ y.sc = some w ∧ scal v w = true ∧ P (!decide (v = w))) ∨ (Eqk x ∧ Eqk y ∧ P (!PyData.eqv (toPy x) (toPy y)))
def oIs : OC
  | x, .non, P => P x.isNon
  | _, _, _ => False
def oIsNot : OC
  | x, .non, P => P (!x.isNon)
  | _, _, _ => False
def oIn : OC
  | .int i, y, P => ∃ ns, y.seqI ns ∧ P (decide (i ∈ ns))
  | _, _, _ => False
def oNotIn : OC
  | .int i, y, P => ∃ ns, y.seqI ns ∧ P (!decide (i ∈ ns))
  | _, _, _ => False
theorem oAdd_of {x y : D} {P : D → Prop} (h : oAdd x y P) : ∃ z, AddD x y z ∧ P z := by
  unfold oAdd at h
  split at h
  · exact ⟨_, .int, h⟩
  · exact ⟨_, .lst h.1, h.2⟩
  · exact ⟨_, .tup h.1, h.2⟩
  · exact ⟨_, .str h.1, h.2⟩
  · exact h.elim
/-- an operator's transformer -/
structure OpOk (c : Co) (op : Operator) (o : O2) : Prop where
  run : ∀ {a b : Expr} {Γ : Ga} {P : D → Ga → Prop} {pos : Pos}, (Ev c a Γ fun x Γ1 => EvQ c b Γ1 fun y Γ2 => o x y fun z => P z Γ2) → Ev c (.BinOp a op b pos) Γ P
structure CmOk (c : Co) (op : CmpOp) (o : OC) : Prop where
  run : ∀ {x y : D} {P : Bool → Prop}, o x y P → ∃ q, CmpD c.X op x y q ∧ P q
section
variable {c : Co} {k : Nat}
theorem ok_add : OpOk c .Add oAdd := ⟨fun h => ev_add (ev_mono h fun x _ h => eq_mono h fun y _ h => oAdd_of h)⟩
theorem ok_sub : OpOk c .Sub oSub := ⟨fun h => ev_sub (ev_mono h fun x _ h => eq_mono h fun y _ h => by
  unfold oSub at h
  split at h
  · exact ⟨_, _, rfl, rfl, h⟩
  · exact h.elim)⟩
theorem ok_mod : OpOk c .Mod oMod := ⟨fun h => ev_mod (ev_mono h fun x _ h => eq_mono h fun y _ h => by
  unfold oMod at h
  split at h
  · exact ⟨_, _, rfl, rfl, h⟩
  · exact h.elim)⟩
theorem ok_div : OpOk c .FloorDiv oDiv := ⟨fun h => ev_fdiv (ev_mono h fun x _ h => eq_mono h fun y _ h => by
  unfold oDiv at h
  split at h
  · exact ⟨_, _, rfl, rfl, ⟨h.1, h.2.1⟩, h.2.2⟩
  · exact h.elim)⟩
theorem ok_divW : OpOk c .FloorDiv oDivW := ⟨fun h => ev_fdivW (ev_mono h fun x _ h => eq_mono h fun y _ h => by
  unfold oDivW at h
  split at h
  · exact ⟨_, _, rfl, rfl, ⟨h.1, h.2.1⟩, h.2.2⟩
  · exact h.elim)⟩
theorem ok_pow : OpOk c .Pow oPow := ⟨fun h => ev_pow (ev_mono h fun x _ h => eq_mono h fun y _ h => by
  unfold oPow at h
  split at h
  · exact ⟨_, _, rfl, rfl, ⟨h.1, h.2.1, h.2.2.1⟩, h.2.2.2⟩
  · exact h.elim)⟩
theorem vo_mulA {X : Cx} {x y : D} {P : D → Prop} (h : oMul x y P) : ∃ z, Vo2 (fun x y H Q => (rI CMul (fun i j => .int (i * j)) x y H Q ∨ rRep x y H Q ∨ rRepTZ X.K x y H Q) ∨ rRepT1 x y H Q) x y z ∧ P z := by
  unfold oMul at h
  split at h
  · exact ⟨_, fun M H v w hk g1 g2 Q q => .inl (vo_mul (X := X) (.int h.1) M H v w hk g1 g2 Q q), h.2⟩
  · exact ⟨_, fun M H v w hk g1 g2 Q q => .inl (vo_mul (X := X) (.lst h.1 h.2.1 h.2.2.1) M H v w hk g1 g2 Q q), h.2.2.2⟩
  · rename_i _ xs i
    obtain ⟨h0, h1, h2, hp⟩ := h
    refine ⟨_, fun M H v w hk g1 g2 Q q => ?_, hp⟩
    by_cases hi : i = 1
    · subst hi
      cases g2.int_
      obtain ⟨p, ys, rfl, e, m, r⟩ := g1.tup_
      refine .inr ⟨p, ys, rfl, rfl, e, q _ _ (Grow.refl H) ?_⟩
      rw [rep_one]
      exact .tup e m r
    · exact .inl (vo_mul (X := X) (.tup h0 (by omega) h2) M H v w hk g1 g2 Q q)
  · exact h.elim
theorem ok_mul : OpOk c .Mult oMul := ⟨fun h => ev_op ((op_mul.or (op_rep.or op_repTZ)).or op_repT1) (ev_mono h fun x _ h => eq_mono h fun y _ h => vo_mulA (X := c.X) h)⟩
theorem ck_lt : CmOk c .Lt oLt := ⟨fun h => by
  unfold oLt at h
  split at h
  · exact ⟨_, .lt, h⟩
  · exact h.elim⟩
theorem ck_le : CmOk c .LtE oLe := ⟨fun h => by
  unfold oLe at h
  split at h
  · exact ⟨_, .le, h⟩
  · exact h.elim⟩
theorem ck_gt : CmOk c .Gt oGt := ⟨fun h => by
  unfold oGt at h
  split at h
  · exact ⟨_, .gt, h⟩
  · exact h.elim⟩
theorem ck_ge : CmOk c .GtE oGe := ⟨fun h => by
  unfold oGe at h
  split at h
  · exact ⟨_, .ge, h⟩
  · exact h.elim⟩
theorem ck_eq : CmOk c .Eq oEq := ⟨fun h => by
  unfold oEq at h
  split at h
  · exact ⟨_, .eqI, h⟩
  · exact ⟨_, .eqS, h⟩
  · rcases h with ⟨v, w, a, b, e, h⟩ | ⟨a, b, h⟩
    · exact ⟨_, .eqV a b e, h⟩
    · exact ⟨_, .eqD a b, h⟩⟩
theorem ck_ne : CmOk c .NotEq oNe := ⟨fun h => by
  unfold oNe at h
  split at h
  · exact ⟨_, .neI, h⟩
  · exact ⟨_, .neS, h⟩
  · rcases h with ⟨v, w, a, b, e, h⟩ | ⟨a, b, h⟩
    · exact ⟨_, .neV a b e, h⟩
    · exact ⟨_, .neD a b, h⟩⟩
theorem ck_is : CmOk c .Is oIs := ⟨fun h => by
  unfold oIs at h
  split at h
  · exact ⟨_, .isN, h⟩
  · exact h.elim⟩
theorem ck_isNot : CmOk c .IsNot oIsNot := ⟨fun h => by
  unfold oIsNot at h
  split at h
  · exact ⟨_, .notN, h⟩
  · exact h.elim⟩
theorem ck_in : CmOk c .In oIn := ⟨fun h => by
  unfold oIn at h
  split at h
  · obtain ⟨ns, a, h⟩ := h
    exact ⟨_, .isIn a, h⟩
  · exact h.elim⟩
theorem ck_notIn : CmOk c .NotIn oNotIn := ⟨fun h => by
  unfold oNotIn at h
  split at h
  · obtain ⟨ns, a, h⟩ := h
    exact ⟨_, .notIn a, h⟩
  · exact h.elim⟩
/-! ### expressions -/
variable {e a b : Expr} {es : List Expr} {kws : List Keyword} {pos p : Pos} {wa wb we : WE} {ta tb : WT} {wl : WL}
theorem se_var {x : Str} (i : Nat) (hN : c.X.N[i]? = some x) (hv : Vis c.X.env.scope x) (hdb : (x == ("__debug__" : Str)) = false := by decide) (hcd : (x == ("__classdict__" : Str)) = false := by decide) : SE c (.Name x pos) (wVar i) := ⟨fun {Γ P} h => by
  unfold wVar at h
  split at h
  · rename_i d hd
    exact ev_var i hN hv hd h hdb hcd
  · exact h.elim⟩
theorem sq_var {x : Str} (i : Nat) (hN : c.X.N[i]? = some x) (hv : Vis c.X.env.scope x) (hdb : (x == ("__debug__" : Str)) = false := by decide) (hcd : (x == ("__classdict__" : Str)) = false := by decide) : SQ c (.Name x pos) (wVarQ i) := ⟨fun {Γ P} h => by
  unfold wVarQ at h
  split at h
  · rename_i d hd
    exact eq_of (ev_var i hN hv hd h hdb hcd)
  · rename_i d hd
    exact eq_own i hN hv hd h hdb hcd
  · rename_i d hd
    exact eq_ownD i hN hv hd h hdb hcd
  · exact h.elim⟩
theorem sq_of (h : SE c e we) : SQ c e we := ⟨fun w => eq_of (h.run w)⟩
theorem se_int {i : Int} {j : Nat} : SE c (.Constant (.int i) j pos) (wC (.int i)) := ⟨fun h => ev_int h⟩
theorem se_bl {i : Bool} {j : Nat} : SE c (.Constant (.bool i) j pos) (wC (.bl i)) := ⟨fun h => ev_bl h⟩
theorem se_non {j : Nat} : SE c (.Constant .none j pos) (wC .non) := ⟨fun h => ev_non h⟩
theorem se_str {x : Str} {j : Nat} : SE c (.Constant (.str x) j pos) (wC (.str x)) := ⟨fun h => ev_str h⟩
theorem se_glob {x : Str} {i : Int} {t : Tok} (hm : c.X.mg x = some (.int i t)) (hg : Gl c.X x) (hd : (x == ("__debug__" : Str)) = false := by decide) : SE c (.Name x pos) (wC (.int i)) := ⟨fun h => ev_glob hm hg h hd⟩
theorem se_globS {x : Str} {i : Str} {t : Tok} (hm : c.X.mg x = some (.str i t)) (hg : Gl c.X x) (hd : (x == ("__debug__" : Str)) = false := by decide) : SE c (.Name x pos) (wC (.str i)) := ⟨fun h => ev_globS hm hg h hd⟩
theorem se_bin {op : Operator} {o : O2} (ho : OpOk c op o) (ha : SE c a wa) (hb : SQ c b wb) : SE c (.BinOp a op b pos) (wOp o wa wb) := ⟨fun {Γ P} h => ho.run (ev_mono (ha.run h) fun x Γ1 h => hb.run h)⟩
theorem se_neg (ha : SQ c a wa) : SE c (.UnaryOp .USub a pos) (wOp1 oNeg wa) := ⟨fun {Γ P} h => ev_neg (eq_mono (ha.run h) fun x _ h => by
  unfold oNeg at h
  split at h
  · exact ⟨_, rfl, h⟩
  · exact h.elim)⟩
theorem se_cmp (bd : Bd c k) {op : CmpOp} {o : OC} (ho : CmOk c op o) (ha : SE c a wa) (hb : SQ c b wb) (hm : behindInMarks op b = false := by first | exact nomark _ | rfl) : SE c (.Compare a [op] [b] pos) (wCmp o wa wb) :=
  ⟨fun {Γ P} h => ev_cmpD bd (ev_mono (ha.run h) fun x Γ1 h => eq_mono (hb.run h) fun y Γ2 h => ho.run h) hm⟩
theorem st_cmp (bd : Bd c k) {op : CmpOp} {o : OC} (ho : CmOk c op o) (ha : SE c a wa) (hb : SQ c b wb) (hm : behindInMarks op b = false := by first | exact nomark _ | rfl) : ST c (.Compare a [op] [b] pos) (wtCmp o wa wb) :=
  ⟨fun {Γ P} h => tv_cmpD bd (ev_mono (ha.run h) fun x Γ1 h => eq_mono (hb.run h) fun y Γ2 h => ho.run h) hm⟩
theorem st_cmpO (bd : Bd c k) {op : CmpOp} {o : OC} {x : Str} {npos : Pos} (ho : CmOk c op o) (i : Nat) (hN : c.X.N[i]? = some x) (hv : Vis c.X.env.scope x) (hb : SQ c b wb) (hm : behindInMarks op b = false := by first | exact nomark _ | rfl) (hdb : (x == ("__debug__" : Str)) = false := by decide) (hcd : (x == ("__classdict__" : Str)) = false := by decide) : ST c (.Compare (.Name x npos) [op] [b] pos) (wtCmpO o i wb) :=
  ⟨fun {Γ P} h => by
    unfold wtCmpO at h
    split at h
    · rename_i ds hd
      exact tv_cmpo bd i hN hv hd (eq_mono (hb.run h) fun y Γ2 h => ⟨h.1, ho.run h.2⟩) hm hdb hcd
    · rename_i d hd
      exact tv_cmpD bd (ev_var i hN hv hd (eq_mono (hb.run h) fun y Γ2 h => ho.run h) hdb hcd) hm
    · exact h.elim⟩
theorem se_chain (bd : Bd c k) {op op' : CmpOp} {o o' : OC} (ho : CmOk c op o) (ho' : CmOk c op' o') (ha : SE c a wa) (hb : SE c b wb) (he : SE c e we) (hm : lastMarks [op, op'] [b, e] = false := by with_unfolding_all rfl) : SE c (.Compare a [op, op'] [b, e] pos) (wChain o o' wa wb we) :=
  ⟨fun {Γ P} h => ev_chainD bd (ev_mono (ha.run h) fun x Γ1 h => ev_mono (hb.run h) fun y Γ2 h => by
    obtain ⟨q, hq, h1, h2⟩ := ho.run h
    exact ⟨q, hq, h1, fun z => ev_mono (he.run (h2 z)) fun z Γ3 h => ho'.run h⟩) hm⟩
theorem st_chain (bd : Bd c k) {op op' : CmpOp} {o o' : OC} (ho : CmOk c op o) (ho' : CmOk c op' o') (ha : SE c a wa) (hb : SE c b wb) (he : SE c e we) (hm : lastMarks [op, op'] [b, e] = false := by with_unfolding_all rfl) : ST c (.Compare a [op, op'] [b, e] pos) (wtChain o o' wa wb we) :=
  ⟨fun {Γ P} h => tv_chainD bd (ev_mono (ha.run h) fun x Γ1 h => ev_mono (hb.run h) fun y Γ2 h => by
    obtain ⟨q, hq, h1, h2⟩ := ho.run h
    exact ⟨q, hq, h1, fun z => ev_mono (he.run (h2 z)) fun z Γ3 h => ho'.run h⟩) hm⟩
theorem oBool_of {d : D} {P : Bool → Prop} (h : oBool d P) : ∃ q, d = .bl q ∧ P q := by
  unfold oBool at h
  split at h
  · exact ⟨_, rfl, h⟩
  · exact h.elim
theorem oInt_of {d : D} {P : Int → Prop} (h : oInt d P) : ∃ q, d = .int q ∧ P q := by
  unfold oInt at h
  split at h
  · exact ⟨_, rfl, h⟩
  · exact h.elim
theorem st_val (ha : SE c a wa) (he : ∀ whole, isTrue a c.X.env whole = (do let v ← whole; standAt a.pos; holding [v] (truthy v)) := by intro _; rfl) : ST c a (wtVal wa) := ⟨fun h => tv_val (ev_mono (ha.run h) fun _ _ h => oBool_of h) he⟩
theorem tv_mono {T T' : Bool → Ga → Prop} {Γ : Ga} (h : Tv c e Γ T) (k : ∀ d Γ', T d Γ' → T' d Γ') : Tv c e Γ T' := fun σ H r Q W tk xw q => h σ H r Q W tk xw fun b Γ' H' g hp => q b Γ' H' g (k b Γ' hp)
theorem wv_mono {T T' : Bool → Ga → Prop} {Γ : Ga} (h : Wv c e Γ T) (k : ∀ d Γ', T d Γ' → T' d Γ') : Wv c e Γ T' := fun σ H r Q W tk xw q => h σ H r Q W tk xw fun b Γ' H' g hp => q b Γ' H' g (k b Γ' hp)
theorem st_not (h : ST c a ta) : ST c (.UnaryOp .Not a pos) (wtNot ta) := ⟨fun w => tv_not (h.run w)⟩
theorem st_w (h : SW c a ta) : ST c a ta := ⟨fun w => tv_w (h.run w)⟩
theorem sw_one {op : BoolOp} (h : ST c a ta) (ho : op = .And ∨ op = .Or) : SW c (.BoolOp op [a] pos) ta := ⟨fun w => wv_one (h.run w) ho⟩
theorem sw_and {rest : List Expr} (h : ST c a ta) (h2 : SW c (.BoolOp .And (b :: rest) pos) tb) : SW c (.BoolOp .And (a :: b :: rest) pos) (wtAnd ta tb) := ⟨fun w => wv_and (tv_mono (h.run w) fun q Γ1 w => ⟨fun z => h2.run (w.1 z), w.2⟩)⟩
theorem sw_or {rest : List Expr} (h : ST c a ta) (h2 : SW c (.BoolOp .Or (b :: rest) pos) tb) : SW c (.BoolOp .Or (a :: b :: rest) pos) (wtOr ta tb) := ⟨fun w => wv_or (tv_mono (h.run w) fun q Γ1 w => ⟨fun z => h2.run (w.1 z), w.2⟩)⟩
theorem se_one {op : BoolOp} (h : SE c a wa) : SE c (.BoolOp op [a] pos) wa := ⟨fun w => ev_one (h.run w)⟩
theorem se_and {rest : List Expr} (h : SE c a wa) (h2 : SE c (.BoolOp .And (b :: rest) pos) wb) : SE c (.BoolOp .And (a :: b :: rest) pos) (wAnd wa wb) := ⟨fun w => ev_and (ev_mono (h.run w) fun d Γ1 w => by
  obtain ⟨q, e, h1, h3⟩ := oBool_of w
  exact ⟨q, e, fun z => h2.run (h1 z), h3⟩)⟩
theorem se_or {rest : List Expr} (h : SE c a wa) (h2 : SE c (.BoolOp .Or (b :: rest) pos) wb) : SE c (.BoolOp .Or (a :: b :: rest) pos) (wOr wa wb) := ⟨fun w => ev_or (ev_mono (h.run w) fun d Γ1 w => by
  obtain ⟨q, e, h1, h3⟩ := oBool_of w
  exact ⟨q, e, fun z => h2.run (h1 z), h3⟩)⟩
theorem se_not (h : SE c a wa) : SE c (.UnaryOp .Not a pos) (wNot wa) := ⟨fun w => ev_not (ev_mono (h.run w) fun d Γ1 w => oBool_of w)⟩
theorem se_ifE (h : ST c e ta) (ha : SE c a wa) (hb : SE c b wb) : SE c (.IfExp e a b pos) (wIfE ta wa wb) := ⟨fun w => ev_ifExp (tv_mono (h.run w) fun q Γ1 w => ⟨fun z => ha.run (w.1 z), fun z => hb.run (w.2 z)⟩)⟩
theorem sa_nil : SA c [] waNil := ⟨fun w => av_nil w⟩
theorem sa_cons (ha : SE c a wa) (h : SA c es wl) (hs : starEach (a :: es) c.X.env = (false, eval a c.X.env) :: starEach es c.X.env := by rfl) : SA c (a :: es) (waCons wa wl) := ⟨fun w => av_cons (ev_mono (ha.run w) fun x Γ1 w => h.run w) hs⟩
theorem sk_nil : SK c [] waNil := ⟨fun w => kv_nil w⟩
theorem sk_cons {nm : Option Str} {kp : Pos} (ha : SE c a wa) (h : SK c kws wl) : SK c (⟨nm, a, kp⟩ :: kws) (waCons wa wl) := ⟨fun w => kv_cons (ev_mono (ha.run w) fun x Γ1 w => h.run w)⟩
theorem se_tup {ctx : Nat} (h : SA c es wl) : SE c (.Tuple es ctx pos) (wTup wl) := ⟨fun w => ev_tup (h.run w)⟩
theorem se_lst (h : SA c es wl) : SE c (.List es pos) (wLst wl) := ⟨fun w => ev_lst (h.run w)⟩
theorem so_none : SO c none woNone := ⟨fun w => w⟩
theorem so_some (ha : SE c a wa) : SO c (some a) (woSome wa) := ⟨fun {Γ P} w => by
  show Ev c a Γ fun d Γ1 => ∃ i, d = .int i ∧ P (some i) Γ1
  exact ev_mono (ha.run w) fun _ _ w => oInt_of w⟩
theorem ov_mono {o : Option Expr} {Γ : Ga} {P P' : Option Int → Ga → Prop} (h : Ov c o Γ P) (k : ∀ d Γ', P d Γ' → P' d Γ') : Ov c o Γ P' := by
  cases o with
  | none => exact k _ _ h
  | some e => exact ev_mono h fun d Γ' ⟨i, a, b⟩ => ⟨i, a, k _ _ b⟩
theorem oCut_of {lo hi : Option Int} {x : D} {P : D → Prop} (h : oCut lo hi x P) : ∃ z, Cut lo hi x z ∧ P z := by
  unfold oCut at h
  split at h
  · exact ⟨_, .lst _, h⟩
  · exact ⟨_, .tup _, h⟩
  · exact ⟨_, .str _ h.1, h.2⟩
  · exact h.elim
theorem se_slice {lo hi : Option Expr} {p2 : Pos} {wlo whi : WO} (ha : SE c a wa) (hl : SO c lo wlo) (hh : SO c hi whi) : SE c (.Subscript a (.Slice lo hi none p2) pos) (wSlice wa wlo whi) :=
  ⟨fun w => ev_slice (ev_mono (ha.run w) fun x Γ1 w => ov_mono (hl.run w) fun l Γ2 w => ov_mono (hh.run w) fun u Γ3 w => oCut_of w)⟩
theorem oIx_of {x y : D} {P : D → Prop} (h : oIx x y P) : ∃ i, y = .int i ∧ ∃ z, ((∃ ds, x.items? = some ds ∧ L2.atI ds i = some z) ∨ ∃ s k, x = .str s ∧ s.length ≤ 16777216 ∧ L2.atI s.cps.toList i = some k ∧ z = .str ⟨#[k]⟩) ∧ P z := by
  unfold oIx at h
  split at h
  · obtain ⟨z, a, b⟩ := h
    exact ⟨_, rfl, z, .inl ⟨_, rfl, a⟩, b⟩
  · obtain ⟨z, a, b⟩ := h
    exact ⟨_, rfl, z, .inl ⟨_, rfl, a⟩, b⟩
  · obtain ⟨l, k, a, b⟩ := h
    exact ⟨_, rfl, _, .inr ⟨_, k, rfl, l, a, rfl⟩, b⟩
  · exact h.elim
theorem se_ix (ha : SE c a wa) (hb : SQ c b wb) (hx : PlainIx b := by intro _ _; rfl) : SE c (.Subscript a b pos) (wOp oIx wa wb) := ⟨fun w => ev_ix (ev_mono (ha.run w) fun x Γ1 w => eq_mono (hb.run w) fun y Γ2 w => oIx_of w) hx⟩
def wIxO (i : Nat) (b : WE) : WE := fun Γ P => match Γ[i]? with
  | some (.own ds) => b Γ fun y Γ2 => Γ2[i]? = some (.own ds) ∧ oInt y fun j => ∃ z, L2.atI ds j = some z ∧ P z Γ2
  | some (.dat d) => b Γ fun y Γ2 => oIx d y fun z => P z Γ2
  | _ => False
theorem se_ixO {x : Str} {npos : Pos} (i : Nat) (hN : c.X.N[i]? = some x) (hv : Vis c.X.env.scope x) (hb : SQ c b wb) (hx : PlainIx b := by intro _ _; rfl) (hdb : (x == ("__debug__" : Str)) = false := by decide) (hcd : (x == ("__classdict__" : Str)) = false := by decide) : SE c (.Subscript (.Name x npos) b pos) (wIxO i wb) := ⟨fun {Γ P} h => by
  unfold wIxO at h
  split at h
  · rename_i ds hd
    exact ev_ixo i hN hv hd (eq_mono (hb.run h) fun y Γ2 h => ⟨h.1, by
      obtain ⟨j, e, z⟩ := oInt_of h.2
      exact ⟨j, e, z⟩⟩) hx hdb hcd
  · rename_i d hd
    exact ev_ix (ev_var i hN hv hd (eq_mono (hb.run h) fun y Γ2 h => oIx_of h) hdb hcd) hx
  · exact h.elim⟩
theorem se_revT {j : Nat} {p1 p2 p3 : Pos} (ha : SE c a wa) : SE c (.Subscript a (.Slice none none (some (.UnaryOp .USub (.Constant (.int 1) j p1) p2)) p3) pos) (wOp1 oRevT wa) := ⟨fun {Γ P} w => ev_revT (ev_mono (ha.run w) fun d _ h => by
  unfold oRevT at h
  split at h
  · exact ⟨_, rfl, h⟩
  · exact h.elim)⟩
theorem se_revL {j : Nat} {p1 p2 p3 : Pos} (ha : SE c a wa) : SE c (.Subscript a (.Slice none none (some (.UnaryOp .USub (.Constant (.int 1) j p1) p2)) p3) pos) (wOp1 oRevL wa) := ⟨fun {Γ P} w => ev_revL (ev_mono (ha.run w) fun d _ h => by
  unfold oRevL at h
  split at h
  · exact ⟨_, rfl, h⟩
  · exact h.elim)⟩
end
end U
/-! W2: readings of calls, built-ins, statements. -/
namespace U
open PySem PySem.Spec PyProof.Rows L2
def oLen : O1
  | .lst ds, P => P (.int (ds.length : Nat))
  | .tup ds, P => P (.int (ds.length : Nat))
  | .str s, P => s.length ≤ 16777216 ∧ P (.int (s.length : Nat))
  | _, _ => False
def oListOf : O1
  | .lst ds, P => P (.lst ds)
  | .tup ds, P => P (.lst ds)
  | _, _ => False
def oTupOf : O1
  | .lst ds, P => P (.tup ds)
  | .tup ds, P => P (.tup ds)
  | _, _ => False
def oIntOf : O1
  | .int i, P => P (.int i)
  | .bl b, P => P (.int (if b then 1 else 0))
  | _, _ => False
def oAbs : O1
  | .int i, P => P (.int (if i < 0 then -i else i))
  | _, _ => False
def oRepr : O1 := fun d P => Shown d ∧ P (.str (shw d))
def oStrOf : O1 := fun d P => d.isSq = true ∧ (∃ n j, Rk d n j ∧ n ≤ 16777216 ∧ j ≤ 60) ∧ P (.str (shw d))
def oIsi (T' : String) : O1 := fun d P => d.isAd = false ∧ P (.bl (isTyN T' (tyOf d)))
def oListRg : O1
  | .int n, P => 0 ≤ n ∧ n ≤ 16777216 ∧ P (.lst (rangeD 0 n.toNat))
  | _, _ => False
def oTupRg : O1
  | .int n, P => 0 ≤ n ∧ n ≤ 16777216 ∧ P (.tup (rangeD 0 n.toNat))
  | _, _ => False
def oSorted : O1 := fun d P => ∃ ns : List Int, d = .lst (ns.map D.int) ∧ P (.lst ((srt ns).map D.int))
def oSortedP : O1 := fun d P => ∃ ds : List D, d = .lst ds ∧ (∀ x ∈ ds, ∃ i j, x = .tup [.int i, .int j]) ∧ ∀ es : List D, es.Perm ds → P (.lst es)
def oSortedSet : O1 := fun d P => ∃ ns : List Int, (d = .tup (ns.map D.int) ∧ ns.length + 1 < scanBound ∧ ∃ ms : List Int, ms.length < 64 ∧ ∀ k ∈ ns, k ∈ ms) ∧ ∀ ms : List Int, ms.Pairwise (· < ·) → (∀ k, k ∈ ms ↔ k ∈ ns) → P (.lst (ms.map D.int))
def oSortedSetL : O1 := fun d P => ∃ ns : List Int, (d = .lst (ns.map D.int) ∧ ns.length + 1 < scanBound ∧ ∃ ms : List Int, ms.length < 64 ∧ ∀ k ∈ ns, k ∈ ms) ∧ ∀ ms : List Int, ms.Pairwise (· < ·) → (∀ k, k ∈ ms ↔ k ∈ ns) → P (.lst (ms.map D.int))
def oAll : O1 := fun d P => ∃ bs : List Bool, d = .lst (bs.map D.bl) ∧ P (.bl (bs.all id))
def oMin2 : List D → (D → Prop) → Prop
  | [.int i, .int j], P => P (.int (if j < i then j else i))
  | _, _ => False
def oDivmod : List D → (D → Prop) → Prop
  | [.int i, .int j], P => 0 < j ∧ j < 1073741824 ∧ P (.tup [.int (i / j), .int (i % j)])
  | _, _ => False
def wCount (o a : WE) : WE := fun Γ P => o Γ fun x Γ1 => ∃ ns : List Int, x = .lst (ns.map D.int) ∧ a Γ1 fun d Γ2 => ∃ i : Int, d = .int i ∧ P (.int (ns.count i : Nat)) Γ2
def wOpL (o : List D → (D → Prop) → Prop) (a : WL) : WE := fun Γ P => a Γ fun ds Γ1 => o ds fun z => P z Γ1
section
variable {c : Co} {k : Nat} {e a b : Expr} {es : List Expr} {kws : List Keyword} {pos p : Pos} {wa wb we : WE} {ta tb : WT} {wl : WL}
theorem se_len (hm : c.X.mg "len" = none) (ha : SQ c a wa) (hg : Gl c.X "len" := by rfl) (hs : starEach [a] c.X.env = (false, eval a c.X.env) :: starEach [] c.X.env := by rfl) (hpl : (backTo pos (starEach [] c.X.env)).any (·.1) = false := by rfl) : SE c (.Call (.Name "len" p) [a] [] pos) (wOp1 oLen wa) :=
  ⟨fun w => ev_len hm (eq_mono (ha.run w) fun d _ h => by
    unfold oLen at h
    split at h
    · exact ⟨_, rfl, h⟩
    · exact ⟨_, rfl, h⟩
    · exact ⟨_, if_pos h.1, h.2⟩
    · exact h.elim) hg hs hpl⟩
theorem se_listOf (hm : c.X.mg "list" = none) (ha : SQ c a wa) (hg : Gl c.X "list" := by rfl) (hs : starEach [a] c.X.env = (false, eval a c.X.env) :: starEach [] c.X.env := by rfl) (hpl : (backTo pos (starEach [] c.X.env)).any (·.1) = false := by rfl) : SE c (.Call (.Name "list" p) [a] [] pos) (wOp1 oListOf wa) :=
  ⟨fun w => ev_listOf hm (eq_mono (ha.run w) fun d _ h => by
    unfold oListOf at h
    split at h
    · exact ⟨_, rfl, h⟩
    · exact ⟨_, rfl, h⟩
    · exact h.elim) hg hs hpl⟩
theorem se_tupOf (hm : c.X.mg "tuple" = none) (ha : SQ c a wa) (hg : Gl c.X "tuple" := by rfl) (hs : starEach [a] c.X.env = (false, eval a c.X.env) :: starEach [] c.X.env := by rfl) (hpl : (backTo pos (starEach [] c.X.env)).any (·.1) = false := by rfl) : SE c (.Call (.Name "tuple" p) [a] [] pos) (wOp1 oTupOf wa) :=
  ⟨fun w => ev_tupleOf hm (eq_mono (ha.run w) fun d _ h => by
    unfold oTupOf at h
    split at h
    · exact ⟨_, rfl, h⟩
    · exact ⟨_, rfl, h⟩
    · exact h.elim) hg hs hpl⟩
theorem se_intOf (hm : c.X.mg "int" = none) (ha : SE c a wa) (hg : Gl c.X "int" := by rfl) (hs : starEach [a] c.X.env = (false, eval a c.X.env) :: starEach [] c.X.env := by rfl) (hpl : (backTo pos (starEach [] c.X.env)).any (·.1) = false := by rfl) : SE c (.Call (.Name "int" p) [a] [] pos) (wOp1 oIntOf wa) :=
  ⟨fun w => ev_intOf hm (ev_mono (ha.run w) fun d _ h => by
    unfold oIntOf at h
    split at h
    · exact .inl ⟨_, rfl, h⟩
    · exact .inr ⟨_, rfl, h⟩
    · exact h.elim) hg hs hpl⟩
theorem se_abs (hm : c.X.mg "abs" = none) (ha : SE c a wa) (hg : Gl c.X "abs" := by rfl) (hs : starEach [a] c.X.env = (false, eval a c.X.env) :: starEach [] c.X.env := by rfl) (hpl : (backTo pos (starEach [] c.X.env)).any (·.1) = false := by rfl) : SE c (.Call (.Name "abs" p) [a] [] pos) (wOp1 oAbs wa) :=
  ⟨fun w => ev_abs hm (ev_mono (ha.run w) fun d _ h => by
    unfold oAbs at h
    split at h
    · exact ⟨_, rfl, h⟩
    · exact h.elim) hg hs hpl⟩
theorem se_repr (bd : Bd c k) (hm : c.X.mg "repr" = none) (ha : SQ c a wa) (hg : Gl c.X "repr" := by rfl) (hs : starEach [a] c.X.env = (false, eval a c.X.env) :: starEach [] c.X.env := by rfl) (hpl : (backTo pos (starEach [] c.X.env)).any (·.1) = false := by rfl) : SE c (.Call (.Name "repr" p) [a] [] pos) (wOp1 oRepr wa) :=
  ⟨fun w => ev_reprG bd hm (eq_mono (ha.run w) fun d _ h => h) hg hs hpl⟩
theorem se_strOf (bd : Bd c k) (hu : c.X.A.units + 70 < cLine) (hm : c.X.mg "str" = none) (ha : SQ c a wa) (hg : Gl c.X "str" := by rfl) (hs : starEach [a] c.X.env = (false, eval a c.X.env) :: starEach [] c.X.env := by rfl) (hpl : (backTo pos (starEach [] c.X.env)).any (·.1) = false := by rfl) : SE c (.Call (.Name "str" p) [a] [] pos) (wOp1 oStrOf wa) :=
  ⟨fun w => ev_strOf bd hu hm (eq_mono (ha.run w) fun d _ h => ⟨⟨h.1, h.2.1⟩, h.2.2⟩) hg hs hpl⟩
theorem se_isi {T : Str} {T' : String} {p2 : Pos} (hm : c.X.mg "isinstance" = none) (hmT : c.X.mg T = none) (hvT : bootBuiltins T = some (.type T')) (hk : (kindNames.all fun t => decide (kitB t T' = some (isTyN T' t))) = true) (ha : SQ c a wa)
    (hg : Gl c.X "isinstance") (hgT : Gl c.X T) (hnT : T ≠ "__name__" := by decide) (hdT : (T == ("__debug__" : Str)) = false := by decide) (hs : starEach [a, .Name T p2] c.X.env = (false, eval a c.X.env) :: starEach [.Name T p2] c.X.env := by rfl)
    (hs2 : starEach [.Name T p2] c.X.env = (false, eval (.Name T p2) c.X.env) :: starEach [] c.X.env := by rfl) (hpl : (backTo pos (starEach [.Name T p2] c.X.env)).any (·.1) = false := by rfl) : SE c (.Call (.Name "isinstance" p) [a, .Name T p2] [] pos) (wOp1 (oIsi T') wa) :=
  ⟨fun w => ev_isi hm hmT hvT hk (eq_mono (ha.run w) fun d _ h => h) hg hgT hnT hdT hs hs2 hpl⟩
theorem se_listRg (bd : Bd c k) {p2 q2 : Pos} (hm : c.X.mg "list" = none) (hr : c.X.mg "range" = none) (ha : SE c a wa) (hg : Gl c.X "list" := by rfl) (hgr : Gl c.X "range" := by rfl)
    (hs : starEach [a] c.X.env = (false, eval a c.X.env) :: starEach [] c.X.env := by rfl) (hs2 : starEach [.Call (.Name "range" p2) [a] [] q2] c.X.env = (false, eval (.Call (.Name "range" p2) [a] [] q2) c.X.env) :: starEach [] c.X.env := by rfl) : SE c (.Call (.Name "list" p) [.Call (.Name "range" p2) [a] [] q2] [] pos) (wOp1 oListRg wa) :=
  ⟨fun w => ev_listRg bd hm hr (ev_mono (ha.run w) fun d _ h => by
    unfold oListRg at h
    split at h
    · exact ⟨_, rfl, h⟩
    · exact h.elim) hg hgr hs hs2⟩
theorem se_tupRg (bd : Bd c k) {p2 q2 : Pos} (hm : c.X.mg "tuple" = none) (hr : c.X.mg "range" = none) (ha : SE c a wa) (hg : Gl c.X "tuple" := by rfl) (hgr : Gl c.X "range" := by rfl)
    (hs : starEach [a] c.X.env = (false, eval a c.X.env) :: starEach [] c.X.env := by rfl) (hs2 : starEach [.Call (.Name "range" p2) [a] [] q2] c.X.env = (false, eval (.Call (.Name "range" p2) [a] [] q2) c.X.env) :: starEach [] c.X.env := by rfl) : SE c (.Call (.Name "tuple" p) [.Call (.Name "range" p2) [a] [] q2] [] pos) (wOp1 oTupRg wa) :=
  ⟨fun w => ev_tupRg bd hm hr (ev_mono (ha.run w) fun d _ h => by
    unfold oTupRg at h
    split at h
    · exact ⟨_, rfl, h⟩
    · exact h.elim) hg hgr hs hs2⟩
theorem se_sorted (hm : c.X.mg "sorted" = none) (ha : SQ c a wa) (hg : Gl c.X "sorted" := by rfl) (hs : starEach [a] c.X.env = (false, eval a c.X.env) :: starEach [] c.X.env := by rfl) (hpl : (backTo pos (starEach [] c.X.env)).any (·.1) = false := by rfl) : SE c (.Call (.Name "sorted" p) [a] [] pos) (wOp1 oSorted wa) :=
  ⟨fun w => ev_sorted hm (eq_mono (ha.run w) fun d _ h => h) hg hs hpl⟩
theorem se_sortedP (hm : c.X.mg "sorted" = none) (ha : SQ c a wa) (hg : Gl c.X "sorted" := by rfl) (hs : starEach [a] c.X.env = (false, eval a c.X.env) :: starEach [] c.X.env := by rfl) (hpl : (backTo pos (starEach [] c.X.env)).any (·.1) = false := by rfl) : SE c (.Call (.Name "sorted" p) [a] [] pos) (wOp1 oSortedP wa) :=
  ⟨fun w => ev_sortedP hm (eq_mono (ha.run w) fun d _ h => h) hg hs hpl⟩
theorem se_sortedSet (bd : Bd c k) {p2 q2 : Pos} (hm : c.X.mg "sorted" = none) (hm2 : c.X.mg "set" = none) (ha : SE c a wa) (hg : Gl c.X "sorted" := by rfl) (hg2 : Gl c.X "set" := by rfl) (hs : starEach [a] c.X.env = (false, eval a c.X.env) :: starEach [] c.X.env := by rfl) (hs2 : starEach [.Call (.Name "set" p2) [a] [] q2] c.X.env = (false, eval (.Call (.Name "set" p2) [a] [] q2) c.X.env) :: starEach [] c.X.env := by rfl) : SE c (.Call (.Name "sorted" p) [.Call (.Name "set" p2) [a] [] q2] [] pos) (wOp1 oSortedSet wa) :=
  ⟨fun w => ev_sortedSet bd hm hm2 (ev_mono (ha.run w) fun d _ ⟨ns, ⟨h1, h2, h3⟩, h4⟩ => ⟨ns, h1, h2, h3, h4⟩) hg hg2 hs hs2⟩
theorem se_sortedSetL (bd : Bd c k) {p2 q2 : Pos} (hm : c.X.mg "sorted" = none) (hm2 : c.X.mg "set" = none) (ha : SQ c a wa) (hg : Gl c.X "sorted" := by rfl) (hg2 : Gl c.X "set" := by rfl) (hs : starEach [a] c.X.env = (false, eval a c.X.env) :: starEach [] c.X.env := by rfl) (hs2 : starEach [.Call (.Name "set" p2) [a] [] q2] c.X.env = (false, eval (.Call (.Name "set" p2) [a] [] q2) c.X.env) :: starEach [] c.X.env := by rfl) : SE c (.Call (.Name "sorted" p) [.Call (.Name "set" p2) [a] [] q2] [] pos) (wOp1 oSortedSetL wa) :=
  ⟨fun w => ev_sortedSetL bd hm hm2 (eq_mono (ha.run w) fun d _ ⟨ns, ⟨h1, h2, h3⟩, h4⟩ => ⟨ns, h1, h2, h3, h4⟩) hg hg2 hs hs2⟩
theorem se_all (bd : Bd c k) (hm : c.X.mg "all" = none) (ha : SQ c a wa) (hg : Gl c.X "all" := by rfl) (hs : starEach [a] c.X.env = (false, eval a c.X.env) :: starEach [] c.X.env := by rfl) (hpl : (backTo pos (starEach [] c.X.env)).any (·.1) = false := by rfl) : SE c (.Call (.Name "all" p) [a] [] pos) (wOp1 oAll wa) :=
  ⟨fun w => ev_all bd hm (eq_mono (ha.run w) fun d _ h => h) hg hs hpl⟩
theorem se_min2 (bd : Bd c k) (hm : c.X.mg "min" = none) (ha : SA c [a, b] wl) (hg : Gl c.X "min" := by rfl) (hs : starEach [a, b] c.X.env = (false, eval a c.X.env) :: starEach [b] c.X.env := by rfl) (hpl : (backTo pos (starEach [b] c.X.env)).any (·.1) = false := by rfl) : SE c (.Call (.Name "min" p) [a, b] [] pos) (wOpL oMin2 wl) :=
  ⟨fun w => ev_min2 bd hm (av_mono (ha.run w) fun d _ h => by
    unfold oMin2 at h
    split at h
    · exact ⟨_, _, rfl, h⟩
    · exact h.elim) hg hs hpl⟩
theorem se_divmod (hm : c.X.mg "divmod" = none) (ha : SA c [a, b] wl) (hg : Gl c.X "divmod" := by rfl) (hs : starEach [a, b] c.X.env = (false, eval a c.X.env) :: starEach [b] c.X.env := by rfl) (hpl : (backTo pos (starEach [b] c.X.env)).any (·.1) = false := by rfl) : SE c (.Call (.Name "divmod" p) [a, b] [] pos) (wOpL oDivmod wl) :=
  ⟨fun w => ev_divmod hm (av_mono (ha.run w) fun d _ h => by
    unfold oDivmod at h
    split at h
    · exact ⟨_, _, rfl, ⟨h.1, h.2.1⟩, h.2.2⟩
    · exact h.elim) hg hs hpl⟩
theorem se_dicE : SE c (.Dict [] [] pos) (wC (.dic [])) := ⟨fun w => ev_dicE w⟩
theorem se_def {x : Str} {st : Stmt} {j n : Nat} {ps : List Str} {S : Fs} (F : Df c.X.prog c.X.w c.X.K c.X.mg c.X.base x st j n ps c.U S) (bd : Bd c k) (hj : j ≤ k) (ha : SA c (e :: es) wl) (hg : Gl c.X x := by rfl)
    (hdb : (x == ("__debug__" : Str)) = false := by decide) (he : starEach (e :: es) c.X.env = (false, eval e c.X.env) :: starEach es c.X.env := by rfl) (hpl : (backTo pos (starEach es c.X.env)).any (·.1) = false := by rfl) : SE c (.Call (.Name x p) (e :: es) [] pos) (wCall n S c.E wl) :=
  ⟨fun w => ev_def F bd hj hg (ha.run w) hdb he hpl⟩
theorem se_defK1 {x y : Str} {st : Stmt} {j : Nat} {S : Fs} {kp : Pos} (F : Df c.X.prog c.X.w c.X.K c.X.mg c.X.base x st j 1 [y] c.U S) (bd : Bd c k) (hj : j ≤ k) (ha : SE c e wa)
    (hb : ∀ (kV doc pm : Value) (an : Option Addr) (cdv ct u : Value), bindArgs (PySem.W.fnOf x x (defArgs st) (defBody st) (defScope st) .none kV doc pm an cdv ct) ⟨[], [(y, u)]⟩ = pure [(y, u)] := by intros; rfl) (hg : Gl c.X x := by rfl)
    (hall : (backToKw pos (keywordEach [⟨some y, e, kp⟩] c.X.env)).all (·.1.isSome) = true := by rfl) (hks : (backToKw pos (keywordEach [⟨some y, e, kp⟩] c.X.env)).filterMap (·.1) = [y] := by rfl)
    (hdb : (x == ("__debug__" : Str)) = false := by decide) (hpl : ((backTo pos (starEach [] c.X.env)).any (·.1) || (backToKw pos (keywordEach [⟨some y, e, kp⟩] c.X.env)).any (·.1.isNone)) = false := by rfl) :
    SE c (.Call (.Name x p) [] [⟨some y, e, kp⟩] pos) (wCall 1 S c.E (waCons wa waNil)) := ⟨fun w => ev_defK1 F bd hj hg hb (ev_mono (ha.run w) fun d Γ1 h => h.2) hall hks hdb hpl⟩
def wCallK2 (S : Fs) (E : Addr → Option (Str × D) → Ga → Prop) (a b : WE) : WE := fun Γ P => a Γ fun d Γ1 => b Γ1 fun d2 Γ2 => S [d2, d] (fun d => P d Γ2) fun C fo => E C fo Γ2
theorem se_defK2 {x y z : Str} {st : Stmt} {j : Nat} {S : Fs} {kp kp2 : Pos} {e2 : Expr} (F : Df c.X.prog c.X.w c.X.K c.X.mg c.X.base x st j 2 [y, z] c.U S) (bd : Bd c k) (hj : j ≤ k) (ha : SE c e wa) (hb2 : SE c e2 wb)
    (hb : ∀ (kV doc pm : Value) (an : Option Addr) (cdv ct u w : Value), bindArgs (PySem.W.fnOf x x (defArgs st) (defBody st) (defScope st) .none kV doc pm an cdv ct) ⟨[], [(z, w), (y, u)]⟩ = pure [(y, u), (z, w)] := by intros; rfl) (hg : Gl c.X x := by rfl)
    (hall : (backToKw pos (keywordEach [⟨some z, e, kp⟩, ⟨some y, e2, kp2⟩] c.X.env)).all (·.1.isSome) = true := by rfl) (hks : (backToKw pos (keywordEach [⟨some z, e, kp⟩, ⟨some y, e2, kp2⟩] c.X.env)).filterMap (·.1) = [z, y] := by rfl)
    (hdb : (x == ("__debug__" : Str)) = false := by decide) (hpl : ((backTo pos (starEach [] c.X.env)).any (·.1) || (backToKw pos (keywordEach [⟨some z, e, kp⟩, ⟨some y, e2, kp2⟩] c.X.env)).any (·.1.isNone)) = false := by rfl) :
    SE c (.Call (.Name x p) [] [⟨some z, e, kp⟩, ⟨some y, e2, kp2⟩] pos) (wCallK2 S c.E wa wb) := ⟨fun w => ev_defK2 F bd hj hg hb (ev_mono (ha.run w) fun d Γ1 h => hb2.run h) hall hks hdb hpl⟩
theorem se_count {name : Str} {apos cpos : Pos} {o : Expr} {wo : WE} (hn : name = "count") (ho : SE c o wo) (ha : SE c e wa)
    (hfew : ((backTo cpos (starEach [e] c.X.env)).all (fun x => !x.1) && (backToKw cpos (keywordEach [] c.X.env)).all (fun x => x.1.isSome) && decide (([e] : List Expr).length + ([] : List Keyword).length + (if ([] : List Keyword).isEmpty then 0 else 1) < 30)) = true := by rfl)
    (hbase : attributeBase o "count" c.X.env (eval o c.X.env) = eval o c.X.env := by rfl) (hline : (apos.endLine == cpos.line) = true := by rfl) (hst : starEach [e] c.X.env = (false, eval e c.X.env) :: starEach [] c.X.env := by rfl) :
    SE c (.Call (.Attribute o name apos) [e] [] cpos) (wCount wo wa) := ⟨fun w => ev_lcount hn (ev_mono (ho.run w) fun x Γ1 ⟨ns, h, w⟩ => ⟨ns, h, ha.run w⟩) hfew hbase hline hst⟩
end
end U
/-! W3: new lists and dicts that become one's own; several parts stored at once. -/
namespace U
open PySem PySem.Spec PyProof.Rows L2
section
variable {U : Vol} {M M0 M1 : Ex} {H H' : Hw} {σ : Sw} {Γ : Ga}
theorem ER.take {p : Addr} {o : HO} {s : Sl} (r : ER U M1 H σ Γ) (i : Nat) (hi : i < Γ.length) (hp : H p = some o) (b : Ob (Mx M1 σ Γ) H o s) (n0 : ¬ M0 p) (h1 : ∀ a, M1 a → M0 a ∨ a = p) (h0 : ∀ a, M0 a → M1 a) (hm1 : M1 p) (tm : ∀ a, U.T a → M0 a) :
    ER U M0 H (σ.set i (some (.ref p))) (Γ.set i s) ∧ Goes (Mx M1 σ Γ) (Mx M0 (σ.set i (some (.ref p))) (Γ.set i s)) H H ∧ ∀ a, Ow (σ.set i (some (.ref p))) (Γ.set i s) a → Ow σ Γ a ∨ a = p := by
  have hσ : i < σ.length := by rw [r.len]; exact hi
  have ow : ∀ a, Ow (σ.set i (some (.ref p))) (Γ.set i s) a → Ow σ Γ a ∨ a = p := fun a h => by
    obtain ⟨j, t, h1, h2, h3⟩ := h
    rcases at_set h1 with ⟨e, e2, _⟩ | ⟨e, h1⟩
    · subst e
      rw [set_at hσ] at h3
      cases h3
      exact .inr rfl
    · rw [set_off e] at h3
      exact .inl ⟨j, t, h1, h2, h3⟩
  have g : Goes (Mx M1 σ Γ) (Mx M0 (σ.set i (some (.ref p))) (Γ.set i s)) H H := ⟨fun a u m e => ⟨e, fun z => by
    rcases z with z | z
    · exact m (.inl (h0 a z))
    · rcases ow a z with z | z
      · exact m (.inr z)
      · exact m (.inl (by rw [z]; exact hm1))⟩⟩
  refine ⟨ER.of tm (fun a z => r.kn a (h0 a z)) r.j (by rw [List.length_set, List.length_set, r.len]) (fun j e h => ?_) (fun j t h m => ?_) (fun j k t u a h1 h2 m1 m2 h3 h4 => ?_), g, ow⟩
  · rcases at_set h with ⟨e1, e2, _⟩ | ⟨e1, h⟩
    · have z := b.mine
      rw [← e2] at z
      cases z
    · obtain ⟨w, q1, q2⟩ := r.dat j e h
      exact ⟨w, (set_off e1).trans q1, Rp.to g _ _ q2⟩
  · rcases at_set h with ⟨e1, e2, _⟩ | ⟨e1, h⟩
    · subst e1
      subst e2
      exact ⟨p, o, set_at hσ, hp, n0, b.to g⟩
    · obtain ⟨a, u, q1, q2, q3, q4⟩ := r.ob h m
      exact ⟨a, u, (set_off e1).trans q1, q2, fun z => q3 (h0 a z), q4.to g⟩
  · have ne : ∀ {j : Nat} {t : Sl}, Γ[j]? = some t → t.mine = true → σ[j]? = some (some (.ref p)) → False := fun {j t} h m e => by
      obtain ⟨a, u, q1, q2, q3, _⟩ := r.ob h m
      rw [e] at q1
      cases q1
      exact q3 hm1
    rcases at_set h1 with ⟨e1, _, _⟩ | ⟨e1, y1⟩
    · rcases at_set h2 with ⟨e2, _, _⟩ | ⟨e2, y2⟩
      · omega
      · rw [e1, set_at hσ] at h3
        cases h3
        rw [set_off e2] at h4
        exact (ne y2 m2 h4).elim
    · rcases at_set h2 with ⟨e2, _, _⟩ | ⟨e2, y2⟩
      · rw [e2, set_at hσ] at h4
        cases h4
        rw [set_off e1] at h3
        exact (ne y1 m1 h3).elim
      · rw [set_off e1] at h3
        rw [set_off e2] at h4
        exact r.sep j k t u a y1 y2 m1 m2 h3 h4
end
/-- parts: data, or new objects kept apart -/
inductive Pt (M : Ex) (H : Hw) : List V → List Sl → List Addr → Prop
  | nil : Pt M H [] [] []
  | dat {v : V} {d : D} {vs : List V} {ss : List Sl} {ps : List Addr} : Rp M H v d → Pt M H vs ss ps → Pt M H (v :: vs) (.dat d :: ss) ps
  | new {p : Addr} {o : HO} {s : Sl} {vs : List V} {ss : List Sl} {ps : List Addr} : H p = some o → Ob M H o s → p ∉ ps → Pt M H vs ss ps → Pt M H (.ref p :: vs) (s :: ss) (p :: ps)
theorem Pt.to {M M' : Ex} {H H' : Hw} (g : Goes M M' H H') {vs : List V} {ss : List Sl} {ps : List Addr} (h : Pt M H vs ss ps) (hp : ∀ p ∈ ps, ∀ o, H p = some o → H' p = some o) : Pt M' H' vs ss ps := by
  induction h with
  | nil => exact .nil
  | dat r _ ih => exact .dat (Rp.to g _ _ r) (ih hp)
  | new e b n _ ih => exact .new (hp _ List.mem_cons_self _ e) (b.to g) n (ih fun p m => hp p (List.mem_cons_of_mem _ m))
def setV : List Nat → List V → Sw → Sw
  | i :: is, v :: vs, σ => setV is vs (σ.set i (some v))
  | _, _, σ => σ
def setG : List Nat → List Sl → Ga → Ga
  | i :: is, s :: ss, Γ => setG is ss (Γ.set i s)
  | _, _, Γ => Γ
theorem parts_set {U : Vol} {M : Ex} {H : Hw} (tm : ∀ a, U.T a → M a) : ∀ {vs : List V} {ss : List Sl} {ps : List Addr} {is : List Nat} {σ : Sw} {Γ : Ga}, ER U (fun a => M a ∨ a ∈ ps) H σ Γ → Pt (Mx (fun a => M a ∨ a ∈ ps) σ Γ) H vs ss ps → (∀ p ∈ ps, ¬ M p) → (∀ i ∈ is, i < Γ.length) → is.length = vs.length →
    ER U M H (setV is vs σ) (setG is ss Γ) ∧ ∀ a, Ow (setV is vs σ) (setG is ss Γ) a → Ow σ Γ a ∨ a ∈ ps
  | [], _, _, [], σ, Γ, r, .nil, _, _, _ => ⟨r.subM tm fun a h => .inl h, fun a h => .inl h⟩
  | v :: vs, _, ps, i :: is, σ, Γ, r, .dat (d := d) q h, hn, hl, hz => by
    have hi := hl i List.mem_cons_self
    have r1 := r.set i q hi
    have g : Goes (Mx (fun a => M a ∨ a ∈ ps) σ Γ) (Mx (fun a => M a ∨ a ∈ ps) (σ.set i (some v)) (Γ.set i (.dat d))) H H := shrink (ow_set rfl)
    obtain ⟨r2, o2⟩ := parts_set tm (is := is) r1 (h.to g fun _ _ _ e => e) hn (fun j hj => by rw [List.length_set]; exact hl j (List.mem_cons_of_mem _ hj)) (by simpa using hz)
    exact ⟨r2, fun a h => (o2 a h).elim (fun z => .inl (ow_set rfl a z)) .inr⟩
  | _ :: vs, _, p :: ps, i :: is, σ, Γ, r, .new e b n h, hn, hl, hz => by
    have hi := hl i List.mem_cons_self
    have np := hn p List.mem_cons_self
    obtain ⟨r1, g, o1⟩ := r.take (M0 := fun a => M a ∨ a ∈ ps) i hi e b (fun z => z.elim np n) (fun a z => z.elim (fun y => .inl (.inl y)) fun y => (List.mem_cons.mp y).elim .inr fun y => .inl (.inr y)) (fun a z => z.imp id fun y => List.mem_cons_of_mem _ y) (.inr List.mem_cons_self) (fun a t => .inl (tm a t))
    obtain ⟨r2, o2⟩ := parts_set tm (is := is) r1 (h.to g fun _ _ _ e => e) (fun q hq => hn q (List.mem_cons_of_mem _ hq)) (fun j hj => by rw [List.length_set]; exact hl j (List.mem_cons_of_mem _ hj)) (by simpa using hz)
    exact ⟨r2, fun a h => (o2 a h).elim (fun z => (o1 a z).imp id fun y => by rw [y]; exact List.mem_cons_self) fun z => .inr (List.mem_cons_of_mem _ z)⟩
/-- one more address kept apart -/
def Co.apart (c : Co) (p : Addr) : Co := ⟨c.X, c.U, fun a => c.M a ∨ a = p, c.E⟩
theorem Bd.apart {c : Co} {k : Nat} (bd : Bd c k) (p : Addr) : Bd (c.apart p) k := ⟨bd.calm, bd.own, bd.nd, bd.hr, bd.gd⟩
theorem XW.apart {c : Co} {σ : Sw} {Γ : Ga} {H : Hw} {W : WX} (tm : ∀ a, c.U.T a → c.M a) (x : XW c σ Γ H W) (p : Addr) : XW (c.apart p) σ Γ H W := fun C fo dx σ' Γ' H' s' r' f e => x C fo dx σ' Γ' H' s' (r'.subM tm fun a h => .inl h) (fun f1 x1 e1 => by
  obtain ⟨a, v, h1, h2, h3⟩ := f f1 x1 e1
  exact ⟨a, v, h1, h2, Rp.to ⟨fun a o m e => ⟨e, fun z => m (z.imp (fun y => .inl y) id)⟩⟩ _ _ h3⟩) e
/-- an expression that makes a new object -/
def Nv (c : Co) (e : Expr) (Γ : Ga) (P : Sl → Ga → Prop) : Prop := ∀ (σ : Sw) (H : Hw), ER c.U c.M H σ Γ → ∀ (Q : VK) (W : WX), Takes c.X W → XW c σ Γ H W →
  (∀ p o s Γ' H', Step c.U σ Γ H σ Γ' H' → sh Γ' = sh Γ → H p = none → ER c.U (fun a => c.M a ∨ a = p) H' σ Γ' → H' p = some o → Ob (Mx (fun a => c.M a ∨ a = p) σ Γ') H' o s → P s Γ' → Q (.ref p) H') → wpE c.X e σ H Q
/-- several parts, some of them new objects -/
def Ns (c : Co) (es : List Expr) (Γ : Ga) (P : List Sl → Ga → Prop) : Prop := ∀ (σ : Sw) (H : Hw), ER c.U c.M H σ Γ → ∀ (Q : List V → Hw → Prop) (W : WX), Takes c.X W → XW c σ Γ H W →
  (∀ vs ss ps Γ' H', Step c.U σ Γ H σ Γ' H' → sh Γ' = sh Γ → (∀ p ∈ ps, H p = none) → ER c.U (fun a => c.M a ∨ a ∈ ps) H' σ Γ' → Pt (Mx (fun a => c.M a ∨ a ∈ ps) σ Γ') H' vs ss ps → P ss Γ' → Q vs H') → wpA c.X es σ H Q
section
variable {c : Co} {k : Nat} {Γ : Ga} {P : Sl → Ga → Prop} {PL : List Sl → Ga → Prop} {R : Oc} {e a b : Expr} {es : List Expr} {pos p : Pos}
theorem gone {σ : Sw} {H H1 : Hw} {Γ1 : Ga} {p : Addr} (er1 : ER c.U c.M H1 σ Γ1) (st : Step c.U σ Γ H σ Γ1 H1) (es : sh Γ1 = sh Γ) (hn : H1 p = none) : H p = none := by
  cases e0 : H p with
  | none => rfl
  | some o =>
    have nt : ¬ c.U.T p := fun t => er1.kn p (er1.tm p t) hn
    by_cases ow : Ow σ Γ p
    · exact absurd hn (er1.own_ne (ow_sh es ow)).2
    · have z := st.fr p o nt ow e0
      rw [hn] at z
      cases z
theorem Go.newly {σ : Sw} {H H1 : Hw} {Γ1 : Ga} {p : Addr} {o : HO} {s : Sl} (g : Go c σ Γ H Γ1 H1) (hn : H1 p = none) (ob : Ob (Mx c.M σ Γ1) H1 o s) :
    Step c.U σ Γ H σ Γ1 (upd H1 p o) ∧ U.sh Γ1 = U.sh Γ ∧ H p = none ∧ ER c.U (fun a => c.M a ∨ a = p) (upd H1 p o) σ Γ1 ∧ upd H1 p o p = some o ∧ Ob (Mx (fun a => c.M a ∨ a = p) σ Γ1) (upd H1 p o) o s := by
  have gr : Grow H1 (upd H1 p o) := Grow.new hn
  refine ⟨g.st.trans g.er ⟨fun x o _ _ e => gr x o e, fun x h => .inl h⟩, g.sh, gone g.er g.st g.sh hn, g.er.apart hn, upd_same, ob.to ⟨fun x o m e => ⟨gr x o e, fun z => ?_⟩⟩⟩
  rcases z with (z | z) | z
  · exact m (.inl z)
  · rw [z, hn] at e; cases e
  · exact m (.inr z)
theorem nv_lst (h : Av c es Γ fun ds Γ1 => ds.length ≤ 16777216 ∧ P (.own ds) Γ1) : Nv c (.List es pos) Γ P := fun σ H er Q W tk xw q =>
  outE (pe_lst selfA) (h σ H er _ W tk xw fun vs ds Γ1 H1 g r ⟨hl, hp⟩ => ⟨by rw [r.length]; exact sz hl, fun p hn => by
    obtain ⟨a1, a2, a3, a4, a5, a6⟩ := g.newly hn (.lst r)
    exact q p _ _ Γ1 _ a1 a2 a3 a4 a5 a6 hp⟩)
theorem nv_dic (h : P (.ownD []) Γ) : Nv c (.Dict [] [] pos) Γ P := fun σ H er Q W tk xw q =>
  outE pe_dnewK fun p hn => by
    obtain ⟨a1, a2, a3, a4, a5, a6⟩ := (Go.refl er).newly hn (.dic .nil)
    exact q p _ _ Γ _ a1 a2 a3 a4 a5 a6 h
theorem nv_cat (h : Ev c a Γ fun x Γ1 => EvQ c b Γ1 fun y Γ2 => ∃ xs ys, x = .lst xs ∧ y = .lst ys ∧ xs.length + ys.length ≤ 16777216 ∧ P (.own (xs ++ ys)) Γ2) : Nv c (.BinOp a .Add b pos) Γ P := fun σ H er Q W tk xw q =>
  outE (pe_op op_cat selfE selfE) (h σ H er _ W tk xw fun v x Γ1 H1 g1 r1 hb => hb σ H1 g1.er _ W tk (xw.on g1.er g1.st) fun w y Γ2 H2 g2 r2 hz => by
    obtain ⟨xs, ys, rfl, rfl, hl, hp⟩ := hz
    have r1' := Rp.to (g2.goes g1.er) _ _ r1
    cases r1' with
    | lst h1 m1 q1 =>
      obtain ⟨l2, ws, rfl, h2, q2⟩ := r2.lst_
      have g := g1.trans g2
      refine ⟨_, l2, _, ws, rfl, rfl, h1, h2, by rw [q1.length, q2.length]; exact sz hl, fun t ht => ?_⟩
      obtain ⟨a1, a2, a3, a4, a5, a6⟩ := g.newly ht (.lst (q1.app q2))
      exact q t _ _ Γ2 _ a1 a2 a3 a4 a5 a6 hp)
theorem nv_list (hm : c.X.mg "list" = none) (h : EvQ c a Γ fun d Γ1 => ∃ ds, d.items? = some ds ∧ P (.own ds) Γ1) (hg : Gl c.X "list" := by rfl) (hs1 : starEach [a] c.X.env = (false, eval a c.X.env) :: starEach [] c.X.env := by rfl) (hpl : (backTo pos (starEach [] c.X.env)).any (·.1) = false := by rfl) : Nv c (.Call (.Name "list" p) [a] [] pos) Γ P := fun σ H er Q W tk xw q => by
  refine outE (pe_callTy call_list_of hg hm (by decide +kernel) (pa_cons selfE pa_nil hs1) (by decide) (by decide) hs1 hpl) ?_
  refine h σ H er _ W tk xw fun v d Γ1 H1 g r ⟨ds, hd, hp⟩ => ?_
  have items : ∃ p ys, v = .ref p ∧ (SqL c.X.K H1 p ys ∨ SqT c.X.K H1 p ys) ∧ RpA (Mx c.M σ Γ1) H1 ys ds := by
    cases d with
    | lst es => cases hd; obtain ⟨a, xs, e1, e2, e3⟩ := r.lst_; exact ⟨a, xs, e1, .inl (sql_of e2), e3⟩
    | tup es => cases hd; obtain ⟨a, xs, e1, e2, _, e3⟩ := r.tup_; exact ⟨a, xs, e1, .inr (sqt_of e2), e3⟩
    | non => cases hd
    | bl _ => cases hd
    | int _ => cases hd
    | str _ => cases hd
    | dic _ => cases hd
    | ad _ => cases hd
  obtain ⟨p0, ys, rfl, hq, ra⟩ := items
  refine ⟨p0, ys, rfl, hq, fun l hl' => ?_⟩
  obtain ⟨a1, a2, a3, a4, a5, a6⟩ := g.newly hl' (.lst ra)
  exact q l _ _ Γ1 _ a1 a2 a3 a4 a5 a6 hp
theorem nv_rep (h : Ev c a Γ fun x Γ1 => EvQ c b Γ1 fun y Γ2 => ∃ xs i, x = .lst xs ∧ y = .int i ∧ (-(2 ^ 60) ≤ i ∧ i < 2 ^ 60 ∧ xs.length * i.toNat ≤ 16777216) ∧ P (.own (List.replicate i.toNat xs).flatten) Γ2) : Nv c (.BinOp a .Mult b pos) Γ P := fun σ H er Q W tk xw q =>
  outE (pe_op op_rep selfE selfE) (h σ H er _ W tk xw fun v x Γ1 H1 g1 r1 hb => hb σ H1 g1.er _ W tk (xw.on g1.er g1.st) fun w y Γ2 H2 g2 r2 hz => by
    obtain ⟨xs, i, rfl, rfl, ⟨h1, h2, h3⟩, hp⟩ := hz
    cases r2.int_
    have r1' := Rp.to (g2.goes g1.er) _ _ r1
    cases r1' with
    | lst hh m1 q1 =>
      have g := g1.trans g2
      refine ⟨_, i, _, rfl, rfl, hh, by omega, by omega, by rw [q1.length]; exact sz h3, fun t ht => ?_⟩
      obtain ⟨a1, a2, a3, a4, a5, a6⟩ := g.newly ht (.lst (q1.rep i.toNat))
      exact q t _ _ Γ2 _ a1 a2 a3 a4 a5 a6 hp)
theorem ns_nil (h : PL [] Γ) : Ns c [] Γ PL := fun σ H er Q W tk xw q => outA pa_nil (q [] [] [] Γ H .refl rfl (fun _ h => by cases h) (by
  have e : (fun a => c.M a ∨ a ∈ ([] : List Addr)) = c.M := by funext a; simp
  rw [e]; exact er) .nil h)
theorem ns_dat (h : Ev c a Γ fun d Γ1 => Ns c es Γ1 fun ss Γ2 => PL (.dat d :: ss) Γ2) (hs : starEach (a :: es) c.X.env = (false, eval a c.X.env) :: starEach es c.X.env := by rfl) : Ns c (a :: es) Γ PL := fun σ H er Q W tk xw q =>
  outA (pa_cons selfE selfA hs) (h σ H er _ W tk xw fun v d Γ1 H1 g r hp => hp σ H1 g.er _ W tk (xw.on g.er g.st) fun vs ss ps Γ2 H2 st sh2 hn er2 pt hp2 => by
    have hn0 : ∀ p ∈ ps, H p = none := fun p hp => gone g.er g.st g.sh (hn p hp)
    refine q (v :: vs) (.dat d :: ss) ps Γ2 H2 (g.st.trans g.er st) (sh2.trans g.sh) hn0 er2 (.dat (Rp.to (st.goesM g.er fun a z => ?_) _ _ r) pt) hp2
    exact z.imp id fun y => hn a y)
theorem ns_new (h : Nv c a Γ fun s Γ1 => ∀ p, Ns (c.apart p) es Γ1 fun ss Γ2 => PL (s :: ss) Γ2) (hs : starEach (a :: es) c.X.env = (false, eval a c.X.env) :: starEach es c.X.env := by rfl) : Ns c (a :: es) Γ PL := fun σ H er Q W tk xw q =>
  outA (pa_cons selfE selfA hs) (h σ H er _ W tk xw fun p o s Γ1 H1 st sh1 hp0 er1 hp1 ob hp => (hp p) σ H1 er1 _ W tk ((xw.apart er.tm p).on er1 st) fun vs ss ps Γ2 H2 st2 sh2 hn er2 pt hp2 => by
    have em : (fun a => (c.M a ∨ a = p) ∨ a ∈ ps) = fun a => c.M a ∨ a ∈ p :: ps := by funext a; simp [or_assoc]
    have er2' : ER c.U (fun a => c.M a ∨ a ∈ p :: ps) H2 σ Γ2 := by rw [← em]; exact er2
    have hn0 : ∀ x ∈ p :: ps, H x = none := fun x hx => by
      rcases List.mem_cons.mp hx with rfl | hx
      · exact hp0
      · exact gone (er1.subM er.tm fun a h => .inl h) st sh1 (hn x hx)
    have np : ¬ c.U.T p := fun t => er.kn p (er.tm p t) hp0
    have no : ¬ Ow σ Γ1 p := fun z => (er1.own_ne z).1 (.inr rfl)
    have hp2' : H2 p = some o := st2.fr p o np no hp1
    have g2 : Goes (Mx (fun a => c.M a ∨ a = p) σ Γ1) (Mx (fun a => (c.M a ∨ a = p) ∨ a ∈ ps) σ Γ2) H1 H2 := st2.goesM er1 fun a z => z.imp id fun y => hn a y
    have pn : p ∉ ps := fun z => by have := hn p z; rw [hp1] at this; cases this
    refine q (.ref p :: vs) (s :: ss) (p :: ps) Γ2 H2 (st.trans (er1.subM er.tm fun a h => .inl h) st2) (sh2.trans sh1) hn0 er2' ?_ hp2
    rw [← em]
    exact .new hp2' (ob.to g2) pn pt)
/-- x = e, a new object -/
theorem s1_setN (bd : Bd c k) {x : Str} {pos' : Pos} (i : Nat) (hi : c.X.N[i]? = some x) (hx : Loc c.X.env.scope x) (h : Nv c e Γ fun s Γ1 => i < Γ1.length ∧ R.nx (Γ1.set i s))
    (hs : swapsWith e (some (.Name x pos')) pos.line c.X.env = pure false := by rfl) (hf : c.X.fn x = true ∨ c.X.env.scope.names.lookup x = some .local := by first | exact .inl rfl | exact .inr rfl) : S1 c (.Assign [.Name x pos'] e pos) Γ R := fun σ H er W Dd tk k =>
  outS (ps_set bd.nd hi hx selfE hs hf) (h σ H er _ W tk k.xw fun p o s Γ1 H1 st sh1 hp0 er1 hp1 ob ⟨hl, hp⟩ => by
    obtain ⟨r2, g2, o2⟩ := er1.take (M0 := c.M) i hl hp1 ob (fun z => er.kn p z hp0) (fun a z => z) (fun a z => .inl z) (.inr rfl) er.tm
    exact k.nx _ _ _ ⟨st.fr, fun a z => (o2 a z).elim (st.og a) fun y => .inr (by rw [y]; exact hp0)⟩ r2 hp)
/-- x, y = .. and x, y, z = .., plain local names -/
theorem parts_nx {σ : Sw} {H H' : Hw} {Γ1 : Ga} {W : WX} {Dd : Ends} {vs : List V} {ss : List Sl} {ps : List Addr} {is : List Nat} (er : ER c.U c.M H σ Γ) (kk : Ends' c σ Γ H R W Dd) (st : Step c.U σ Γ H σ Γ1 H') (hn : ∀ p ∈ ps, H p = none) (er2 : ER c.U (fun a => c.M a ∨ a ∈ ps) H' σ Γ1) (pt : Pt (Mx (fun a => c.M a ∨ a ∈ ps) σ Γ1) H' vs ss ps)
    (hl : ∀ i ∈ is, i < Γ1.length) (hz : is.length = vs.length) (hp : R.nx (setG is ss Γ1)) : Dd.nx (setV is vs σ) H' := by
  obtain ⟨r2, o2⟩ := parts_set er.tm er2 pt (fun p hp z => er.kn p z (hn p hp)) hl hz
  exact kk.nx _ _ _ ⟨st.fr, fun a z => (o2 a z).elim (st.og a) fun y => .inr (hn a y)⟩ r2 hp
theorem Pt.lens {M : Ex} {H : Hw} {vs : List V} {ss : List Sl} {ps : List Addr} (h : Pt M H vs ss ps) : vs.length = ss.length := by
  induction h with
  | nil => rfl
  | dat _ _ ih => simp [ih]
  | new _ _ _ _ ih => simp [ih]
theorem s1_parN2 {x y : Str} {px py pt : Pos} {kt k2 : Nat} {pt2 : Pos} (bd : Bd c k) (i j : Nat) (hi : c.X.N[i]? = some x) (hj : c.X.N[j]? = some y) (hij : i ≠ j) (hx : c.X.env.scope.names.lookup x = some .local) (hy : c.X.env.scope.names.lookup y = some .local)
    (h : Ns c [a, b] Γ fun ss Γ1 => ss.length = 2 ∧ i < Γ1.length ∧ j < Γ1.length ∧ R.nx (setG [i, j] ss Γ1))
    (hw : swappedStores [.Tuple [.Name x px, .Name y py] kt pt] (.Tuple [a, b] k2 pt2) c.X.env = pure (some [x, y]))
    (hs : swapsWithSole [.Tuple [.Name x px, .Name y py] kt pt] (.Tuple [a, b] k2 pt2) pos.line c.X.env = pure false := by rfl) :
    S1 c (.Assign [.Tuple [.Name x px, .Name y py] kt pt] (.Tuple [a, b] k2 pt2) pos) Γ R := fun σ H er W Dd tk k =>
  outS (ps_par bd.calm bd.nd hi hj hij hx hy selfA hw hs) (h σ H er _ W tk k.xw fun vs ss ps Γ1 H1 st sh1 hn er2 pt hp => by
    obtain ⟨h2, l1, l2, hp⟩ := hp
    have hz := pt.lens
    match vs, hz, pt with
    | [v, w], _, pt => exact ⟨v, w, rfl, parts_nx er k st hn er2 pt (fun m hm => by
        simp only [List.mem_cons, List.not_mem_nil, or_false] at hm
        rcases hm with rfl | rfl <;> assumption) rfl hp⟩
    | [], hz, _ => rw [h2] at hz; cases hz
    | [_], hz, _ => rw [h2] at hz; cases hz
    | _ :: _ :: _ :: _, hz, _ => rw [h2] at hz; simp at hz)
theorem s1_parN3 {x y z : Str} {px py pz pt : Pos} {kt k2 : Nat} {pt2 : Pos} {c3 : Expr} (bd : Bd c k) (i j l : Nat) (hi : c.X.N[i]? = some x) (hj : c.X.N[j]? = some y) (hl : c.X.N[l]? = some z) (hij : i ≠ j) (hil : i ≠ l) (hjl : j ≠ l) (hx : c.X.env.scope.names.lookup x = some .local) (hy : c.X.env.scope.names.lookup y = some .local) (hz0 : c.X.env.scope.names.lookup z = some .local)
    (h : Ns c [a, b, c3] Γ fun ss Γ1 => ss.length = 3 ∧ i < Γ1.length ∧ j < Γ1.length ∧ l < Γ1.length ∧ R.nx (setG [i, j, l] ss Γ1))
    (hw : swappedStores [.Tuple [.Name x px, .Name y py, .Name z pz] kt pt] (.Tuple [a, b, c3] k2 pt2) c.X.env = pure (some [x, y, z]))
    (hs : swapsWithSole [.Tuple [.Name x px, .Name y py, .Name z pz] kt pt] (.Tuple [a, b, c3] k2 pt2) pos.line c.X.env = pure false := by rfl) :
    S1 c (.Assign [.Tuple [.Name x px, .Name y py, .Name z pz] kt pt] (.Tuple [a, b, c3] k2 pt2) pos) Γ R := fun σ H er W Dd tk k =>
  outS (ps_par3 bd.calm bd.nd hi hj hl hij hil hjl hx hy hz0 selfA hw hs) (h σ H er _ W tk k.xw fun vs ss ps Γ1 H1 st sh1 hn er2 pt hp => by
    obtain ⟨h2, l1, l2, l3, hp⟩ := hp
    have hz := pt.lens
    match vs, hz, pt with
    | [v, w, u], _, pt => exact ⟨v, w, u, rfl, parts_nx er k st hn er2 pt (fun m hm => by
        simp only [List.mem_cons, List.not_mem_nil, or_false] at hm
        rcases hm with rfl | rfl | rfl <;> assumption) rfl hp⟩
    | [], hz, _ => rw [h2] at hz; cases hz
    | [_], hz, _ => rw [h2] at hz; cases hz
    | [_, _], hz, _ => rw [h2] at hz; cases hz
    | _ :: _ :: _ :: _ :: _, hz, _ => rw [h2] at hz; simp at hz)
/-- the same by way of a tuple (a name among them is a cell) -/
theorem s1_asgN2 {x y : Str} {px py pt : Pos} {kt k2 : Nat} {pt2 : Pos} (bd : Bd c k) (i j : Nat) (hi : c.X.N[i]? = some x) (hj : c.X.N[j]? = some y) (hx : Loc c.X.env.scope x) (hy : Loc c.X.env.scope y)
    (h : Ns c [a, b] Γ fun ss Γ1 => ss.length = 2 ∧ i < Γ1.length ∧ j < Γ1.length ∧ R.nx (setG [i, j] ss Γ1))
    (hs : swapsWithSole [.Tuple [.Name x px, .Name y py] kt pt] (.Tuple [a, b] k2 pt2) pos.line c.X.env = pure false := by rfl) (hw : swappedStores [.Tuple [.Name x px, .Name y py] kt pt] (.Tuple [a, b] k2 pt2) c.X.env = pure none := by rfl) (h1 : (assignEach [.Tuple [.Name x px, .Name y py] kt pt] c.X.env).map (·.2) = [assign (.Tuple [.Name x px, .Name y py] kt pt) c.X.env] := by rfl)
    (hf : c.X.fn x = true ∨ c.X.env.scope.names.lookup x = some .local := by first | exact .inl rfl | exact .inr rfl) (hf2 : c.X.fn y = true ∨ c.X.env.scope.names.lookup y = some .local := by first | exact .inl rfl | exact .inr rfl) :
    S1 c (.Assign [.Tuple [.Name x px, .Name y py] kt pt] (.Tuple [a, b] k2 pt2) pos) Γ R := fun σ H er W Dd tk k =>
  outS (ps_asg (pe_tup selfA) (pg_tup bd.calm (pgs_cons (pg_name bd.nd hi hx hf) (pgs_cons (pg_name bd.nd hj hy hf2) pgs_nil))) hs hw h1) (h σ H er _ W tk k.xw fun vs ss ps Γ1 H1 st sh1 hn er2 pt hp => by
    obtain ⟨h2, l1, l2, hp⟩ := hp
    have hz := pt.lens
    refine ⟨by rw [hz, h2]; decide, fun t ht => ?_⟩
    have gr : Grow H1 (upd H1 t (.tup vs)) := Grow.new ht
    have er3 := er2.grow gr
    have pt3 := pt.to gr.goes fun p _ o e => gr p o e
    have st3 : Step c.U σ Γ H σ Γ1 (upd H1 t (.tup vs)) := ⟨fun a o n1 n2 e => gr a o (st.fr a o n1 n2 e), st.og⟩
    match vs, hz, pt3 with
    | [v, w], _, pt => exact ⟨t, [v, w], rfl, (.inl (.inl upd_same)), rfl, v, [w], rfl, w, [], rfl, rfl, parts_nx er k st3 hn er3 pt (is := [i, j]) (fun m hm => by
        simp only [List.mem_cons, List.not_mem_nil, or_false] at hm
        rcases hm with rfl | rfl <;> assumption) rfl hp⟩
    | [], hz, _ => rw [h2] at hz; cases hz
    | [_], hz, _ => rw [h2] at hz; cases hz
    | _ :: _ :: _ :: _, hz, _ => rw [h2] at hz; simp at hz)
theorem s1_asgN3 {x y z : Str} {px py pz pt : Pos} {kt k2 : Nat} {pt2 : Pos} {c3 : Expr} (bd : Bd c k) (i j l : Nat) (hi : c.X.N[i]? = some x) (hj : c.X.N[j]? = some y) (hl : c.X.N[l]? = some z) (hx : Loc c.X.env.scope x) (hy : Loc c.X.env.scope y) (hz0 : Loc c.X.env.scope z)
    (h : Ns c [a, b, c3] Γ fun ss Γ1 => ss.length = 3 ∧ i < Γ1.length ∧ j < Γ1.length ∧ l < Γ1.length ∧ R.nx (setG [i, j, l] ss Γ1))
    (hs : swapsWithSole [.Tuple [.Name x px, .Name y py, .Name z pz] kt pt] (.Tuple [a, b, c3] k2 pt2) pos.line c.X.env = pure false := by rfl) (hw : swappedStores [.Tuple [.Name x px, .Name y py, .Name z pz] kt pt] (.Tuple [a, b, c3] k2 pt2) c.X.env = pure none := by rfl) (h1 : (assignEach [.Tuple [.Name x px, .Name y py, .Name z pz] kt pt] c.X.env).map (·.2) = [assign (.Tuple [.Name x px, .Name y py, .Name z pz] kt pt) c.X.env] := by rfl)
    (hf : c.X.fn x = true ∨ c.X.env.scope.names.lookup x = some .local := by first | exact .inl rfl | exact .inr rfl) (hf2 : c.X.fn y = true ∨ c.X.env.scope.names.lookup y = some .local := by first | exact .inl rfl | exact .inr rfl) (hf3 : c.X.fn z = true ∨ c.X.env.scope.names.lookup z = some .local := by first | exact .inl rfl | exact .inr rfl) :
    S1 c (.Assign [.Tuple [.Name x px, .Name y py, .Name z pz] kt pt] (.Tuple [a, b, c3] k2 pt2) pos) Γ R := fun σ H er W Dd tk k =>
  outS (ps_asg (pe_tup selfA) (pg_tup bd.calm (pgs_cons (pg_name bd.nd hi hx hf) (pgs_cons (pg_name bd.nd hj hy hf2) (pgs_cons (pg_name bd.nd hl hz0 hf3) pgs_nil)))) hs hw h1) (h σ H er _ W tk k.xw fun vs ss ps Γ1 H1 st sh1 hn er2 pt hp => by
    obtain ⟨h2, l1, l2, l3, hp⟩ := hp
    have hz := pt.lens
    refine ⟨by rw [hz, h2]; decide, fun t ht => ?_⟩
    have gr : Grow H1 (upd H1 t (.tup vs)) := Grow.new ht
    have er3 := er2.grow gr
    have pt3 := pt.to gr.goes fun p _ o e => gr p o e
    have st3 : Step c.U σ Γ H σ Γ1 (upd H1 t (.tup vs)) := ⟨fun a o n1 n2 e => gr a o (st.fr a o n1 n2 e), st.og⟩
    match vs, hz, pt3 with
    | [v, w, u], _, pt => exact ⟨t, [v, w, u], rfl, (.inl (.inl upd_same)), rfl, v, [w, u], rfl, w, [u], rfl, u, [], rfl, rfl, parts_nx er k st3 hn er3 pt (is := [i, j, l]) (fun m hm => by
        simp only [List.mem_cons, List.not_mem_nil, or_false] at hm
        rcases hm with rfl | rfl | rfl <;> assumption) rfl hp⟩
    | [], hz, _ => rw [h2] at hz; cases hz
    | [_], hz, _ => rw [h2] at hz; cases hz
    | [_, _], hz, _ => rw [h2] at hz; cases hz
    | _ :: _ :: _ :: _ :: _, hz, _ => rw [h2] at hz; simp at hz)
end
end U
/-! W4: readings of statements. -/
namespace U
open PySem PySem.Spec PyProof.Rows L2
abbrev WN := Ga → (Sl → Ga → Prop) → Prop
abbrev WP := Ga → (List Sl → Ga → Prop) → Prop
structure SN (c : Co) (e : Expr) (w : WN) : Prop where
  run : ∀ {Γ : Ga} {P : Sl → Ga → Prop}, w Γ P → Nv c e Γ P
structure SP (c : Co) (es : List Expr) (w : WP) : Prop where
  run : ∀ {Γ : Ga} {P : List Sl → Ga → Prop}, w Γ P → Ns c es Γ P
def wnLst (a : WL) : WN := fun Γ P => a Γ fun ds Γ1 => ds.length ≤ 16777216 ∧ P (.own ds) Γ1
def wnDic : WN := fun Γ P => P (.ownD []) Γ
def oLCat : D → D → (List D → Prop) → Prop
  | .lst xs, .lst ys, P => xs.length + ys.length ≤ 16777216 ∧ P (xs ++ ys)
  | _, _, _ => False
def wnCat (a b : WE) : WN := fun Γ P => a Γ fun x Γ1 => b Γ1 fun y Γ2 => oLCat x y fun zs => P (.own zs) Γ2
def oLRep : D → D → (List D → Prop) → Prop
  | .lst xs, .int i, P => -(2 ^ 60) ≤ i ∧ i < 2 ^ 60 ∧ xs.length * i.toNat ≤ 16777216 ∧ P (List.replicate i.toNat xs).flatten
  | _, _, _ => False
def wnRep (a b : WE) : WN := fun Γ P => a Γ fun x Γ1 => b Γ1 fun y Γ2 => oLRep x y fun zs => P (.own zs) Γ2
def oLst : D → (List D → Prop) → Prop
  | .lst ds, P => P ds
  | _, _ => False
def oTup : D → (List D → Prop) → Prop
  | .tup ds, P => P ds
  | _, _ => False
theorem oLst_of {d : D} {P : List D → Prop} (h : oLst d P) : ∃ xs, d = .lst xs ∧ P xs := by
  unfold oLst at h
  split at h
  · exact ⟨_, rfl, h⟩
  · exact h.elim
theorem oTup_of {d : D} {P : List D → Prop} (h : oTup d P) : ∃ xs, d = .tup xs ∧ P xs := by
  unfold oTup at h
  split at h
  · exact ⟨_, rfl, h⟩
  · exact h.elim
def wnList (a : WE) : WN := fun Γ P => a Γ fun x Γ1 => oItems x fun ds => P (.own ds) Γ1
def wpNil : WP := fun Γ P => P [] Γ
def wpDat (a : WE) (b : WP) : WP := fun Γ P => a Γ fun d Γ1 => b Γ1 fun ss Γ2 => P (.dat d :: ss) Γ2
def wpNew (a : WN) (b : WP) : WP := fun Γ P => a Γ fun s Γ1 => b Γ1 fun ss Γ2 => P (s :: ss) Γ2
/-! statements -/
def wNil : WS := fun Γ R => R.nx Γ
def wSeq (s t : WS) : WS := fun Γ R => s Γ { R with nx := fun Γ1 => t Γ1 R }
def wMid (s t : WS) : WS := fun Γ R => ∃ N : Ga → Prop, s Γ { R with nx := N } ∧ ∀ Γ1, N Γ1 → t Γ1 R
def wSet (i : Nat) (a : WE) : WS := fun Γ R => i < Γ.length ∧ a Γ fun d Γ1 => R.nx (Γ1.set i (.dat d))
def wSetN (i : Nat) (a : WN) : WS := fun Γ R => a Γ fun s Γ1 => i < Γ1.length ∧ R.nx (Γ1.set i s)
def wPar2 (i j : Nat) (a : WP) : WS := fun Γ R => a Γ fun ss Γ1 => ss.length = 2 ∧ i < Γ1.length ∧ j < Γ1.length ∧ R.nx (setG [i, j] ss Γ1)
def wPar3 (i j l : Nat) (a : WP) : WS := fun Γ R => a Γ fun ss Γ1 => ss.length = 3 ∧ i < Γ1.length ∧ j < Γ1.length ∧ l < Γ1.length ∧ R.nx (setG [i, j, l] ss Γ1)
def wRet (a : WE) : WS := fun Γ R => a Γ fun d _ => R.rt d
def wRetV (i : Nat) : WS := fun Γ R => match Γ[i]? with
  | some (.own ds) => R.rt (.lst ds)
  | some (.dat d) => R.rt d
  | _ => False
def wRetN : WS := fun _ R => R.rt .non
def wPass : WS := fun Γ R => R.nx Γ
def wBreak : WS := fun Γ R => R.bk Γ
def wCont : WS := fun Γ R => R.ct Γ
def wExpr (a : WE) : WS := fun Γ R => a Γ fun _ Γ1 => R.nx Γ1
def wIf (t : WT) (a b : WS) : WS := fun Γ R => t Γ fun q Γ1 => (q = true → a Γ1 R) ∧ (q = false → b Γ1 R)
def wWhile (t : WT) (b : WS) : WS := fun Γ R => ∃ (I : Nat → Ga → Prop) (m0 : Nat), I m0 Γ ∧ ∀ m Γ1, I m Γ1 → t Γ1 fun q Γ2 => (q = true → b Γ2 { nx := fun Γ3 => ∃ m', m' < m ∧ I m' Γ3, ct := fun Γ3 => ∃ m', m' < m ∧ I m' Γ3, bk := R.nx, rt := R.rt }) ∧ (q = false → R.nx Γ2)
def wFor (i : WL) (g : WG) (b : WS) : WS := fun Γ R => i Γ fun xs Γ1 => ∃ I : Nat → Ga → Prop, I 0 Γ1 ∧ (∀ i x Γ2, xs[i]? = some x → I i Γ2 → g Γ2 x fun Γ3 => b Γ3 { nx := I (i + 1), ct := I (i + 1), bk := R.nx, rt := R.rt }) ∧ ∀ Γ2, I xs.length Γ2 → R.nx Γ2
def isOwn (i : Nat) (Γ : Ga) : Prop := match Γ[i]? with
  | some (.own _) => True
  | _ => False
def wAppend (i : Nat) (a : WE) : WS := fun Γ R => isOwn i Γ ∧ a Γ fun d Γ1 => match Γ1[i]? with
  | some (.own ds) => ds.length < 16777216 ∧ R.nx (Γ1.set i (.own (ds ++ [d])))
  | _ => False
def wPopAt (i : Nat) (a : WE) : WE := fun Γ P => isOwn i Γ ∧ a Γ fun d Γ1 => oInt d fun n => match Γ1[i]? with
  | some (.own ds) => ∃ kk v, (-(2 ^ 60) ≤ n ∧ n < 2 ^ 60) ∧ seqIndex? n ds.length = some kk ∧ ds[kk]? = some v ∧ P v (Γ1.set i (.own (ds.eraseIdx kk)))
  | _ => False
/-! targets -/
def wgName (i : Nat) : WG := fun Γ d P => i < Γ.length ∧ P (Γ.set i (.dat d))
def oTwo : D → (D → D → Prop) → Prop
  | .tup [x, y], P => P x y
  | _, _ => False
def wgTwo (i j : Nat) : WG := fun Γ d P => i < Γ.length ∧ j < Γ.length ∧ oTwo d fun x y => P ((Γ.set i (.dat x)).set j (.dat y))
def oThree : D → (D → D → D → Prop) → Prop
  | .tup [x, y, z], P => P x y z
  | _, _ => False
def wgThree (i j l : Nat) : WG := fun Γ d P => i < Γ.length ∧ j < Γ.length ∧ l < Γ.length ∧ oThree d fun x y z => P (((Γ.set i (.dat x)).set j (.dat y)).set l (.dat z))
/-- unpacking: target = e -/
def wAsg (a : WE) (g : WG) : WS := fun Γ R => a Γ fun d Γ1 => g Γ1 d R.nx
/-! walks -/
def wiLst (a : WE) : WL := fun Γ P => a Γ fun d Γ1 => oLst d fun xs => P xs Γ1
def wiTup (a : WE) : WL := fun Γ P => a Γ fun d Γ1 => oTup d fun xs => P xs Γ1
def wiR1 (a : WE) : WL := fun Γ P => a Γ fun d Γ1 => oInt d fun n => n < 2 ^ 60 ∧ -(2 ^ 60) ≤ n ∧ P (rangeD 0 n.toNat) Γ1
def wiR2 (a b : WE) : WL := fun Γ P => a Γ fun d Γ1 => oInt d fun lo => b Γ1 fun d2 Γ2 => oInt d2 fun n => (-(2 ^ 60) ≤ lo ∧ lo < 2 ^ 60 ∧ n < 2 ^ 60 ∧ -(2 ^ 60) ≤ n) ∧ P (rangeD lo (n - lo).toNat) Γ2
def wiEnumL (a : WE) : WL := fun Γ P => a Γ fun d Γ1 => oLst d fun xs => P (enumD xs) Γ1
def wiEnumT (a : WE) : WL := fun Γ P => a Γ fun d Γ1 => oTup d fun xs => P (enumD xs) Γ1
def oTwoL : List D → (List D → List D → Prop) → Prop
  | [.lst xs, .lst ys], P => P xs ys
  | _, _ => False
def wiZipL (a : WL) : WL := fun Γ P => a Γ fun ds Γ1 => oTwoL ds fun xs ys => P (zipD xs ys) Γ1
/-! comprehensions -/
def calm : List Nat → Ga → Prop
  | [], _ => True
  | m :: ms, Γ => (match Γ[m]? with | some (.own _) => False | some (.ownD _) => False | _ => True) ∧ calm ms Γ
def wLc (vs : List Nat) (i : WL) (g : WG) (e : WE) : WE := fun Γ P => i Γ fun xs Γ1 => xs.length ≤ 1000000 ∧ calm vs Γ1 ∧ ∃ R : D → D → Prop, (∀ x ∈ xs, g (unset vs Γ1) x fun Γ2 => e Γ2 fun y Γ4 => Γ4 = Γ2 ∧ R x y) ∧ ∀ ys, All2 R xs ys → P (.lst ys) Γ1
def wLcF (vs : List Nat) (i : WL) (g : WG) (t : WT) (e : WE) : WE := fun Γ P => i Γ fun xs Γ1 => xs.length ≤ 1000000 ∧ calm vs Γ1 ∧ ∃ I : Nat → List D → Prop, I 0 [] ∧
  (∀ i x acc, xs[i]? = some x → I i acc → acc.length ≤ i → g (unset vs Γ1) x fun Γ2 => t Γ2 fun b Γ3 => Γ3 = Γ2 ∧ (b = true → e Γ2 fun y Γ4 => Γ4 = Γ2 ∧ I (i + 1) (acc ++ [y])) ∧ (b = false → I (i + 1) acc)) ∧ ∀ acc, I xs.length acc → P (.lst acc) Γ1
theorem oItems_of {d : D} {P : List D → Prop} (h : oItems d P) : ∃ ds, d.items? = some ds ∧ P ds := by
  unfold oItems at h
  split at h
  · exact ⟨_, rfl, h⟩
  · exact ⟨_, rfl, h⟩
  · exact h.elim
theorem calm_of {Γ : Ga} : ∀ {vs : List Nat}, calm vs Γ → ∀ m ∈ vs, ∀ s, Γ[m]? = some s → s.mine = false
  | [], _, _, h, _, _ => by cases h
  | v :: vs, h, m, hm, s, hs => by
    rcases List.mem_cons.mp hm with rfl | hm
    · have h1 := h.1
      rw [hs] at h1
      cases s with
      | own _ => exact h1.elim
      | ownD _ => exact h1.elim
      | _ => rfl
    · exact calm_of h.2 m hm s hs
section
variable {c : Co} {k : Nat} {e a b : Expr} {es : List Expr} {kws : List Keyword} {st : Stmt} {sts ss ts : List Stmt} {pos p : Pos} {wa wb we : WE} {ta tb : WT} {wl : WL} {wn : WN} {wp : WP} {w1 w2 : WS} {wg : WG}
theorem sn_lst (h : SA c es wl) : SN c (.List es pos) (wnLst wl) := ⟨fun w => nv_lst (h.run w)⟩
theorem sn_dic : SN c (.Dict [] [] pos) wnDic := ⟨fun w => nv_dic w⟩
theorem sn_cat (ha : SE c a wa) (hb : SQ c b wb) : SN c (.BinOp a .Add b pos) (wnCat wa wb) := ⟨fun w => nv_cat (ev_mono (ha.run w) fun x Γ1 w => eq_mono (hb.run w) fun y Γ2 h => by
  unfold oLCat at h
  split at h
  · exact ⟨_, _, rfl, rfl, h⟩
  · exact h.elim)⟩
theorem sn_rep (ha : SE c a wa) (hb : SQ c b wb) : SN c (.BinOp a .Mult b pos) (wnRep wa wb) := ⟨fun w => nv_rep (ev_mono (ha.run w) fun x Γ1 w => eq_mono (hb.run w) fun y Γ2 h => by
  unfold oLRep at h
  split at h
  · exact ⟨_, _, rfl, rfl, ⟨h.1, h.2.1, h.2.2.1⟩, h.2.2.2⟩
  · exact h.elim)⟩
theorem sn_list (hm : c.X.mg "list" = none) (ha : SQ c a wa) (hg : Gl c.X "list" := by rfl) (hs1 : starEach [a] c.X.env = (false, eval a c.X.env) :: starEach [] c.X.env := by rfl) (hpl : (backTo pos (starEach [] c.X.env)).any (·.1) = false := by rfl) : SN c (.Call (.Name "list" p) [a] [] pos) (wnList wa) :=
  ⟨fun w => nv_list hm (eq_mono (ha.run w) fun d _ h => oItems_of h) hg hs1 hpl⟩
theorem sp_nil : SP c [] wpNil := ⟨fun w => ns_nil w⟩
theorem sp_dat (ha : SE c a wa) (h : SP c es wp) (hs : starEach (a :: es) c.X.env = (false, eval a c.X.env) :: starEach es c.X.env := by rfl) : SP c (a :: es) (wpDat wa wp) := ⟨fun w => ns_dat (ev_mono (ha.run w) fun d Γ1 w => h.run w) hs⟩
theorem nv_mono {Γ : Ga} {P P' : Sl → Ga → Prop} (h : Nv c e Γ P) (k : ∀ s Γ', P s Γ' → P' s Γ') : Nv c e Γ P' := fun σ H er Q W tk xw q => h σ H er Q W tk xw fun p o s Γ' H' a1 a2 a3 a4 a5 a6 hp => q p o s Γ' H' a1 a2 a3 a4 a5 a6 (k _ _ hp)
theorem ns_mono {Γ : Ga} {P P' : List Sl → Ga → Prop} (h : Ns c es Γ P) (k : ∀ s Γ', P s Γ' → P' s Γ') : Ns c es Γ P' := fun σ H er Q W tk xw q => h σ H er Q W tk xw fun vs s ps Γ' H' a1 a2 a3 a4 a5 hp => q vs s ps Γ' H' a1 a2 a3 a4 a5 (k _ _ hp)
theorem sp_new (bd : Bd c k) (ha : SN c a wn) (h : ∀ p, Bd (c.apart p) k → SP (c.apart p) es wp) (hs : starEach (a :: es) c.X.env = (false, eval a c.X.env) :: starEach es c.X.env := by rfl) : SP c (a :: es) (wpNew wn wp) := ⟨fun w => ns_new (nv_mono (ha.run w) fun d Γ1 w p => (h p (bd.apart p)).run w) hs⟩
/-! ### statements -/
theorem sb_nil : SB c [] wNil := ⟨fun w => sv_nil w⟩
theorem sb_cons (h : SS c st w1) (h2 : SB c sts w2) : SB c (st :: sts) (wSeq w1 w2) := ⟨fun w => sv_cons (s1_mono (h.run w) (fun Γ1 w => h2.run w) (fun _ h => h) (fun _ h => h) fun _ h => h)⟩
theorem sb_mid (h : SS c st w1) (h2 : SB c sts w2) : SB c (st :: sts) (wMid w1 w2) := ⟨fun ⟨N, w, w'⟩ => sv_mid N (h.run w) fun Γ1 hn => h2.run (w' Γ1 hn)⟩
theorem ss_set (bd : Bd c k) {x : Str} {pos' : Pos} (i : Nat) (hi : c.X.N[i]? = some x) (hx : Loc c.X.env.scope x) (ha : SE c e we)
    (hs : swapsWith e (some (.Name x pos')) pos.line c.X.env = pure false := by rfl) (hf : c.X.fn x = true ∨ c.X.env.scope.names.lookup x = some .local := by first | exact .inl rfl | exact .inr rfl) : SS c (.Assign [.Name x pos'] e pos) (wSet i we) := ⟨fun w => s1_set bd i hi hx w.1 (ha.run w.2) hs hf⟩
theorem ss_setN (bd : Bd c k) {x : Str} {pos' : Pos} (i : Nat) (hi : c.X.N[i]? = some x) (hx : Loc c.X.env.scope x) (ha : SN c e wn)
    (hs : swapsWith e (some (.Name x pos')) pos.line c.X.env = pure false := by rfl) (hf : c.X.fn x = true ∨ c.X.env.scope.names.lookup x = some .local := by first | exact .inl rfl | exact .inr rfl) : SS c (.Assign [.Name x pos'] e pos) (wSetN i wn) := ⟨fun w => s1_setN bd i hi hx (ha.run w) hs hf⟩
theorem ss_par2 {x y : Str} {px py pt : Pos} {kt k2 : Nat} {pt2 : Pos} (bd : Bd c k) (i j : Nat) (hi : c.X.N[i]? = some x) (hj : c.X.N[j]? = some y) (hij : i ≠ j) (hx : c.X.env.scope.names.lookup x = some .local) (hy : c.X.env.scope.names.lookup y = some .local) (h : SP c [a, b] wp)
    (hw : swappedStores [.Tuple [.Name x px, .Name y py] kt pt] (.Tuple [a, b] k2 pt2) c.X.env = pure (some [x, y]) := by rfl)
    (hs : swapsWithSole [.Tuple [.Name x px, .Name y py] kt pt] (.Tuple [a, b] k2 pt2) pos.line c.X.env = pure false := by rfl) :
    SS c (.Assign [.Tuple [.Name x px, .Name y py] kt pt] (.Tuple [a, b] k2 pt2) pos) (wPar2 i j wp) := ⟨fun w => s1_parN2 bd i j hi hj hij hx hy (h.run w) hw hs⟩
theorem ss_par3 {x y z : Str} {px py pz pt : Pos} {kt k2 : Nat} {pt2 : Pos} {c3 : Expr} (bd : Bd c k) (i j l : Nat) (hi : c.X.N[i]? = some x) (hj : c.X.N[j]? = some y) (hl : c.X.N[l]? = some z) (hij : i ≠ j) (hil : i ≠ l) (hjl : j ≠ l) (hx : c.X.env.scope.names.lookup x = some .local) (hy : c.X.env.scope.names.lookup y = some .local) (hz0 : c.X.env.scope.names.lookup z = some .local) (h : SP c [a, b, c3] wp)
    (hw : swappedStores [.Tuple [.Name x px, .Name y py, .Name z pz] kt pt] (.Tuple [a, b, c3] k2 pt2) c.X.env = pure (some [x, y, z]) := by rfl)
    (hs : swapsWithSole [.Tuple [.Name x px, .Name y py, .Name z pz] kt pt] (.Tuple [a, b, c3] k2 pt2) pos.line c.X.env = pure false := by rfl) :
    SS c (.Assign [.Tuple [.Name x px, .Name y py, .Name z pz] kt pt] (.Tuple [a, b, c3] k2 pt2) pos) (wPar3 i j l wp) := ⟨fun w => s1_parN3 bd i j l hi hj hl hij hil hjl hx hy hz0 (h.run w) hw hs⟩
theorem ss_asg2 {x y : Str} {px py pt : Pos} {kt k2 : Nat} {pt2 : Pos} (bd : Bd c k) (i j : Nat) (hi : c.X.N[i]? = some x) (hj : c.X.N[j]? = some y) (hx : Loc c.X.env.scope x) (hy : Loc c.X.env.scope y) (h : SP c [a, b] wp)
    (hs : swapsWithSole [.Tuple [.Name x px, .Name y py] kt pt] (.Tuple [a, b] k2 pt2) pos.line c.X.env = pure false := by rfl) (hw : swappedStores [.Tuple [.Name x px, .Name y py] kt pt] (.Tuple [a, b] k2 pt2) c.X.env = pure none := by rfl) (h1 : (assignEach [.Tuple [.Name x px, .Name y py] kt pt] c.X.env).map (·.2) = [assign (.Tuple [.Name x px, .Name y py] kt pt) c.X.env] := by rfl)
    (hf : c.X.fn x = true ∨ c.X.env.scope.names.lookup x = some .local := by first | exact .inl rfl | exact .inr rfl) (hf2 : c.X.fn y = true ∨ c.X.env.scope.names.lookup y = some .local := by first | exact .inl rfl | exact .inr rfl) :
    SS c (.Assign [.Tuple [.Name x px, .Name y py] kt pt] (.Tuple [a, b] k2 pt2) pos) (wPar2 i j wp) := ⟨fun w => s1_asgN2 bd i j hi hj hx hy (h.run w) hs hw h1 hf hf2⟩
theorem ss_asg3 {x y z : Str} {px py pz pt : Pos} {kt k2 : Nat} {pt2 : Pos} {c3 : Expr} (bd : Bd c k) (i j l : Nat) (hi : c.X.N[i]? = some x) (hj : c.X.N[j]? = some y) (hl : c.X.N[l]? = some z) (hx : Loc c.X.env.scope x) (hy : Loc c.X.env.scope y) (hz0 : Loc c.X.env.scope z) (h : SP c [a, b, c3] wp)
    (hs : swapsWithSole [.Tuple [.Name x px, .Name y py, .Name z pz] kt pt] (.Tuple [a, b, c3] k2 pt2) pos.line c.X.env = pure false := by rfl) (hw : swappedStores [.Tuple [.Name x px, .Name y py, .Name z pz] kt pt] (.Tuple [a, b, c3] k2 pt2) c.X.env = pure none := by rfl) (h1 : (assignEach [.Tuple [.Name x px, .Name y py, .Name z pz] kt pt] c.X.env).map (·.2) = [assign (.Tuple [.Name x px, .Name y py, .Name z pz] kt pt) c.X.env] := by rfl)
    (hf : c.X.fn x = true ∨ c.X.env.scope.names.lookup x = some .local := by first | exact .inl rfl | exact .inr rfl) (hf2 : c.X.fn y = true ∨ c.X.env.scope.names.lookup y = some .local := by first | exact .inl rfl | exact .inr rfl) (hf3 : c.X.fn z = true ∨ c.X.env.scope.names.lookup z = some .local := by first | exact .inl rfl | exact .inr rfl) :
    SS c (.Assign [.Tuple [.Name x px, .Name y py, .Name z pz] kt pt] (.Tuple [a, b, c3] k2 pt2) pos) (wPar3 i j l wp) := ⟨fun w => s1_asgN3 bd i j l hi hj hl hx hy hz0 (h.run w) hs hw h1 hf hf2 hf3⟩
theorem ss_ret (ha : SE c e we) : SS c (.Return (some e) pos) (wRet we) := ⟨fun w => s1_ret (ha.run w)⟩
theorem ss_retN : SS c (.Return none pos) wRetN := ⟨fun w => s1_retN w⟩
theorem ss_retV {x : Str} {pos' : Pos} (i : Nat) (hN : c.X.N[i]? = some x) (hv : Vis c.X.env.scope x) (hdb : (x == ("__debug__" : Str)) = false := by decide) (hcd : (x == ("__classdict__" : Str)) = false := by decide) : SS c (.Return (some (.Name x pos')) pos) (wRetV i) := ⟨fun {Γ R} w => by
  unfold wRetV at w
  split at w
  · rename_i ds hd
    exact s1_retOwn i hN hv hd w hdb hcd
  · rename_i d hd
    exact s1_ret (ev_var i hN hv hd w hdb hcd)
  · exact w.elim⟩
theorem ss_expr (ha : SE c e we) (hs : swapsWith e none pos.line c.X.env = pure false := by rfl) : SS c (.Expr e pos) (wExpr we) := ⟨fun w => s1_expr (ha.run w) hs⟩
theorem ss_pass : SS c (.Pass pos) wPass := ⟨fun w => s1_pass w⟩
theorem ss_break : SS c (.Break pos) wBreak := ⟨fun w => s1_break w⟩
theorem ss_cont : SS c (.Continue pos) wCont := ⟨fun w => s1_continue w⟩
theorem ss_if (ht : ST c e ta) (h1 : SB c ss w1) (h2 : SB c ts w2) : SS c (.If e ss ts pos) (wIf ta w1 w2) := ⟨fun w => s1_if (tv_mono (ht.run w) fun q Γ1 w => ⟨fun z => h1.run (w.1 z), fun z => h2.run (w.2 z)⟩)⟩
theorem ss_while (bd : Bd c k) (ht : ST c e ta) (h1 : SB c ss w1) : SS c (.While e ss [] pos) (wWhile ta w1) := ⟨fun ⟨I, m0, h0, w⟩ => s1_while bd I m0 h0 fun m Γ1 hI => tv_mono (ht.run (w m Γ1 hI)) fun q Γ2 w => ⟨fun z => h1.run (w.1 z), w.2⟩⟩
theorem iv_mono {tg : Expr} {Γ : Ga} {P P' : List D → Ga → Prop} (h : Iv c tg e Γ P) (k : ∀ d Γ', P d Γ' → P' d Γ') : Iv c tg e Γ P' := fun σ H er R W tk xw q => h σ H er R W tk xw fun J xs Γ1 H1 g src hp => q J xs Γ1 H1 g src (k _ _ hp)
theorem gv_mono {tg : Expr} {Γ : Ga} {d : D} {P P' : Ga → Prop} (h : Gv c tg Γ d P) (k : ∀ Γ', P Γ' → P' Γ') : Gv c tg Γ d P' := fun σ H v er r Q q => h σ H v er r Q fun σ' Γ' H' st er' hp => q σ' Γ' H' st er' (k _ hp)
theorem gw_mono {vs : List Nat} {tg : Expr} {Γ : Ga} {d : D} {P P' : Ga → Prop} (h : Gw c vs tg Γ d P) (k : ∀ Γ', P Γ' → P' Γ') : Gw c vs tg Γ d P' := fun σ H v er r Q q => h σ H v er r Q fun σ' Γ' e1 e2 st er' hp => q σ' Γ' e1 e2 st er' (k _ hp)
theorem ss_for (bd : Bd c k) {tg : Expr} (hi : SI c tg e wl) (hg : SG c tg wg) (hb : SB c ss w1) (hs : ∀ x, foldedSetIterable e c.X.env x = pure x := by intro _; rfl) : SS c (.For tg e ss [] pos) (wFor wl wg w1) :=
  ⟨fun w => s1_for bd (iv_mono (hi.run w) fun xs Γ1 ⟨I, h0, h1, h2⟩ => ⟨I, h0, fun i x Γ2 hx hI => gv_mono (hg.run (h1 i x Γ2 hx hI)) fun Γ3 w => hb.run w, h2⟩) hs⟩
theorem ss_append {x name : Str} {apos cpos npos : Pos} (i : Nat) (hN : c.X.N[i]? = some x) (hv : Vis c.X.env.scope x) (hn : name = "append") (ha : SE c e we)
    (hdb : (x == ("__debug__" : Str)) = false := by decide) (hcd : (x == ("__classdict__" : Str)) = false := by decide)
    (hfew : ((backTo cpos (starEach [e] c.X.env)).all (fun x => !x.1) && (backToKw cpos (keywordEach [] c.X.env)).all (fun x => x.1.isSome) && decide (([e] : List Expr).length + ([] : List Keyword).length + (if ([] : List Keyword).isEmpty then 0 else 1) < 30)) = true := by rfl)
    (hbase : attributeBase (.Name x npos) "append" c.X.env (eval (.Name x npos) c.X.env) = eval (.Name x npos) c.X.env := by rfl)
    (hline : (apos.endLine == cpos.line) = true := by rfl) (hst : starEach [e] c.X.env = (false, eval e c.X.env) :: starEach [] c.X.env := by rfl)
    (hs : swapsWith (.Call (.Attribute (.Name x npos) "append" apos) [e] [] cpos) none pos.line c.X.env = pure false := by rfl) :
    SS c (.Expr (.Call (.Attribute (.Name x npos) name apos) [e] [] cpos) pos) (wAppend i we) := ⟨fun {Γ R} w => by
  obtain ⟨w0, w⟩ := w
  unfold isOwn at w0
  split at w0
  · rename_i ds0 hd0
    refine s1_append i hN hv hn hd0 (ev_mono (ha.run w) fun d Γ1 w => ?_) hdb hcd hfew hbase hline hst hs
    split at w
    · rename_i ds hd
      exact ⟨ds, hd, w⟩
    · exact w.elim
  · exact w0.elim⟩
theorem se_popAt {x name : Str} {apos cpos npos : Pos} (i : Nat) (hN : c.X.N[i]? = some x) (hv : Vis c.X.env.scope x) (hn : name = "pop") (ha : SE c e we)
    (hdb : (x == ("__debug__" : Str)) = false := by decide) (hcd : (x == ("__classdict__" : Str)) = false := by decide)
    (hfew : ((backTo cpos (starEach [e] c.X.env)).all (fun x => !x.1) && (backToKw cpos (keywordEach [] c.X.env)).all (fun x => x.1.isSome) && decide (([e] : List Expr).length + ([] : List Keyword).length + (if ([] : List Keyword).isEmpty then 0 else 1) < 30)) = true := by rfl)
    (hbase : attributeBase (.Name x npos) "pop" c.X.env (eval (.Name x npos) c.X.env) = eval (.Name x npos) c.X.env := by rfl)
    (hline : (apos.endLine == cpos.line) = true := by rfl) (hst : starEach [e] c.X.env = (false, eval e c.X.env) :: starEach [] c.X.env := by rfl) :
    SE c (.Call (.Attribute (.Name x npos) name apos) [e] [] cpos) (wPopAt i we) := ⟨fun {Γ R} w => by
  obtain ⟨w0, w⟩ := w
  unfold isOwn at w0
  split at w0
  · rename_i ds0 hd0
    refine ev_popAt i hN hv hn hd0 (ev_mono (ha.run w) fun d Γ1 w => ?_) hdb hcd hfew hbase hline hst
    obtain ⟨n, e1, w⟩ := oInt_of w
    split at w
    · rename_i ds hd
      obtain ⟨kk, v, h1, h2, h3, h4⟩ := w
      exact ⟨ds, n, kk, v, e1, hd, h1, h2, h3, h4⟩
    · exact w.elim
  · exact w0.elim⟩
/-! ### targets, walks -/
theorem sg_name {x : Str} (bd : Bd c k) (i : Nat) (hi : c.X.N[i]? = some x) (hx : Loc c.X.env.scope x) (hf : c.X.fn x = true ∨ c.X.env.scope.names.lookup x = some .local := by first | exact .inl rfl | exact .inr rfl) : SG c (.Name x pos) (wgName i) := ⟨fun w => gv_name i bd.nd hi hx w.1 w.2 hf⟩
theorem oTwo_of {d : D} {P : D → D → Prop} (h : oTwo d P) : ∃ x y, d = .tup [x, y] ∧ P x y := by
  unfold oTwo at h
  split at h
  · exact ⟨_, _, rfl, h⟩
  · exact h.elim
theorem oThree_of {d : D} {P : D → D → D → Prop} (h : oThree d P) : ∃ x y z, d = .tup [x, y, z] ∧ P x y z := by
  unfold oThree at h
  split at h
  · exact ⟨_, _, _, rfl, h⟩
  · exact h.elim
theorem sg_two {x y : Str} {p1 p2 : Pos} {ctx : Nat} (bd : Bd c k) (i j : Nat) (hi : c.X.N[i]? = some x) (hj : c.X.N[j]? = some y) (hx : Loc c.X.env.scope x) (hy : Loc c.X.env.scope y)
    (hf : c.X.fn x = true ∨ c.X.env.scope.names.lookup x = some .local := by first | exact .inl rfl | exact .inr rfl) (hf2 : c.X.fn y = true ∨ c.X.env.scope.names.lookup y = some .local := by first | exact .inl rfl | exact .inr rfl) : SG c (.Tuple [.Name x p1, .Name y p2] ctx pos) (wgTwo i j) := ⟨fun ⟨h1, h2, w⟩ => by
  obtain ⟨x, y, rfl, w⟩ := oTwo_of w
  exact gv_two i j bd.calm bd.nd hi hj hx hy h1 h2 w hf hf2⟩
theorem sg_three {x y z : Str} {p1 p2 p3 : Pos} {ctx : Nat} (bd : Bd c k) (i j l : Nat) (hi : c.X.N[i]? = some x) (hj : c.X.N[j]? = some y) (hl : c.X.N[l]? = some z) (hx : Loc c.X.env.scope x) (hy : Loc c.X.env.scope y) (hz : Loc c.X.env.scope z)
    (hf : c.X.fn x = true ∨ c.X.env.scope.names.lookup x = some .local := by first | exact .inl rfl | exact .inr rfl) (hf2 : c.X.fn y = true ∨ c.X.env.scope.names.lookup y = some .local := by first | exact .inl rfl | exact .inr rfl) (hf3 : c.X.fn z = true ∨ c.X.env.scope.names.lookup z = some .local := by first | exact .inl rfl | exact .inr rfl) : SG c (.Tuple [.Name x p1, .Name y p2, .Name z p3] ctx pos) (wgThree i j l) := ⟨fun {Γ d P} w => by
  obtain ⟨h1, h2, h3, w⟩ := w
  obtain ⟨d1, d2, d3, rfl, w⟩ := oThree_of w
  intro σ H v er p Q q
  cases p with
  | @tup a vs _ g1 g2 r2 =>
    cases r2 with
    | @cons v1 _ _ _ q1 r2 =>
      cases r2 with
      | @cons v2 _ _ _ q2 r2 =>
        cases r2 with
        | @cons v3 _ _ _ q3 r2 =>
          cases r2
          have e1 := er.set i q1 h1
          have s1 : Step c.U σ Γ H (σ.set i (some v1)) (Γ.set i (.dat d1)) H := step_set i
          have e2 := e1.set j (Rp.to (s1.goes er) _ _ q2) (by rw [List.length_set]; exact h2)
          have s2 : Step c.U (σ.set i (some v1)) (Γ.set i (.dat d1)) H ((σ.set i (some v1)).set j (some v2)) ((Γ.set i (.dat d1)).set j (.dat d2)) H := step_set j
          have e3 := e2.set l (Rp.to (s2.goes e1) _ _ (Rp.to (s1.goes er) _ _ q3)) (by rw [List.length_set, List.length_set]; exact h3)
          exact outG (pg_tup bd.calm (pgs_cons (pg_name bd.nd hi hx hf) (pgs_cons (pg_name bd.nd hj hy hf2) (pgs_cons (pg_name bd.nd hl hz hf3) pgs_nil)))) ⟨a, [v1, v2, v3], rfl, sqt_of g1, rfl, v1, [v2, v3], rfl, v2, [v3], rfl, v3, [], rfl, rfl, q _ _ _ ((s1.trans e1 s2).trans e2 (step_set l)) e3 w⟩⟩
theorem sh_name {x : Str} (bd : Bd c k) (i : Nat) (hi : c.X.N[i]? = some x) (hx : Loc c.X.env.scope x) (hf : c.X.fn x = true ∨ c.X.env.scope.names.lookup x = some .local := by first | exact .inl rfl | exact .inr rfl) : SH c [i] (.Name x pos) (wgName i) := ⟨fun w => gw_name i bd.nd hi hx w.1 w.2 hf⟩
theorem sh_two {x y : Str} {p1 p2 : Pos} {ctx : Nat} (bd : Bd c k) (i j : Nat) (hi : c.X.N[i]? = some x) (hj : c.X.N[j]? = some y) (hx : Loc c.X.env.scope x) (hy : Loc c.X.env.scope y)
    (hf : c.X.fn x = true ∨ c.X.env.scope.names.lookup x = some .local := by first | exact .inl rfl | exact .inr rfl) (hf2 : c.X.fn y = true ∨ c.X.env.scope.names.lookup y = some .local := by first | exact .inl rfl | exact .inr rfl) : SH c [i, j] (.Tuple [.Name x p1, .Name y p2] ctx pos) (wgTwo i j) := ⟨fun ⟨h1, h2, w⟩ => by
  obtain ⟨x, y, rfl, w⟩ := oTwo_of w
  exact gw_two i j bd.calm bd.nd hi hj hx hy h1 h2 w hf hf2⟩
theorem ss_asgG {tg : Expr} (ha : SE c e we) (hg : SG c tg wg) (hs : swapsWithSole [tg] e pos.line c.X.env = pure false := by rfl) (hw : swappedStores [tg] e c.X.env = pure none := by rfl) (h1 : (assignEach [tg] c.X.env).map (·.2) = [assign tg c.X.env] := by rfl) : SS c (.Assign [tg] e pos) (wAsg we wg) := ⟨fun w => s1_asgG (ev_mono (ha.run w) fun d Γ1 w => hg.run w) hs hw h1⟩
theorem si_lst {tg : Expr} (ha : SE c e we) : SI c tg e (wiLst we) := ⟨fun w => iv_list (ev_mono (ha.run w) fun _ _ h => oLst_of h)⟩
theorem si_tup {tg : Expr} (ha : SE c e we) : SI c tg e (wiTup we) := ⟨fun w => iv_tup (ev_mono (ha.run w) fun _ _ h => oTup_of h)⟩
theorem si_r1 {tg : Expr} (hm : c.X.mg "range" = none) (ha : SE c e we) (hg : Gl c.X "range" := by rfl) (hs : starEach [e] c.X.env = [(false, eval e c.X.env)] := by rfl) : SI c tg (.Call (.Name "range" p) [e] [] pos) (wiR1 we) := ⟨fun w => iv_range1 hm (ev_mono (ha.run w) fun d Γ1 w => by
  obtain ⟨n, e, h⟩ := oInt_of w
  exact ⟨n, e, h⟩) hg hs⟩
theorem si_r2 {tg : Expr} (hm : c.X.mg "range" = none) (ha : SE c a wa) (hb : SE c b wb) (hg : Gl c.X "range" := by rfl) (hs : starEach [a, b] c.X.env = [(false, eval a c.X.env), (false, eval b c.X.env)] := by rfl) (hs2 : starEach [b] c.X.env = [(false, eval b c.X.env)] := by rfl) : SI c tg (.Call (.Name "range" p) [a, b] [] pos) (wiR2 wa wb) := ⟨fun w => iv_range2 hm (ev_mono (ha.run w) fun d Γ1 w => by
  obtain ⟨n, e, h⟩ := oInt_of w
  exact ⟨n, e, ev_mono (hb.run h) fun d2 Γ2 w => by
    obtain ⟨n, e, h⟩ := oInt_of w
    exact ⟨n, e, h⟩⟩) hg hs hs2⟩
theorem si_enumT {elts : List Expr} {kk : Nat} {tpos : Pos} (hm : c.X.mg "enumerate" = none) (ha : SE c e we) (hg : Gl c.X "enumerate" := by rfl) (hs : starEach [e] c.X.env = [(false, eval e c.X.env)] := by rfl) : SI c (.Tuple elts kk tpos) (.Call (.Name "enumerate" p) [e] [] pos) (wiEnumT we) := ⟨fun w => iv_enumT hm (ev_mono (ha.run w) fun _ _ h => oTup_of h) hg hs⟩
theorem si_enumL {elts : List Expr} {kk : Nat} {tpos : Pos} (hm : c.X.mg "enumerate" = none) (ha : SE c e we) (hg : Gl c.X "enumerate" := by rfl) (hs : starEach [e] c.X.env = [(false, eval e c.X.env)] := by rfl) : SI c (.Tuple elts kk tpos) (.Call (.Name "enumerate" p) [e] [] pos) (wiEnumL we) := ⟨fun w => iv_enumL hm (ev_mono (ha.run w) fun _ _ h => oLst_of h) hg hs⟩
theorem se_lc {tg iter : Expr} {elt : Expr} {scope : Scope} (own : List (Str × Nat)) (bd : Bd c k) (ok : BlkOk c.X.N c.X.env.scope scope own) (hi : SI c tg iter wl) (hg : ∀ (Dl : Addr) (s : Shared) (H : Hw) (C : Addr) (cl : List (Str × Addr)) (fp : List Addr), Bd (c.inner s H scope C cl fp Dl) k → SH (c.inner s H scope C cl fp Dl) (own.map (·.2)) tg wg)
    (he : ∀ (Dl : Addr) (s : Shared) (H : Hw) (C : Addr) (cl : List (Str × Addr)) (fp : List Addr), Bd (c.inner s H scope C cl fp Dl) k → SE (c.inner s H scope C cl fp Dl) elt we) (hs : ∀ x, foldedSetIterable iter c.X.env x = pure x := by intro _; rfl) : SE c (.ListComp elt [⟨tg, iter, [], 0⟩] scope pos) (wLc (own.map (·.2)) wl wg we) :=
  ⟨fun w => ev_lcR own bd ok (iv_mono (hi.run w) fun xs Γ1 ⟨hl, hc, R, h1, h2⟩ => ⟨hl, calm_of hc, R, fun x hx Dl s H C cl fp => gw_mono ((hg Dl s H C cl fp (bd.inner s H scope C cl fp Dl)).run (h1 x hx)) fun Γ2 w s2 H2 C2 cl2 fp2 bd2 => (he Dl s2 H2 C2 cl2 fp2 bd2).run w, h2⟩) hs⟩
theorem se_lcF {tg iter : Expr} {elt t : Expr} {scope : Scope} (own : List (Str × Nat)) (bd : Bd c k) (ok : BlkOk c.X.N c.X.env.scope scope own) (hi : SI c tg iter wl) (hg : ∀ (Dl : Addr) (s : Shared) (H : Hw) (C : Addr) (cl : List (Str × Addr)) (fp : List Addr), Bd (c.inner s H scope C cl fp Dl) k → SH (c.inner s H scope C cl fp Dl) (own.map (·.2)) tg wg)
    (ht : ∀ (Dl : Addr) (s : Shared) (H : Hw) (C : Addr) (cl : List (Str × Addr)) (fp : List Addr), Bd (c.inner s H scope C cl fp Dl) k → ST (c.inner s H scope C cl fp Dl) t ta)
    (he : ∀ (Dl : Addr) (s : Shared) (H : Hw) (C : Addr) (cl : List (Str × Addr)) (fp : List Addr), Bd (c.inner s H scope C cl fp Dl) k → SE (c.inner s H scope C cl fp Dl) elt we) (hs : ∀ x, foldedSetIterable iter c.X.env x = pure x := by intro _; rfl) : SE c (.ListComp elt [⟨tg, iter, [t], 0⟩] scope pos) (wLcF (own.map (·.2)) wl wg ta we) :=
  ⟨fun w => ev_lc own bd ok (iv_mono (hi.run w) fun xs Γ1 ⟨hl, hc, I, h0, h1, h2⟩ => ⟨I, h0, hl, calm_of hc, fun i x acc hx hI hacc Dl s H C cl fp => gw_mono ((hg Dl s H C cl fp (bd.inner s H scope C cl fp Dl)).run (h1 i x acc hx hI hacc)) fun Γ2 w s2 H2 C2 cl2 fp2 => .inr ⟨t, rfl, tv_mono ((ht Dl s2 H2 C2 cl2 fp2 (bd.inner s2 H2 scope C2 cl2 fp2 Dl)).run w) fun q Γ3 ⟨e3, w1, w2⟩ => ⟨e3, fun z s3 H3 C3 cl3 fp3 => (he Dl s3 H3 C3 cl3 fp3 (bd.inner s3 H3 scope C3 cl3 fp3 Dl)).run (w1 z), w2⟩⟩, h2⟩) hs⟩
theorem ss_setLc {tg iter : Expr} {elt : Expr} {scope : Scope} {y : Str} {py spos : Pos} (own : List (Str × Nat)) (bd : Bd c k) (j : Nat) (hy : c.X.N[j]? = some y) (hyl : c.X.env.scope.names.lookup y = some .local) (ok : BlkOk c.X.N c.X.env.scope scope own) (hi : SI c tg iter wl) (hg : ∀ (Dl : Addr) (s : Shared) (H : Hw) (C : Addr) (cl : List (Str × Addr)) (fp : List Addr), Bd (c.inner s H scope C cl fp Dl) k → SH (c.inner s H scope C cl fp Dl) (own.map (·.2)) tg wg)
    (he : ∀ (Dl : Addr) (s : Shared) (H : Hw) (C : Addr) (cl : List (Str × Addr)) (fp : List Addr), Bd (c.inner s H scope C cl fp Dl) k → SE (c.inner s H scope C cl fp Dl) elt we)
    (hsw : swapsWith (.ListComp elt [⟨tg, iter, [], 0⟩] scope pos) (some (.Name y py)) spos.line c.X.env = pure true := by rfl) (hs : ∀ x, foldedSetIterable iter c.X.env x = pure x := by intro _; rfl) : SS c (.Assign [.Name y py] (.ListComp elt [⟨tg, iter, [], 0⟩] scope pos) spos) (wSet j (wLc (own.map (·.2)) wl wg we)) :=
  ⟨fun w => s1_setLcR own bd j hy hyl w.1 ok (iv_mono (hi.run w.2) fun xs Γ1 ⟨hl, hc, R, h1, h2⟩ => ⟨hl, calm_of hc, R, fun x hx Dl s H C cl fp => gw_mono ((hg Dl s H C cl fp (bd.inner s H scope C cl fp Dl)).run (h1 x hx)) fun Γ2 w s2 H2 C2 cl2 fp2 bd2 => (he Dl s2 H2 C2 cl2 fp2 bd2).run w, h2⟩) hsw hs⟩
theorem ss_setLcF {tg iter : Expr} {elt t : Expr} {scope : Scope} {y : Str} {py spos : Pos} (own : List (Str × Nat)) (bd : Bd c k) (j : Nat) (hy : c.X.N[j]? = some y) (hyl : c.X.env.scope.names.lookup y = some .local) (ok : BlkOk c.X.N c.X.env.scope scope own) (hi : SI c tg iter wl) (hg : ∀ (Dl : Addr) (s : Shared) (H : Hw) (C : Addr) (cl : List (Str × Addr)) (fp : List Addr), Bd (c.inner s H scope C cl fp Dl) k → SH (c.inner s H scope C cl fp Dl) (own.map (·.2)) tg wg)
    (ht : ∀ (Dl : Addr) (s : Shared) (H : Hw) (C : Addr) (cl : List (Str × Addr)) (fp : List Addr), Bd (c.inner s H scope C cl fp Dl) k → ST (c.inner s H scope C cl fp Dl) t ta)
    (he : ∀ (Dl : Addr) (s : Shared) (H : Hw) (C : Addr) (cl : List (Str × Addr)) (fp : List Addr), Bd (c.inner s H scope C cl fp Dl) k → SE (c.inner s H scope C cl fp Dl) elt we)
    (hsw : swapsWith (.ListComp elt [⟨tg, iter, [t], 0⟩] scope pos) (some (.Name y py)) spos.line c.X.env = pure true := by rfl) (hs : ∀ x, foldedSetIterable iter c.X.env x = pure x := by intro _; rfl) : SS c (.Assign [.Name y py] (.ListComp elt [⟨tg, iter, [t], 0⟩] scope pos) spos) (wSet j (wLcF (own.map (·.2)) wl wg ta we)) :=
  ⟨fun w => s1_setLc own bd j hy hyl w.1 ok (iv_mono (hi.run w.2) fun xs Γ1 ⟨hl, hc, I, h0, h1, h2⟩ => ⟨I, h0, hl, calm_of hc, fun i x acc hx hI hacc Dl s H C cl fp => gw_mono ((hg Dl s H C cl fp (bd.inner s H scope C cl fp Dl)).run (h1 i x acc hx hI hacc)) fun Γ2 w s2 H2 C2 cl2 fp2 => .inr ⟨t, rfl, tv_mono ((ht Dl s2 H2 C2 cl2 fp2 (bd.inner s2 H2 scope C2 cl2 fp2 Dl)).run w) fun q Γ3 ⟨e3, w1, w2⟩ => ⟨e3, fun z s3 H3 C3 cl3 fp3 => (he Dl s3 H3 C3 cl3 fp3 (bd.inner s3 H3 scope C3 cl3 fp3 Dl)).run (w1 z), w2⟩⟩, h2⟩) hsw hs⟩
end
end U
/-! W5: dicts as data and as one's own; extend; x op= e. -/
namespace U
open PySem PySem.Spec PyProof.Rows L2
def valD (ks : List (L2.Key × D)) (k : L2.Key) : Option D := (ks.find? fun kv => decide (kv.1 = k)).map (·.2)
def putD (ks : List (L2.Key × D)) (k : L2.Key) (d : D) : List (L2.Key × D) :=
  if (ks.any fun kv => decide (kv.1 = k)) = true then ks.map (fun kv => if kv.1 = k then (kv.1, d) else kv) else ks ++ [(k, d)]
theorem valD_nil {k : L2.Key} : valD [] k = none := rfl
theorem valD_pos {p : L2.Key × D} {r : List (L2.Key × D)} {k : L2.Key} (e : p.1 = k) : valD (p :: r) k = some p.2 := by simp [valD, List.find?_cons, e]
theorem valD_neg {p : L2.Key × D} {r : List (L2.Key × D)} {k : L2.Key} (e : ¬ p.1 = k) : valD (p :: r) k = valD r k := by simp [valD, List.find?_cons, e]
theorem RpK.val {M : Ex} {H : Hw} (k : L2.Key) : ∀ {vs : List (L2.Key × V)} {ds : List (L2.Key × D)}, RpK M H vs ds → (∀ d, valD ds k = some d → ∃ v, valV vs k = some v ∧ Rp M H v d) ∧ (valD ds k = none → valV vs k = none)
  | [], [], .nil => ⟨fun d h => (by cases h), fun _ => rfl⟩
  | (a, v) :: vs, (_, d) :: ds, .cons h r => by
    have ih := RpK.val k r
    by_cases e : a = k
    · rw [valD_pos (p := (a, d)) e, valV_pos (p := (a, v)) e]
      exact ⟨fun x hx => ⟨v, rfl, (by cases hx; exact h)⟩, fun z => (by cases z)⟩
    · rw [valD_neg (p := (a, d)) e, valV_neg (p := (a, v)) e]
      exact ih
theorem RpK.any {M : Ex} {H : Hw} (f : L2.Key → Bool) : ∀ {vs : List (L2.Key × V)} {ds : List (L2.Key × D)}, RpK M H vs ds → (vs.any fun kv => f kv.1) = ds.any fun kv => f kv.1
  | [], [], .nil => rfl
  | (a, v) :: vs, (_, d) :: ds, .cons h r => by
    rw [List.any_cons, List.any_cons, RpK.any f r]
theorem RpK.app {M : Ex} {H : Hw} : ∀ {vs ws : List (L2.Key × V)} {ds es : List (L2.Key × D)}, RpK M H vs ds → RpK M H ws es → RpK M H (vs ++ ws) (ds ++ es)
  | [], _, [], _, .nil, h => h
  | _ :: _, _, _ :: _, _, .cons a b, h => .cons a (RpK.app b h)
theorem RpK.sub {M : Ex} {H : Hw} {v : V} {d : D} (k : L2.Key) (r : Rp M H v d) : ∀ {vs : List (L2.Key × V)} {ds : List (L2.Key × D)}, RpK M H vs ds → RpK M H (vs.map fun kv => if kv.1 = k then (kv.1, v) else kv) (ds.map fun kv => if kv.1 = k then (kv.1, d) else kv)
  | [], [], .nil => .nil
  | (a, w) :: vs, (_, e) :: ds, .cons h q => by
    rw [List.map_cons, List.map_cons]
    by_cases z : a = k
    · rw [if_pos z, if_pos z]
      exact .cons r (RpK.sub k r q)
    · rw [if_neg z, if_neg z]
      exact .cons h (RpK.sub k r q)
theorem RpK.put {M : Ex} {H : Hw} {v : V} {d : D} (k : L2.Key) (r : Rp M H v d) {vs : List (L2.Key × V)} {ds : List (L2.Key × D)} (h : RpK M H vs ds) : RpK M H (putK vs k v) (putD ds k d) := by
  unfold putK putD
  rw [RpK.any (fun x => decide (x = k)) h]
  split
  · exact RpK.sub k r h
  · exact RpK.app h (.cons r .nil)
/-- what a key stands for -/
def keyD : D → Option L2.Key
  | .int i => some (.inl i)
  | .str s => some (.inr s)
  | _ => none
theorem keyD_of {M : Ex} {H : Hw} {v : V} {d : D} {k : L2.Key} (r : Rp M H v d) (h : keyD d = some k) : v = kV k := by
  cases r with
  | int i => cases h; rfl
  | str s => cases h; rfl
  | _ => cases h
def oKey : D → (L2.Key → Prop) → Prop
  | .int i, P => P (.inl i)
  | .str s, P => P (.inr s)
  | _, _ => False
theorem oKey_of {d : D} {P : L2.Key → Prop} (h : oKey d P) : ∃ k, keyD d = some k ∧ P k := by
  unfold oKey at h
  split at h
  · exact ⟨_, rfl, h⟩
  · exact ⟨_, rfl, h⟩
  · exact h.elim
def oDic : D → (List (L2.Key × D) → Prop) → Prop
  | .dic ks, P => P ks
  | _, _ => False
theorem oDic_of {d : D} {P : List (L2.Key × D) → Prop} (h : oDic d P) : ∃ k, d = .dic k ∧ P k := by
  unfold oDic at h
  split at h
  · exact ⟨_, rfl, h⟩
  · exact h.elim
def wDget (a b : WE) : WE := fun Γ P => a Γ fun x Γ1 => oDic x fun ks => b Γ1 fun y Γ2 => oKey y fun k => ∃ d, valD ks k = some d ∧ P d Γ2
/-- one's own dict read -/
def wDgetO (i : Nat) (b : WE) : WE := fun Γ P => match Γ[i]? with
  | some (.ownD ks) => b Γ fun y Γ2 => Γ2[i]? = some (.ownD ks) ∧ oKey y fun k => ∃ d, valD ks k = some d ∧ P d Γ2
  | some (.dat (.dic ks)) => b Γ fun y Γ2 => oKey y fun k => ∃ d, valD ks k = some d ∧ P d Γ2
  | _ => False
def wGetO (i : Nat) (b e : WE) : WE := fun Γ P => match Γ[i]? with
  | some (.ownD ks) => b Γ fun y Γ2 => e Γ2 fun z Γ3 => Γ3[i]? = some (.ownD ks) ∧ oKey y fun k => P ((valD ks k).getD z) Γ3
  | _ => False
def isOwnD (i : Nat) (Γ : Ga) : Prop := match Γ[i]? with
  | some (.ownD _) => True
  | _ => False
section
variable {c : Co} {k : Nat} {e a b : Expr} {es : List Expr} {pos p : Pos} {wa wb we : WE} {ta : WT} {wl : WL} {wg : WG}
theorem se_dget (hu : c.X.A.units + 1 < cLine) (ha : SE c a wa) (hb : SE c b wb) (hs : NoSl b := by intro _ _; rfl) : SE c (.Subscript a b pos) (wDget wa wb) := ⟨fun {Γ P} w => fun σ H er Q W tk xw q =>
  outE (pe_dget hu selfE selfE hs) ((ha.run w) σ H er _ W tk xw fun v x Γ1 H1 g1 r1 h1 => by
    obtain ⟨ks, rfl, h1⟩ := oDic_of h1
    refine (hb.run h1) σ H1 g1.er _ W tk (xw.on g1.er g1.st) fun w y Γ2 H2 g2 r2 h2 => ?_
    obtain ⟨kk, hk, d, hd, hp⟩ := oKey_of h2
    have r1' := Rp.to (g2.goes g1.er) _ _ r1
    cases r1' with
    | dic e1 m1 q1 =>
      obtain ⟨u, hu', ru⟩ := (RpK.val kk q1).1 d hd
      exact ⟨_, u, rfl, .inl ⟨_, kk, Rd.of e1, keyD_of r2 hk, hu'.symm⟩, q u d Γ2 H2 (g1.trans g2) ru hp⟩)⟩
theorem se_dgetO {x : Str} {npos : Pos} (i : Nat) (hu : c.X.A.units + 1 < cLine) (hN : c.X.N[i]? = some x) (hv : Vis c.X.env.scope x) (hb : SE c b wb) (hs : NoSl b := by intro _ _; rfl) (hdb : (x == ("__debug__" : Str)) = false := by decide) (hcd : (x == ("__classdict__" : Str)) = false := by decide) : SE c (.Subscript (.Name x npos) b pos) (wDgetO i wb) := ⟨fun {Γ P} w => by
  unfold wDgetO at w
  split at w
  · rename_i ks hd
    intro σ H er Q W tk xw q
    obtain ⟨a, xs, e1, e2, e3, e4⟩ := er.ownD i ks hd
    refine outE (pe_dget hu (pe_var hN hv hdb hcd) selfE hs) ⟨_, e1, ?_⟩
    refine (hb.run w) σ H er _ W tk xw fun u y Γ2 H2 g2 r2 h2 => ?_
    obtain ⟨h0, h2⟩ := h2
    obtain ⟨kk, hk, d, hd2, hp⟩ := oKey_of h2
    obtain ⟨a', xs', q1, q2, q3, q4⟩ := g2.er.ownD i ks h0
    rw [e1] at q1
    cases q1
    obtain ⟨u', hu', ru⟩ := (RpK.val kk q4).1 d hd2
    exact ⟨_, u', rfl, .inl ⟨_, kk, Rd.of q2, keyD_of r2 hk, hu'.symm⟩, q u' d Γ2 H2 g2 ru hp⟩
  · rename_i ks hd
    exact (se_dget hu (se_var i hN hv hdb hcd) hb hs).run (show wDget (wVar i) wb Γ P by
      unfold wDget wVar
      rw [hd]
      exact w)
  · exact w.elim⟩
theorem se_getO {x name : Str} {apos cpos npos : Pos} (i : Nat) (hu : c.X.A.units + 1 < cLine) (hN : c.X.N[i]? = some x) (hv : Vis c.X.env.scope x) (hn : name = "get") (hb : SE c b wb) (he : SE c e we) (m : M2 c.X (.Name x npos) "get" apos b e cpos := by exact ⟨rfl, rfl, rfl, rfl⟩) (hdb : (x == ("__debug__" : Str)) = false := by decide) (hcd : (x == ("__classdict__" : Str)) = false := by decide) : SE c (.Call (.Attribute (.Name x npos) name apos) [b, e] [] cpos) (wGetO i wb we) := ⟨fun {Γ P} w => by
  subst hn
  unfold wGetO at w
  split at w
  · rename_i ks hd
    intro σ H er Q W tk xw q
    obtain ⟨a, xs, e1, e2, e3, e4⟩ := er.ownD i ks hd
    refine outE (pe_dget2 hu (pe_var hN hv hdb hcd) selfE selfE m) ⟨_, e1, _, rfl, .inl ⟨_, Rd.of e2⟩, ?_⟩
    refine (hb.run w) σ H er _ W tk xw fun u y Γ2 H2 g2 r2 h2 => ?_
    refine (he.run h2) σ H2 g2.er _ W tk (xw.on g2.er g2.st) fun u3 z Γ3 H3 g3 r3 h3 => ?_
    obtain ⟨h0, h3⟩ := h3
    obtain ⟨kk, hk, hp⟩ := oKey_of h3
    obtain ⟨a', xs', q1, q2, q3, q4⟩ := g3.er.ownD i ks h0
    rw [e1] at q1
    cases q1
    refine ⟨valV xs' kk, .inl ⟨_, kk, Rd.of q2, keyD_of (Rp.to (g3.goes g2.er) _ _ r2) hk, rfl⟩, ?_⟩
    cases hv2 : valD ks kk with
    | none =>
      rw [hv2] at hp
      rw [(RpK.val kk q4).2 hv2]
      exact q _ _ Γ3 H3 (g2.trans g3) r3 hp
    | some d =>
      rw [hv2] at hp
      obtain ⟨u', hu', ru⟩ := (RpK.val kk q4).1 d hv2
      rw [hu']
      exact q _ _ Γ3 H3 (g2.trans g3) ru hp
  · exact w.elim⟩
/-- x[k] = v, one's own dict -/
def wPutD (i : Nat) (v : WE) (b : WE) : WS := fun Γ R => v Γ fun z Γ1 => isOwnD i Γ1 ∧ b Γ1 fun y Γ2 => match Γ2[i]? with
  | some (.ownD ks) => oKey y fun k => ks.length < 16777216 ∧ R.nx (Γ2.set i (.ownD (putD ks k z)))
  | _ => False
theorem RpK.len {M : Ex} {H : Hw} : ∀ {vs : List (L2.Key × V)} {ds : List (L2.Key × D)}, RpK M H vs ds → vs.length = ds.length
  | [], [], .nil => rfl
  | _ :: _, _ :: _, .cons _ r => by simp [RpK.len r]
theorem ss_putD {x : Str} {npos spos : Pos} (bd : Bd c k) (i : Nat) (hN : c.X.N[i]? = some x) (hv : Vis c.X.env.scope x) (ha : SE c e we) (hb : SE c b wb) (hdb : (x == ("__debug__" : Str)) = false := by decide) (hcd : (x == ("__classdict__" : Str)) = false := by decide)
    (hs : swapsWith e (some (.Subscript (.Name x npos) b pos)) spos.line c.X.env = pure false := by rfl) : SS c (.Assign [.Subscript (.Name x npos) b pos] e spos) (wPutD i we wb) := ⟨fun {Γ R} w => fun σ H er W Dd tk kk =>
  outS (ps_dput (hu_of bd.hr) (pe_var hN hv hdb hcd) selfE selfE hs) ((ha.run w) σ H er _ W tk kk.xw fun v z Γ1 H1 g1 r1 h1 => by
    obtain ⟨h0, h1⟩ := h1
    unfold isOwnD at h0
    split at h0
    · rename_i ks0 hd0
      obtain ⟨a, xs, e1, e2, e3, e4⟩ := g1.er.ownD i ks0 hd0
      refine ⟨_, e1, ?_⟩
      refine (hb.run h1) σ H1 g1.er _ W tk (kk.xw.on g1.er g1.st) fun u y Γ2 H2 g2 r2 h2 => ?_
      dsimp only at h2
      split at h2
      · rename_i ks hd
        obtain ⟨kx, hk, hl, hp⟩ := oKey_of h2
        obtain ⟨a', xs', q1, q2, q3, q4⟩ := g2.er.ownD i ks hd
        rw [e1] at q1
        cases q1
        have r1' := Rp.to (g2.goes g1.er) _ _ r1
        obtain ⟨r5, s5, _⟩ := g2.er.mut i hd rfl e1 (.dic (q4.put kx r1'))
        refine ⟨_, _, rfl, .inl ⟨_, kx, q2, keyD_of r2 hk, Nat.lt_of_lt_of_le (by rw [q4.len]; exact hl) (by decide), rfl⟩, ?_⟩
        exact kk.nx _ _ _ ((g1.trans g2).st.trans g2.er s5) r5 hp
      · exact h2.elim
    · exact h0.elim)⟩
/-- x[j] = v, one's own list -/
def wPutL (i : Nat) (v : WE) (b : WE) : WS := fun Γ R => v Γ fun z Γ1 => isOwn i Γ1 ∧ b Γ1 fun y Γ2 => match Γ2[i]? with
  | some (.own ds) => oInt y fun j => ∃ kk, ixN ds.length j = some kk ∧ R.nx (Γ2.set i (.own (ds.set kk z)))
  | _ => False
theorem ss_putL {x : Str} {npos spos : Pos} (bd : Bd c k) (i : Nat) (hN : c.X.N[i]? = some x) (hv : Vis c.X.env.scope x) (ha : SE c e we) (hb : SE c b wb) (hdb : (x == ("__debug__" : Str)) = false := by decide) (hcd : (x == ("__classdict__" : Str)) = false := by decide)
    (has : ∀ v, assign (.Subscript (.Name x npos) b pos) c.X.env v = (do
      let ov ← holding [v] (eval (.Name x npos) c.X.env)
      let iv ← holding [v, ov] (eval b c.X.env)
      standAt pos
      holding [v, ov, iv] (setItem ov iv v)
      release [v, ov, iv] []) := by intro _; rfl)
    (hs : swapsWithSole [.Subscript (.Name x npos) b pos] e spos.line c.X.env = pure false := by rfl) (hw : swappedStores [.Subscript (.Name x npos) b pos] e c.X.env = pure none := by rfl) (h1 : (assignEach [.Subscript (.Name x npos) b pos] c.X.env).map (·.2) = [assign (.Subscript (.Name x npos) b pos) c.X.env] := by rfl) : SS c (.Assign [.Subscript (.Name x npos) b pos] e spos) (wPutL i we wb) := ⟨fun {Γ R} w => fun σ H er W Dd tk kk =>
  outS (ps_asg selfE (pg_sub (pe_var hN hv hdb hcd) selfE set_list has) hs hw h1) ((ha.run w) σ H er _ W tk kk.xw fun v z Γ1 H1 g1 r1 h1 => by
    obtain ⟨h0, h1⟩ := h1
    unfold isOwn at h0
    split at h0
    · rename_i ks0 hd0
      obtain ⟨a, xs, e1, e2, e3, e4⟩ := g1.er.own i ks0 hd0
      refine ⟨_, e1, ?_⟩
      refine (hb.run h1) σ H1 g1.er _ W tk (kk.xw.on g1.er g1.st) fun u y Γ2 H2 g2 r2 h2 => ?_
      dsimp only at h2
      split at h2
      · rename_i ks hd
        obtain ⟨j, ej, kx, hk, hp⟩ := oInt_of h2
        subst ej
        cases r2
        obtain ⟨a', xs', q1, q2, q3, q4⟩ := g2.er.own i ks hd
        rw [e1] at q1
        cases q1
        have r1' := Rp.to (g2.goes g1.er) _ _ r1
        obtain ⟨r5, s5, _⟩ := g2.er.mut i hd rfl e1 (.lst (q4.set kx r1'))
        exact ⟨_, _, j, kx, rfl, rfl, q2, by rw [q4.length]; exact hk, kk.nx _ _ _ ((g1.trans g2).st.trans g2.er s5) r5 hp⟩
      · exact h2.elim
    · exact h0.elim)⟩
/-- x.extend(e) -/
def wExtend (i : Nat) (a : WE) : WS := fun Γ R => isOwn i Γ ∧ a Γ fun d Γ1 => oLst d fun es => match Γ1[i]? with
  | some (.own ds) => ds.length + es.length ≤ 16777216 ∧ R.nx (Γ1.set i (.own (ds ++ es)))
  | _ => False
theorem ss_extend {x name : Str} {apos cpos npos : Pos} (i : Nat) (hN : c.X.N[i]? = some x) (hv : Vis c.X.env.scope x) (hn : name = "extend") (ha : SE c e we)
    (hdb : (x == ("__debug__" : Str)) = false := by decide) (hcd : (x == ("__classdict__" : Str)) = false := by decide)
    (hfew : ((backTo cpos (starEach [e] c.X.env)).all (fun x => !x.1) && (backToKw cpos (keywordEach [] c.X.env)).all (fun x => x.1.isSome) && decide (([e] : List Expr).length + ([] : List Keyword).length + (if ([] : List Keyword).isEmpty then 0 else 1) < 30)) = true := by rfl)
    (hbase : attributeBase (.Name x npos) "extend" c.X.env (eval (.Name x npos) c.X.env) = eval (.Name x npos) c.X.env := by rfl)
    (hline : (apos.endLine == cpos.line) = true := by rfl) (hst : starEach [e] c.X.env = (false, eval e c.X.env) :: starEach [] c.X.env := by rfl)
    (hs : swapsWith (.Call (.Attribute (.Name x npos) "extend" apos) [e] [] cpos) none pos.line c.X.env = pure false := by rfl) :
    SS c (.Expr (.Call (.Attribute (.Name x npos) name apos) [e] [] cpos) pos) (wExtend i we) := ⟨fun {Γ R} w => by
  obtain ⟨w0, w⟩ := w
  unfold isOwn at w0
  split at w0
  · rename_i ds0 hd0
    intro σ H er W Dd tk kk
    subst hn
    obtain ⟨a0, xs0, f1, f2, f3, f4⟩ := er.own i ds0 hd0
    refine outS (ps_expr (pe_bm PySem.F.plainAttrs_list PySem.F.slot_list_extend PySem.F.type_list_extend mt_extend (pe_var hN hv hdb hcd) (pa_cons selfE pa_nil hst) hbase hfew hline hst (by rfl)) hs) ⟨_, f1, .inl ⟨rfl, _, .inl (.inl f2)⟩, ?_⟩
    refine (ha.run w) σ H er _ W tk kk.xw fun v d Γ1 H1 g r h1 => ?_
    obtain ⟨es, rfl, h1⟩ := oLst_of h1
    split at h1
    · rename_i ds hd
      obtain ⟨hl, hp⟩ := h1
      obtain ⟨a1, xs1, q1, q2, q3, q4⟩ := g.er.own i ds hd
      have e1 := q1.symm.trans f1
      cases e1
      cases r with
      | lst g1 g2 g3 =>
        obtain ⟨r2, s2, _⟩ := g.er.mut i hd rfl q1 (.lst (q4.app g3))
        exact ⟨_, _, _, _, rfl, rfl, q2, g1, by rw [q4.length, g3.length]; exact sz hl, kk.nx _ _ _ (g.st.trans g.er s2) r2 hp⟩
    · exact h1.elim
  · exact w0.elim⟩
/-- x op= e -/
def wAug (o : O2) (i : Nat) (a : WE) : WS := fun Γ R => match Γ[i]? with
  | some (.dat x) => i < Γ.length ∧ a Γ fun y Γ1 => o x y fun z => R.nx (Γ1.set i (.dat z))
  | _ => False
structure AugOk (c : Co) (op : Operator) (o : O2) : Prop where
  run : ∃ t : TIp, PIp c.X op t ∧ ∀ {x y : D} {P : D → Prop}, o x y P → ∀ (M : Ex) (H : Hw) (v w : V), Rp M H v x → Rp M H w y → ∀ Q : VK, (∀ u z, Rp M H u z → P z → Q u H) → t v w H Q
def oAddI : O2
  | .int i, .int j, P => P (.int (i + j))
  | _, _, _ => False
theorem ag_add : AugOk c .Add oAddI := ⟨_, ip_add, fun h M H v w r1 r2 Q q => by
  unfold oAddI at h
  split at h
  · cases r1
    cases r2
    exact ⟨_, _, rfl, rfl, q _ _ (.int _) h⟩
  · exact h.elim⟩
theorem ag_sub : AugOk c .Sub oSub := ⟨_, ip_sub, fun h M H v w r1 r2 Q q => by
  unfold oSub at h
  split at h
  · cases r1
    cases r2
    exact ⟨_, _, rfl, rfl, q _ _ (.int _) h⟩
  · exact h.elim⟩
theorem ag_div : AugOk c .FloorDiv oDiv := ⟨fun x y H Q => rI CDiv (fun i j => .int (i / j)) x y H Q, fun pins s σ H x y v u Q I r1 r2 h => iop_fdiv pins s σ H x y v u Q I r1 r2 h, fun h M H v w r1 r2 Q q => by
  unfold oDiv at h
  split at h
  · cases r1
    cases r2
    exact ⟨_, _, rfl, rfl, ⟨h.1, h.2.1⟩, q _ _ (.int _) h.2.2⟩
  · exact h.elim⟩
theorem ag_divW : AugOk c .FloorDiv oDivW := ⟨fun x y H Q => rI CDivW (fun i j => .int (i / j)) x y H Q, fun pins s σ H x y v u Q I r1 r2 h => iop_fdivW pins s σ H x y v u Q I r1 r2 h, fun h M H v w r1 r2 Q q => by
  unfold oDivW at h
  split at h
  · cases r1
    cases r2
    exact ⟨_, _, rfl, rfl, ⟨h.1, h.2.1⟩, q _ _ (.int _) h.2.2⟩
  · exact h.elim⟩
theorem ss_aug {op : Operator} {o : O2} {x : Str} {npos : Pos} (bd : Bd c k) (ho : AugOk c op o) (i : Nat) (hi : c.X.N[i]? = some x) (hx : Loc c.X.env.scope x) (ha : SE c e we) (hf : c.X.fn x = true ∨ c.X.env.scope.names.lookup x = some .local := by first | exact .inl rfl | exact .inr rfl) : SS c (.AugAssign (.Name x npos) op e pos) (wAug o i we) := ⟨fun {Γ R} w => by
  obtain ⟨t, pt, hr⟩ := ho.run
  unfold wAug at w
  split at w
  · rename_i d hd
    intro σ H er W Dd tk kk
    obtain ⟨v, e1, r1⟩ := er.dat i d hd
    refine outS (ps_aug bd.nd hi hx selfE pt hf) ⟨v, e1, ?_⟩
    refine (ha.run w.2) σ H er _ W tk kk.xw fun u y Γ1 H1 g r2 h2 => ?_
    refine hr h2 (Mx c.M σ Γ1) H1 v u (Rp.to (g.goes er) _ _ r1) r2 _ fun z dz rz hp => ?_
    exact kk.nx _ _ _ (g.st.trans g.er (step_set i)) (g.er.set i rz (by rw [g.length]; exact w.1)) hp
  · exact w.elim⟩
/-- the right side of a comparison as a value, one's own list on the left -/
def wCmpO (o : OC) (i : Nat) (b : WE) : WE := fun Γ P => match Γ[i]? with
  | some (.own ds) => b Γ fun y Γ2 => Γ2[i]? = some (.own ds) ∧ o (.lst ds) y fun q => P (.bl q) Γ2
  | some (.dat d) => b Γ fun y Γ2 => o d y fun q => P (.bl q) Γ2
  | _ => False
theorem se_cmpO (bd : Bd c k) {op : CmpOp} {o : OC} {x : Str} {npos : Pos} (ho : CmOk c op o) (i : Nat) (hN : c.X.N[i]? = some x) (hv : Vis c.X.env.scope x) (hb : SQ c b wb) (hm : behindInMarks op b = false := by first | exact nomark _ | rfl) (hdb : (x == ("__debug__" : Str)) = false := by decide) (hcd : (x == ("__classdict__" : Str)) = false := by decide) : SE c (.Compare (.Name x npos) [op] [b] pos) (wCmpO o i wb) :=
  ⟨fun {Γ P} h => by
    unfold wCmpO at h
    split at h
    · rename_i ds hd
      obtain ⟨r, hr0, hr⟩ := cmp_rule bd (op := op)
      exact ev_cmpo i hN hv hd hr0 (eq_mono (hb.run h) fun y Γ2 h => ⟨h.1, by
        obtain ⟨q, hq, hp⟩ := ho.run h.2
        exact ⟨_, hr _ _ q hq, hp⟩⟩) hm hdb hcd
    · rename_i d hd
      exact ev_cmpD bd (ev_var i hN hv hd (eq_mono (hb.run h) fun y Γ2 h => ho.run h) hdb hcd) hm
    · exact h.elim⟩
end
end U
/-! W6: dict comprehensions over data. -/
namespace U
open PySem PySem.Spec PyProof.Rows L2
section
variable {c : Co} {k : Nat} {Γ : Ga} {pos : Pos}
structure MidK (c : Co) (σ : Sw) (Γ1 : Ga) (vs : List Nat) (H1 : Hw) (Dl : Addr) (accV : List (L2.Key × V)) (acc : List (L2.Key × D)) (H2 : Hw) : Prop where
  pres : ∀ a o, ¬ c.U.T a → ¬ Ow σ Γ1 a → H1 a = some o → H2 a = some o
  er : ER c.U (fun a => c.M a ∨ a = Dl) H2 (wipe σ vs) (unset vs Γ1)
  dl : H2 Dl = some (.dK accV)
  ra : RpK (Mx (fun a => c.M a ∨ a = Dl) (wipe σ vs) (unset vs Γ1)) H2 accV acc
theorem putD_len (ks : List (L2.Key × D)) (kk : L2.Key) (d : D) : (putD ks kk d).length ≤ ks.length + 1 := by
  unfold putD
  split
  · simp
  · simp
theorem dc_data {kx vx tg : Expr} {scope : Scope} {vs : List Nat} {σ : Sw} {Γ1 : Ga} {H1 : Hw} {J : It} {xs : List D} {I : Nat → List (L2.Key × D) → Prop} {Dl : Addr} {Qd : Hw → Prop} (er : ER c.U c.M H1 σ Γ1) (src : Src c σ Γ1 H1 J xs) (hD : H1 Dl = none) (h0 : I 0 []) (hl : xs.length ≤ 1000000)
    (hs : ∀ i x acc, xs[i]? = some x → I i acc → acc.length ≤ i →
      ∀ (s : Shared) (H : Hw) (C : Addr) (cl : List (Str × Addr)) (fp : List Addr), Gw (c.inner s H scope C cl fp Dl) vs tg (unset vs Γ1) x fun Γ2 =>
        ∀ (s : Shared) (H : Hw) (C : Addr) (cl : List (Str × Addr)) (fp : List Addr), Ev (c.inner s H scope C cl fp Dl) kx Γ2 fun y Γ3 => Γ3 = Γ2 ∧ ∃ kk, keyD y = some kk ∧
          ∀ (s : Shared) (H : Hw) (C : Addr) (cl : List (Str × Addr)) (fp : List Addr), Ev (c.inner s H scope C cl fp Dl) vx Γ2 fun z Γ4 => Γ4 = Γ2 ∧ I (i + 1) (putD acc kk z))
    (hd : ∀ accV acc H2, MidK c σ Γ1 vs H1 Dl accV acc H2 → I xs.length acc → Qd H2) :
    ∃ W : Nat → Nat → Hw → Prop, (∃ m, W 0 m (upd H1 Dl (.dK []))) ∧ ∀ i m H, W i m H →
      (J.stop i H ∧ Qd H) ∨ (J.go i H ∧ ∃ Nx : Hw → Prop, (∀ H', Nx H' → ∃ m', m' < m ∧ W (i + 1) m' H') ∧ ∀ x H', J.yld i H x H' → wpGX c.X scope tg x (wipe σ vs) H' fun σ2 H2 => wipe σ2 vs = wipe σ vs ∧ wpFX c.X scope [] σ2 H2 fun b H3 =>
        if b = true then wpEX c.X scope kx σ2 H3 fun y H4 => wpEX c.X scope vx σ2 H4 fun z H5 => ∃ kvs k, y = kV k ∧ H5 Dl = some (.dK kvs) ∧ kvs.length < sizeLine ∧ Nx (upd H5 Dl (.dK (putK kvs k z))) else Nx H3) := by
  have npD : ¬ c.U.T Dl := fun t => er.kn Dl (er.tm Dl t) hD
  have hM : ∀ a, (c.M a ∨ a = Dl) → c.M a ∨ H1 a = none := fun a h => h.imp id fun z => by rw [z]; exact hD
  refine ⟨fun i m H2 => m = xs.length - i ∧ i ≤ xs.length ∧ ∃ accV acc, MidK c σ Γ1 vs H1 Dl accV acc H2 ∧ acc.length ≤ i ∧ I i acc, ⟨xs.length, by simp, Nat.zero_le _, [], [], ⟨fun a o _ _ e => Grow.new hD a o e, (er.unset vs).apart hD, upd_same, .nil⟩, Nat.le_refl _, h0⟩, ?_⟩
  rintro i m H2 ⟨rfl, hi, accV, acc, md, al, hI⟩
  have st : Step c.U σ Γ1 H1 (wipe σ vs) (unset vs Γ1) H2 := ⟨md.pres, fun a z => .inl (ow_unset z)⟩
  by_cases hlt : i < xs.length
  · refine .inr ⟨src.go i _ _ _ H2 hM st.m md.er hlt, fun H' => ∃ accV acc, MidK c σ Γ1 vs H1 Dl accV acc H' ∧ acc.length ≤ i + 1 ∧ I (i + 1) acc, fun H' z => ⟨xs.length - (i + 1), by omega, rfl, hlt, z⟩, fun v H3 y s H0 C cl fp => ?_⟩
    obtain ⟨gr, d, hd', rd⟩ := src.yld i _ _ _ H2 v H3 hM st.m md.er hlt y
    refine hs i d acc hd' hI al s H0 C cl fp (wipe σ vs) H3 v (md.er.grow gr) rd _ (fun σ4 Γ4 e4 u4 s4 r4 hF => ⟨e4.trans (wipe_idem σ vs), fun s H0 C cl fp => .inl ⟨rfl, ?_⟩⟩)
    rw [unset_idem] at u4
    rw [wipe_idem] at e4
    have xw0 : ∀ (s : Shared) (H0 : Hw) (C : Addr) (cl : List (Str × Addr)) (fp : List Addr) {Γ5 : Ga} {H5 : Hw}, XW (c.inner s H0 scope C cl fp Dl) σ4 Γ5 H5 (fun _ _ _ _ => False) := fun _ _ _ _ _ _ _ _ _ _ _ _ _ _ _ _ e => e
    show wpEX c.X scope kx σ4 H3 _
    intro s H0 C cl fp
    refine hF s H0 C cl fp σ4 H3 r4 _ (fun _ _ _ _ => False) takes0 (xw0 s H0 C cl fp) fun w y5 Γ5 H5 g5 p5 ⟨e5, kk, hk, hv⟩ => ?_
    subst e5
    intro s H0 C cl fp
    refine hv s H0 C cl fp σ4 H5 g5.er _ (fun _ _ _ _ => False) takes0 (xw0 s H0 C cl fp) fun w2 z6 Γ6 H6 g6 p6 ⟨e6, hI6⟩ => ?_
    subst e6
    have fr6 : ∀ a o, ¬ c.U.T a → ¬ Ow σ4 Γ6 a → H3 a = some o → H6 a = some o := fun a o t n e => g6.st.fr a o t n (g5.st.fr a o t n e)
    have r6 : ER c.U (fun a => c.M a ∨ a = Dl) H6 σ4 Γ6 := g6.er
    have noD : ¬ Ow σ4 Γ6 Dl := fun z => (r6.own_ne z).1 (.inr rfl)
    have keep : ∀ a o, ¬ c.U.T a → ¬ Ow (wipe σ vs) (unset vs Γ1) a → H2 a = some o → H6 a = some o := fun a o t n e => fr6 a o t (fun z => by
      rcases s4.og a z with z | z
      · exact n z
      · rw [gr a o e] at z; cases z) (gr a o e)
    have atD : H6 Dl = some (.dK accV) := fr6 Dl _ npD (fun z => (r4.own_ne z).1 (.inr rfl)) (gr _ _ md.dl)
    have e7 : ER c.U (fun a => c.M a ∨ a = Dl) H6 (wipe σ vs) (unset vs Γ1) := by
      have z := r6.unset vs
      rw [u4, e4] at z
      exact z
    refine ⟨accV, kk, keyD_of p5 hk, atD, Nat.lt_of_lt_of_le (show accV.length < 1000001 by rw [md.ra.len]; omega) (by decide), putK accV kk w2, putD acc kk z6, ⟨fun a o t n e => ?_, e7.apartMut npD, upd_same, RpK.put kk ?_ ?_⟩, by have := putD_len acc kk z6; omega, hI6⟩
    · rw [upd_ne (ne_of_none e hD)]
      exact keep a o t (fun z => n (ow_unset z)) (md.pres a o t n e)
    · refine Rp.to ⟨fun a o m e => ⟨?_, fun z => m (z.elim .inl fun y => .inr ?_)⟩⟩ _ _ p6
      · rw [upd_ne fun z => m (.inl (.inr z))]
        exact e
      · rw [← e4, ← u4] at y
        exact ow_unset y
    · refine RpK.to ⟨fun a o m e => ⟨?_, m⟩⟩ _ _ md.ra
      rw [upd_ne fun z => m (.inl (.inr z))]
      exact keep a o (fun t => m (.inl (md.er.tm a t))) (fun z => m (.inr z)) e
  · have e : i = xs.length := by omega
    subst e
    exact .inl ⟨src.stop _ _ _ H2 hM st.m md.er, hd _ _ _ md hI⟩
theorem dc_reads {P : D → Ga → Prop} {kx vx tg iter : Expr} {scope : Scope} (own : List (Str × Nat)) (bd : Bd c k)
    (h : Iv c tg iter Γ fun xs Γ1 => ∃ I : Nat → List (L2.Key × D) → Prop, I 0 [] ∧ xs.length ≤ 1000000 ∧ (∀ m ∈ own.map (·.2), ∀ s, Γ1[m]? = some s → s.mine = false) ∧
      (∀ i x acc, xs[i]? = some x → I i acc → acc.length ≤ i → ∀ (Dl : Addr) (s : Shared) (H : Hw) (C : Addr) (cl : List (Str × Addr)) (fp : List Addr), Gw (c.inner s H scope C cl fp Dl) (own.map (·.2)) tg (unset (own.map (·.2)) Γ1) x fun Γ2 =>
        ∀ (s : Shared) (H : Hw) (C : Addr) (cl : List (Str × Addr)) (fp : List Addr), Ev (c.inner s H scope C cl fp Dl) kx Γ2 fun y Γ3 => Γ3 = Γ2 ∧ ∃ kk, keyD y = some kk ∧
          ∀ (s : Shared) (H : Hw) (C : Addr) (cl : List (Str × Addr)) (fp : List Addr), Ev (c.inner s H scope C cl fp Dl) vx Γ2 fun z Γ4 => Γ4 = Γ2 ∧ I (i + 1) (putD acc kk z)) ∧
      ∀ acc, I xs.length acc → P (.dic acc) Γ1)
    {σ : Sw} {H : Hw} (er : ER c.U c.M H σ Γ) {Q : VK} {W : WX} (tk : Takes c.X W) (xw : XW c σ Γ H W) (q : ∀ v d Γ' H', Go c σ Γ H Γ' H' → Rp (Mx c.M σ Γ') H' v d → P d Γ' → Q v H') :
    tDc (wpI c.X tg iter) (wpGX c.X scope tg) (wpFX c.X scope []) (wpEX c.X scope kx) (wpEX c.X scope vx) (own.map (·.2)) σ H Q := by
  refine h σ H er _ W tk xw fun J xs Γ1 H1 g src ⟨I, h0, hl, hm, ht, hd⟩ Dl hD => ?_
  refine dc_data g.er src hD h0 hl (fun i x acc hx hI al => ht i x acc hx hI al Dl) fun accV acc H2 md hI => ?_
  have st : Step c.U σ Γ1 H1 σ Γ1 H2 := ⟨md.pres, fun a z => .inl z⟩
  have ge : Goes (Mx c.M σ Γ1) (Mx c.M σ Γ1) H1 H2 := st.goes g.er
  have down : ∀ a, Ow σ Γ1 a → Ow (wipe σ (own.map (·.2))) (unset (own.map (·.2)) Γ1) a := fun a ⟨i, s, h1, h2, h3⟩ => by
    by_cases hi : i ∈ own.map (·.2)
    · rw [hm i hi s h1] at h2
      cases h2
    · exact ⟨i, s, by rw [unset_off hi]; exact h1, h2, by rw [wipe_off hi]; exact h3⟩
  have gd : Goes (Mx (fun a => c.M a ∨ a = Dl) (wipe σ (own.map (·.2))) (unset (own.map (·.2)) Γ1)) (Mx c.M σ Γ1) H2 H2 := ⟨fun a o m e => ⟨e, fun z => m (z.elim (fun y => .inl (.inl y)) fun y => .inr (down a y))⟩⟩
  have er2 : ER c.U c.M H2 σ Γ1 := by
    refine ER.of g.er.tm (fun a m => md.er.kn a (.inl m)) md.er.j g.er.len (fun i d h => ?_) (fun i s h m => ?_) g.er.sep
    · obtain ⟨v, h1, h2⟩ := g.er.dat i d h
      exact ⟨v, h1, Rp.to ge _ _ h2⟩
    · have hi : i ∉ own.map (·.2) := fun z => by rw [hm i z s h] at m; cases m
      obtain ⟨a, o, h1, h2, h3, h4⟩ := md.er.ob (i := i) (s := s) (by rw [unset_off hi]; exact h) m
      rw [wipe_off hi] at h1
      exact ⟨a, o, h1, h2, fun z => h3 (.inl z), h4.to gd⟩
  have nm : ¬ Mx c.M σ Γ1 Dl := fun z => g.er.mx Dl z hD
  exact q _ _ Γ1 H2 (g.trans ⟨st, rfl, er2⟩) (.dic md.dl nm (RpK.to gd _ _ md.ra)) (hd acc hI)
theorem ev_dc {P : D → Ga → Prop} {kx vx tg iter : Expr} {scope : Scope} (own : List (Str × Nat)) (bd : Bd c k) (ok : BlkOk c.X.N c.X.env.scope scope own)
    (h : Iv c tg iter Γ fun xs Γ1 => ∃ I : Nat → List (L2.Key × D) → Prop, I 0 [] ∧ xs.length ≤ 1000000 ∧ (∀ m ∈ own.map (·.2), ∀ s, Γ1[m]? = some s → s.mine = false) ∧
      (∀ i x acc, xs[i]? = some x → I i acc → acc.length ≤ i → ∀ (Dl : Addr) (s : Shared) (H : Hw) (C : Addr) (cl : List (Str × Addr)) (fp : List Addr), Gw (c.inner s H scope C cl fp Dl) (own.map (·.2)) tg (unset (own.map (·.2)) Γ1) x fun Γ2 =>
        ∀ (s : Shared) (H : Hw) (C : Addr) (cl : List (Str × Addr)) (fp : List Addr), Ev (c.inner s H scope C cl fp Dl) kx Γ2 fun y Γ3 => Γ3 = Γ2 ∧ ∃ kk, keyD y = some kk ∧
          ∀ (s : Shared) (H : Hw) (C : Addr) (cl : List (Str × Addr)) (fp : List Addr), Ev (c.inner s H scope C cl fp Dl) vx Γ2 fun z Γ4 => Γ4 = Γ2 ∧ I (i + 1) (putD acc kk z)) ∧
      ∀ acc, I xs.length acc → P (.dic acc) Γ1)
    (hs : ∀ x, foldedSetIterable iter c.X.env x = pure x := by intro _; rfl) : Ev c (.DictComp kx vx [⟨tg, iter, [], 0⟩] scope pos) Γ P := fun σ H er Q W tk xw q => by
  refine outE (pe_dc (own := own) (g := wpGX c.X scope tg) (tt := wpFX c.X scope []) (tk := wpEX c.X scope kx) (tv := wpEX c.X scope vx) bd.calm bd.nd selfI ok (fun s H C cl fp => ⟨fun pins s' σ H' v u Q I r h => (h s H C cl fp).run pins s' u I r⟩)
    (fun s H C cl fp => ⟨fun pins s' σ H' Q I h => selfF.run pins s' σ H' Q I (h s H C cl fp)⟩) (fun s H C cl fp => ⟨fun pins s' σ H' Q I h => (h s H C cl fp).run pins s' I⟩) (fun s H C cl fp => ⟨fun pins s' σ H' Q I h => (h s H C cl fp).run pins s' I⟩) hs) (dc_reads own bd h er tk xw q)
def wDc (vs : List Nat) (i : WL) (g : WG) (ke ve : WE) : WE := fun Γ P => i Γ fun xs Γ1 => xs.length ≤ 1000000 ∧ calm vs Γ1 ∧ ∃ I : Nat → List (L2.Key × D) → Prop, I 0 [] ∧
  (∀ i x acc, xs[i]? = some x → I i acc → acc.length ≤ i → g (unset vs Γ1) x fun Γ2 => ke Γ2 fun y Γ3 => Γ3 = Γ2 ∧ oKey y fun kk => ve Γ2 fun z Γ4 => Γ4 = Γ2 ∧ I (i + 1) (putD acc kk z)) ∧ ∀ acc, I xs.length acc → P (.dic acc) Γ1
theorem se_dc {tg iter kx vx : Expr} {scope : Scope} {wl : WL} {wg : WG} {wk wv : WE} (own : List (Str × Nat)) (bd : Bd c k) (ok : BlkOk c.X.N c.X.env.scope scope own) (hi : SI c tg iter wl) (hg : ∀ (Dl : Addr) (s : Shared) (H : Hw) (C : Addr) (cl : List (Str × Addr)) (fp : List Addr), Bd (c.inner s H scope C cl fp Dl) k → SH (c.inner s H scope C cl fp Dl) (own.map (·.2)) tg wg)
    (hk : ∀ (Dl : Addr) (s : Shared) (H : Hw) (C : Addr) (cl : List (Str × Addr)) (fp : List Addr), Bd (c.inner s H scope C cl fp Dl) k → SE (c.inner s H scope C cl fp Dl) kx wk)
    (he : ∀ (Dl : Addr) (s : Shared) (H : Hw) (C : Addr) (cl : List (Str × Addr)) (fp : List Addr), Bd (c.inner s H scope C cl fp Dl) k → SE (c.inner s H scope C cl fp Dl) vx wv) (hs : ∀ x, foldedSetIterable iter c.X.env x = pure x := by intro _; rfl) : SE c (.DictComp kx vx [⟨tg, iter, [], 0⟩] scope pos) (wDc (own.map (·.2)) wl wg wk wv) :=
  ⟨fun w => ev_dc own bd ok (iv_mono (hi.run w) fun xs Γ1 ⟨hl, hc, I, h0, h1, h2⟩ => ⟨I, h0, hl, calm_of hc, fun i x acc hx hI hacc Dl s H C cl fp => gw_mono ((hg Dl s H C cl fp (bd.inner s H scope C cl fp Dl)).run (h1 i x acc hx hI hacc)) fun Γ2 w s2 H2 C2 cl2 fp2 => ev_mono ((hk Dl s2 H2 C2 cl2 fp2 (bd.inner s2 H2 scope C2 cl2 fp2 Dl)).run w) fun y Γ3 ⟨e3, w⟩ => ⟨e3, by
    obtain ⟨kk, hk, w⟩ := oKey_of w
    exact ⟨kk, hk, fun s3 H3 C3 cl3 fp3 => (he Dl s3 H3 C3 cl3 fp3 (bd.inner s3 H3 scope C3 cl3 fp3 Dl)).run w⟩⟩, h2⟩) hs⟩
theorem ss_never {st : Stmt} : SS c st fun _ _ => False := ⟨fun w => w.elim⟩
def wNever : WS := fun _ _ => False
theorem ss_nev {st : Stmt} : SS c st wNever := ⟨fun w => w.elim⟩
end
end U
namespace U
open PySem PySem.Spec PyProof.Rows L2
/-- one's own list becomes data -/
def wFrz (i : Nat) (s : WS) : WS := fun Γ R => match Γ[i]? with
  | some (.own ds) => s (Γ.set i (.dat (.lst ds))) R
  | some (.dat _) => s Γ R
  | _ => False
theorem sb_frz {c : Co} {sts : List Stmt} {w1 : WS} (i : Nat) (h : SB c sts w1) : SB c sts (wFrz i w1) := ⟨fun {Γ R} w => by
  unfold wFrz at w
  split at w
  · rename_i ds hd
    exact sv_freeze i hd (h.run w)
  · exact h.run w
  · exact w.elim⟩
/-! ### the turns of walks, told over data alone -/
theorem lc_map {vs : List Nat} {wi : WL} {wg : WG} {we : WE} {Γ : Ga} {P : D → Ga → Prop} (h : wi Γ fun xs Γ1 => xs.length ≤ 1000000 ∧ calm vs Γ1 ∧ ∃ g : D → D, (∀ x ∈ xs, wg (unset vs Γ1) x fun Γ2 => we Γ2 fun y Γ4 => Γ4 = Γ2 ∧ y = g x) ∧ P (.lst (xs.map g)) Γ1) (mono : ∀ {P P' : List D → Ga → Prop} {Γ : Ga}, wi Γ P → (∀ xs Γ1, P xs Γ1 → P' xs Γ1) → wi Γ P') : wLc vs wi wg we Γ P :=
  mono h fun xs Γ1 ⟨h1, h2, g, h3, h4⟩ => ⟨h1, h2, fun x y => y = g x, h3, fun ys hy => by rw [hy.eq]; exact h4⟩
end U
namespace U
open PySem PySem.Spec PyProof.Rows L2
/-- y = {k: v for ..} on one row -/
theorem ps_setDc {X : Cx} {i : Nat} {y : Str} {py : Pos} {kx vx tg iter : Expr} {ifs : List Expr} {scope : Scope} {own : List (Str × Nat)} {pos spos : Pos} {wi : TI} {g : TG} {tt : TT} {tk tv : TE} (hc : X.calm = true) (hN : X.N.Nodup) (hy : X.N[i]? = some y) (hyl : X.env.scope.names.lookup y = some .local)
    (hsw : swapsWith (.DictComp kx vx [⟨tg, iter, ifs, 0⟩] scope pos) (some (.Name y py)) spos.line X.env = pure true) (hi : PI X tg iter wi) (ok : BlkOk X.N X.env.scope scope own)
    (hg : ∀ (s : Shared) (H : Hw) (C : Addr) (cl : List (Str × Addr)) (fp : List Addr), PG (X.blk s H scope (compEnvC scope cl C X.env) fp) tg g) (ht : ∀ (s : Shared) (H : Hw) (C : Addr) (cl : List (Str × Addr)) (fp : List Addr), PTs (X.blk s H scope (compEnvC scope cl C X.env) fp) ifs tt)
    (hk : ∀ (s : Shared) (H : Hw) (C : Addr) (cl : List (Str × Addr)) (fp : List Addr), PE (X.blk s H scope (compEnvC scope cl C X.env) fp) kx tk)
    (he : ∀ (s : Shared) (H : Hw) (C : Addr) (cl : List (Str × Addr)) (fp : List Addr), PE (X.blk s H scope (compEnvC scope cl C X.env) fp) vx tv) (hs : ∀ x, foldedSetIterable iter X.env x = pure x := by intro _; rfl) :
    PS X (.Assign [.Name y py] (.DictComp kx vx [⟨tg, iter, ifs, 0⟩] scope pos) spos) (tAsg (tDc wi g tt tk tv (own.map (·.2))) (gName i)) := by
  refine ⟨fun pins s σ H D I h => ?_⟩
  rw [exec_Assign_Name_used _ _ _ _ hsw]
  refine wpAny_bind (wpAny_standAt (wpAny_bind ?_))
  show wpAny _ X.A (do let _ ← comprehension (.DictComp kx vx [⟨tg, iter, ifs, 0⟩] scope pos) scope X.env (firstIterPos [⟨tg, iter, ifs, 0⟩] pos) newDict false (eval iter X.env) (some (assign (.Name y py) X.env))) _ _ s
  have h : tDc wi g tt tk tv (own.map (·.2)) σ H (fun x H1 => gName i x σ H1 D.nx) := h
  refine wpAny_bind (thn (dc_core (Qf := fun _ s' => L2.SP X pins D .next s') hc hN I hi ok hg ht hk he hs h fun L C s' m H' I' q hn f => ?_) fun _ s' hq => wpAny_pure (wpAny_pure hq))
  show wpAny _ _ (assign (.Name y py) X.env (.ref L)) _ _ _
  refine wpAny_assign_Name (store_ok2 (v := V.ref L) I' hN hy (.inl hyl) rfl (fun s2 I2 ⟨a, sb, ha⟩ => ?_) (.inr hyl))
  obtain ⟨f0, f1, f2, f3, f4, f5⟩ := f
  have haC : C ≠ a := by
    rcases ha with z | z
    · rw [z]; exact f1
    · exact fun e => f4 y a z e.symm
  refine ⟨m, hn.sameBut sb haC, fun h3 sb3 => ?_⟩
  exact ⟨_, H', I2.turned (t' := s2.toks) (fun b o hb e => (sb3.2 b hb).trans e) f0 f1 f3 f4 f5, q⟩
end U
namespace U
open PySem PySem.Spec PyProof.Rows L2
theorem ss_setDc {c : Co} {k : Nat} {tg iter kx vx : Expr} {scope : Scope} {y : Str} {py pos spos : Pos} {wl : WL} {wg : WG} {wk wv : WE} (own : List (Str × Nat)) (bd : Bd c k) (j : Nat) (hy : c.X.N[j]? = some y) (hyl : c.X.env.scope.names.lookup y = some .local) (ok : BlkOk c.X.N c.X.env.scope scope own) (hi : SI c tg iter wl) (hg : ∀ (Dl : Addr) (s : Shared) (H : Hw) (C : Addr) (cl : List (Str × Addr)) (fp : List Addr), Bd (c.inner s H scope C cl fp Dl) k → SH (c.inner s H scope C cl fp Dl) (own.map (·.2)) tg wg)
    (hk : ∀ (Dl : Addr) (s : Shared) (H : Hw) (C : Addr) (cl : List (Str × Addr)) (fp : List Addr), Bd (c.inner s H scope C cl fp Dl) k → SE (c.inner s H scope C cl fp Dl) kx wk)
    (he : ∀ (Dl : Addr) (s : Shared) (H : Hw) (C : Addr) (cl : List (Str × Addr)) (fp : List Addr), Bd (c.inner s H scope C cl fp Dl) k → SE (c.inner s H scope C cl fp Dl) vx wv)
    (hsw : swapsWith (.DictComp kx vx [⟨tg, iter, [], 0⟩] scope pos) (some (.Name y py)) spos.line c.X.env = pure true := by rfl) (hs : ∀ x, foldedSetIterable iter c.X.env x = pure x := by intro _; rfl) : SS c (.Assign [.Name y py] (.DictComp kx vx [⟨tg, iter, [], 0⟩] scope pos) spos) (wSet j (wDc (own.map (·.2)) wl wg wk wv)) :=
  ⟨fun {Γ R} w => fun σ H er W Dd tk kk =>
    outS (ps_setDc (own := own) (g := wpGX c.X scope tg) (tt := wpFX c.X scope []) (tk := wpEX c.X scope kx) (tv := wpEX c.X scope vx) bd.calm bd.nd hy hyl hsw selfI ok (fun s H C cl fp => ⟨fun pins s' σ H' v u Q I r h => (h s H C cl fp).run pins s' u I r⟩)
      (fun s H C cl fp => ⟨fun pins s' σ H' Q I h => selfF.run pins s' σ H' Q I (h s H C cl fp)⟩) (fun s H C cl fp => ⟨fun pins s' σ H' Q I h => (h s H C cl fp).run pins s' I⟩) (fun s H C cl fp => ⟨fun pins s' σ H' Q I h => (h s H C cl fp).run pins s' I⟩) hs)
      (dc_reads (P := fun d Γ1 => R.nx (Γ1.set j (.dat d))) own bd (iv_mono (hi.run w.2) fun xs Γ1 ⟨hl, hc, I, h0, h1, h2⟩ => ⟨I, h0, hl, calm_of hc, fun i x acc hx hI hacc Dl s H C cl fp => gw_mono ((hg Dl s H C cl fp (bd.inner s H scope C cl fp Dl)).run (h1 i x acc hx hI hacc)) fun Γ2 w s2 H2 C2 cl2 fp2 => ev_mono ((hk Dl s2 H2 C2 cl2 fp2 (bd.inner s2 H2 scope C2 cl2 fp2 Dl)).run w) fun y Γ3 ⟨e3, w⟩ => ⟨e3, by
        obtain ⟨kk, hk, w⟩ := oKey_of w
        exact ⟨kk, hk, fun s3 H3 C3 cl3 fp3 => (he Dl s3 H3 C3 cl3 fp3 (bd.inner s3 H3 scope C3 cl3 fp3 Dl)).run w⟩⟩, h2⟩) er tk kk.xw fun v d Γ1 H1 g p hp => kk.nx _ _ _ (g.st.trans g.er (step_set j)) (g.er.set j p (by rw [g.length]; exact w.1)) hp)⟩
end U
/-! W7: ways to say what a transformer wants. -/
namespace U
open PySem PySem.Spec PyProof.Rows L2
theorem oEq_int {i j : Int} {P : Bool → Prop} : oEq (.int i) (.int j) P = P (decide (i = j)) := rfl
theorem oEq_str {i j : Str} {P : Bool → Prop} : oEq (.str i) (.str j) P = P (decide (i = j)) := rfl
theorem oNe_int {i j : Int} {P : Bool → Prop} : oNe (.int i) (.int j) P = P (!decide (i = j)) := rfl
theorem oNe_str {i j : Str} {P : Bool → Prop} : oNe (.str i) (.str j) P = P (!decide (i = j)) := rfl
theorem atI_intsG {ns : List Int} {i : Int} (h0 : 0 ≤ i) (h1 : i < (ns.length : Int)) : L2.atI (ns.map D.int) i = some (.int (ns.getD i.toNat 0)) := by
  obtain ⟨j, rfl⟩ := Int.eq_ofNat_of_zero_le h0
  have hj : j < ns.length := by omega
  refine atI_nat ?_
  rw [List.getElem?_map, List.getElem?_eq_getElem hj]
  simp [List.getD, List.getElem?_eq_getElem hj]
theorem atI_at {ds : List D} {j : Nat} {d : D} (h : ds[j]? = some d) : L2.atI ds (j : Int) = some d := atI_nat h
theorem atI_end {ns : List Int} (h : 0 < ns.length) : L2.atI (ns.map D.int) (-1) = some (.int (ns.getD (ns.length - 1) 0)) := by
  obtain ⟨a, b, rfl⟩ : ∃ a b, ns = a ++ [b] := by
    rcases List.eq_nil_or_concat ns with h' | ⟨a, b, h'⟩
    · rw [h'] at h; cases h
    · exact ⟨a, b, by simpa using h'⟩
  rw [List.map_append]
  have e : (a ++ [b]).getD ((a ++ [b]).length - 1) 0 = b := by simp [List.getD]
  rw [e]
  exact atI_last _ _
section
variable {ns : List Int} {i : Int} {P : D → Prop}
theorem oIx_ti (h0 : 0 ≤ i) (h1 : i < (ns.length : Int)) (h : P (.int (ns.getD i.toNat 0))) : oIx (.tup (ns.map D.int)) (.int i) P := ⟨_, atI_intsG h0 h1, h⟩
theorem oIx_li (h0 : 0 ≤ i) (h1 : i < (ns.length : Int)) (h : P (.int (ns.getD i.toNat 0))) : oIx (.lst (ns.map D.int)) (.int i) P := ⟨_, atI_intsG h0 h1, h⟩
theorem oIx_te (h1 : 0 < ns.length) (h : P (.int (ns.getD (ns.length - 1) 0))) : oIx (.tup (ns.map D.int)) (.int (-1)) P := ⟨_, atI_end h1, h⟩
theorem oIx_le (h1 : 0 < ns.length) (h : P (.int (ns.getD (ns.length - 1) 0))) : oIx (.lst (ns.map D.int)) (.int (-1)) P := ⟨_, atI_end h1, h⟩
theorem oIx_l {ds : List D} {j : Nat} {d : D} (h0 : ds[j]? = some d) (h : P d) : oIx (.lst ds) (.int j) P := ⟨d, atI_at h0, h⟩
theorem oIx_t {ds : List D} {j : Nat} {d : D} (h0 : ds[j]? = some d) (h : P d) : oIx (.tup ds) (.int j) P := ⟨d, atI_at h0, h⟩
end
theorem cmul_l {i j : Int} (h1 : -(2 ^ 64) < i) (h2 : i < 2 ^ 64) : CMul i j := .inl ⟨h1, h2⟩
theorem cmul_r {i j : Int} (h1 : -(2 ^ 64) < j) (h2 : j < 2 ^ 64) : CMul i j := .inr ⟨h1, h2⟩
theorem cmul_lN {i j : Int} (h1 : 0 ≤ i) (h2 : i < 1073741824) : CMul i j := .inl ⟨by omega, by omega⟩
theorem cmul_rN {i j : Int} (h1 : 0 ≤ j) (h2 : j < 1073741824) : CMul i j := .inr ⟨by omega, by omega⟩
theorem ints_back {ds : List D} (h : ∀ d ∈ ds, ∃ i, d = .int i) : ∃ ns : List Int, ds = ns.map D.int := by
  induction ds with
  | nil => exact ⟨[], rfl⟩
  | cons d ds ih =>
    obtain ⟨i, rfl⟩ := h d List.mem_cons_self
    obtain ⟨ns, rfl⟩ := ih fun x hx => h x (List.mem_cons_of_mem _ hx)
    exact ⟨i :: ns, rfl⟩
theorem enum_at {ns : List Int} {i : Nat} {x : D} (h : (enumD (ns.map D.int))[i]? = some x) : ∃ n, ns[i]? = some n ∧ x = .tup [.int (i : Nat), .int n] := by
  unfold enumD at h
  rw [List.getElem?_map] at h
  obtain ⟨y, hy, e⟩ := Option.map_eq_some_iff.mp h
  rw [List.getElem?_zipIdx, List.getElem?_map] at hy
  cases hn : ns[i]? with
  | none => rw [hn] at hy; cases hy
  | some n =>
    rw [hn] at hy
    simp at hy
    subst hy
    exact ⟨n, rfl, by rw [← e]⟩
theorem range_at {lo : Int} {n i : Nat} {x : D} (h : (rangeD lo n)[i]? = some x) : i < n ∧ x = .int (lo + (i : Nat)) := by
  have hi := (List.getElem?_eq_some_iff.mp h).1
  rw [rangeD_length] at hi
  rw [rangeD_at hi] at h
  exact ⟨hi, (Option.some.inj h).symm⟩
theorem range_mem {lo : Int} {n : Nat} {x : D} (h : x ∈ rangeD lo n) : ∃ i, i < n ∧ x = .int (lo + (i : Nat)) := by
  obtain ⟨i, hi⟩ := List.getElem?_of_mem h
  exact ⟨i, (range_at hi).1, (range_at hi).2⟩
theorem intsAt {ns : List Int} {i : Nat} {x : D} (h : (ns.map D.int)[i]? = some x) : ∃ n, ns[i]? = some n ∧ x = .int n := by
  rw [List.getElem?_map] at h
  obtain ⟨n, h1, h2⟩ := Option.map_eq_some_iff.mp h
  exact ⟨n, h1, h2.symm⟩
theorem intsMem {ns : List Int} {x : D} (h : x ∈ ns.map D.int) : ∃ n, n ∈ ns ∧ x = .int n := by
  obtain ⟨n, h1, h2⟩ := List.mem_map.mp h
  exact ⟨n, h1, h2.symm⟩
theorem All2.as {β : Type} {f : β → D} {Q : β → Prop} {R : D → D → Prop} (hR : ∀ x y, R x y → ∃ b, y = f b ∧ Q b) {xs ys : List D} (h : All2 R xs ys) : ∃ zs : List β, ys = zs.map f ∧ zs.length = xs.length ∧ ∀ z ∈ zs, Q z := by
  induction h with
  | nil => exact ⟨[], rfl, rfl, fun z h => by cases h⟩
  | cons a _ ih =>
    obtain ⟨zs, e, hl, hz⟩ := ih
    obtain ⟨b, rfl, hb⟩ := hR _ _ a
    exact ⟨b :: zs, by rw [e]; rfl, by simp [hl], fun z hz' => (List.mem_cons.mp hz').elim (fun e => by rw [e]; exact hb) (hz z)⟩
theorem All2.of_map {α : Type} {f g : α → D} {R : D → D → Prop} : ∀ {as : List α} {ys : List D}, (∀ a ∈ as, ∀ y, R (f a) y → y = g a) → All2 R (as.map f) ys → ys = as.map g
  | [], _, _, .nil => rfl
  | a :: as, _, hR, .cons h r => by
    rw [hR a List.mem_cons_self _ h, All2.of_map (fun b hb y hy => hR b (List.mem_cons_of_mem _ hb) y hy) r]
    rfl
theorem All2.ints {g : Int → D} {ns : List Int} {ys : List D} {R : D → D → Prop} (h : All2 R (ns.map D.int) ys) (hR : ∀ n ∈ ns, ∀ y, R (.int n) y → y = g n) : ys = ns.map g := All2.of_map hR h
end U
/-! W8: list(range(a, b)), xs[::2], three keywords the other way about. -/
namespace U
open PySem PySem.Spec PyProof.Rows L2
/-- each second item, from the first one on -/
def evens {α : Type} : List α → List α
  | [] => []
  | [a] => [a]
  | a :: _ :: r => a :: evens r
theorem evens_map {α β : Type} (f : α → β) : ∀ l : List α, evens (l.map f) = (evens l).map f
  | [] => rfl
  | [_] => rfl
  | a :: b :: r => by simp [evens, evens_map f r]
theorem evens_sub {α : Type} : ∀ l : List α, (evens l).Sublist l
  | [] => .slnil
  | [_] => List.Sublist.refl _
  | a :: b :: r => ((evens_sub r).cons b).cons₂ a
theorem evens_get {α : Type} : ∀ (l : List α) (k : Nat), (evens l)[k]? = l[2 * k]?
  | [], k => by simp [evens]
  | [a], 0 => rfl
  | [a], k + 1 => by simp [evens, Nat.mul_add]
  | a :: b :: r, 0 => rfl
  | a :: b :: r, k + 1 => by
    have e : 2 * (k + 1) = 2 * k + 1 + 1 := by omega
    rw [e]
    simp only [evens, List.getElem?_cons_succ]
    exact evens_get r k
theorem evens_len {α : Type} : ∀ l : List α, (evens l).length = (l.length + 1) / 2
  | [] => by simp [evens]
  | [_] => by simp [evens]
  | a :: b :: r => by
    have := evens_len r
    simp only [evens, List.length_cons]
    omega
theorem evens_pick (l : List Value) : (sliceRange 0 (l.length : Int) 2).filterMap (l[·]?) = evens l := by
  have h : sliceRange 0 (l.length : Int) 2 = (List.range ((l.length + 1) / 2)).map fun k => 2 * k := by
    unfold sliceRange
    by_cases z : (0 : Int) < l.length
    · have e : (((l.length : Int) - 0 + 2 - 1) / 2).toNat = (l.length + 1) / 2 := by omega
      simp only [show ((2 : Int) > 0) by decide, if_true, z, e]
      apply List.map_congr_left
      intro k _
      omega
    · have e : l.length = 0 := by omega
      simp [e]
  rw [h, ← evens_len]
  apply List.ext_getElem?
  intro i
  rw [List.filterMap_map]
  have e : ∀ n, n ≤ (evens l).length → (List.range n).filterMap ((fun x => l[x]?) ∘ fun k => 2 * k) = (evens l).take n := by
    intro n
    induction n with
    | zero => intro _; simp
    | succ n ih =>
      intro hn
      rw [List.range_succ, List.filterMap_append, ih (by omega), List.take_succ]
      congr 1
      simp only [List.filterMap_cons, List.filterMap_nil, Function.comp]
      rw [← evens_get, List.getElem?_eq_getElem (by omega)]
      rfl
  rw [e _ (Nat.le_refl _), List.take_length]
theorem krv_bounds2 (n : Nat) : sliceBounds none none (some 2) n = (0, (n : Int), 2) := by
  first
  | rfl
  | simp [sliceBounds]
theorem pick2 (items : Array Value) : slicePick items none none (some 2) = (evens items.toList).toArray := by
  unfold slicePick
  rw [krv_bounds2]
  show ((sliceRange 0 (items.size : Int) 2).filterMap (items[·]?)).toArray = _
  have := evens_pick items.toList
  rw [Array.length_toList] at this
  rw [← this]
  simp only [Array.getElem?_toList]
theorem vals_evens : ∀ {vs us}, Vals vs us → Vals (U.evens vs) (U.evens us)
  | _, _, .nil => .nil
  | _, _, .cons a .nil => .cons a .nil
  | _, _, .cons a (.cons _ r) => .cons a (vals_evens r)
theorem RpA.evens {M : Ex} {H : Hw} : ∀ {vs ds}, RpA M H vs ds → RpA M H (U.evens vs) (U.evens ds)
  | _, _, .nil => .nil
  | _, _, .cons a .nil => .cons a .nil
  | _, _, .cons a (.cons _ r) => .cons a (RpA.evens r)
section
variable {c : Co} {k : Nat} {Γ : Ga} {R : Oc} {P : D → Ga → Prop} {a b e : Expr} {es : List Expr} {pos p : Pos} {X : Cx} {wa wb wd : WE}
def tEvL (K : PySem.W.Frag) (te : TE) : TE := fun σ H Q => te σ H fun x H1 => ∃ a xs, x = .ref a ∧ SqL K H1 a xs ∧ ∀ p, H1 p = none → Q (.ref p) (upd H1 p (.lst (evens xs)))
theorem pe_evL {te : TE} {k : Nat} {p2 p3 pos : Pos} (he : PE X e te) : PE X (.Subscript e (.Slice none none (some (.Constant (.int 2) k p2)) p3) pos) (tEvL X.K te) := by
  refine ⟨fun pins s σ H Q I h => ?_⟩
  refine Subscript_ (thn (he.run pins s σ H _ I h) fun v s1 ⟨x, H1, I1, r1, q1⟩ => ?_)
  obtain ⟨a, xs, ex, hx, q⟩ := q1
  subst ex
  cases r1
  have hst : PO X (some (.Constant (.int 2) k p2)) (tPart (tC (.int 2))) := po_some pe_int
  refine wpAny_Slice (thn (po_none.run pins s1 σ H1 (fun o H2 => o = none ∧ H2 = H1) I1 ⟨rfl, rfl⟩) fun vl s2 ⟨l, H2, I2, pl, el, e2⟩ => ?_)
  subst el e2
  refine thn (po_none.run pins s2 σ H2 (fun o H3 => o = none ∧ H3 = H2) I2 ⟨rfl, rfl⟩) fun vu s3 ⟨u, H3, I3, pu, eu, e3⟩ => ?_
  subst eu e3
  refine thn (hst.run pins s3 σ H3 (fun o H4 => o = some 2 ∧ H4 = H3) I3 ⟨2, rfl, rfl, rfl⟩) fun vs s4 ⟨o, H4, I4, ps, eo, e4⟩ => ?_
  subst eo e4
  have I5 : Inv X pins σ H4 { s4 with heap := s4.heap.push { cls := .type "slice", data := .fields #[vl, vu, vs] } } := I4.kept (t' := s4.toks) fun b ob q => Heap.get?_push_of_some _ q
  obtain ⟨its, r, ht, hz⟩ := I5.list hx
  have hlen := r.length
  show wpAny (model X.prog X.w) X.A (subscriptTail e (.Slice none none (some (.Constant (.int 2) k p2)) p3) (.ref a) (.ref s4.heap.objs.size)) (EP X pins σ Q) X.xe { s4 with heap := s4.heap.push { cls := .type "slice", data := .fields #[vl, vu, vs] } }
  refine tail_any (ops := [.ref a, .ref s4.heap.objs.size]) ht.isList.typeIs (PySem.slot_list_getitem.lookup) ?_ (by with_unfolding_all rfl)
  refine wpAny_getItem_list_slice ht.isList (Heap.IsSliceOf.new _ vl vu vs) pl pu ps (by decide) ?_ (by rw [List.size_toArray]; omega)
  rw [pick2]
  refine ⟨.ref _, _, I5.laid (t' := s4.toks) (o := .lst (evens xs)) (fun b ob q => Heap.get?_push_of_some _ q) (Nat.le_refl _) ?_, rfl, q _ (I5.hok.fresh (Nat.le_refl _))⟩
  exact ⟨by rw [evens_len]; omega, _, 0, vals_evens r, Heap.get?_push_size _ rfl⟩
theorem ev_evL {k : Nat} {p2 p3 : Pos} (h : Ev c a Γ fun d Γ1 => ∃ ds, d = .lst ds ∧ P (.lst (evens ds)) Γ1) : Ev c (.Subscript a (.Slice none none (some (.Constant (.int 2) k p2)) p3) pos) Γ P := fun σ H er Q W tk xw q =>
  outE (pe_evL selfE) (h σ H er _ W tk xw fun v d Γ1 H1 g r ⟨ds, e, hp⟩ => by
    subst e
    cases r with
    | lst h1 h2 h3 => exact ⟨_, _, rfl, sql_of h1, fun p hp' => q _ _ Γ1 _ (g.grow (Grow.new hp')) (.lst upd_same (fun z => g.er.mx p z hp') (RpA.to (Grow.new hp').goes _ _ h3.evens)) hp⟩)
def oEvL : O1
  | .lst ds, P => P (.lst (evens ds))
  | _, _ => False
theorem se_evL {k : Nat} {p2 p3 : Pos} (ha : SE c a wa) : SE c (.Subscript a (.Slice none none (some (.Constant (.int 2) k p2)) p3) pos) (wOp1 oEvL wa) :=
  ⟨fun w => ev_evL (ev_mono (ha.run w) fun d _ h => by
    unfold oEvL at h
    split at h
    · exact ⟨_, rfl, h⟩
    · exact h.elim)⟩
/-! ### list(range(a, b)) -/
theorem rp_rg2 {M : Ex} {H : Hw} (a b : Int) : RpA M H (rgV a b) (rangeD a (b - a).toNat) := by
  have e : rgV a b = ((List.range (b - a).toNat).map fun (i : Nat) => a + (i : Int)).map V.int := by simp [rgV]
  rw [e, rangeD_ints]
  exact RpA.ints _
theorem ev_listRg2 (bd : Bd c k) {p2 q2 : Pos} (hm : c.X.mg "list" = none) (hr : c.X.mg "range" = none) (h : Ev c a Γ fun d Γ1 => Ev c b Γ1 fun d2 Γ2 => ∃ m n, d = .int m ∧ d2 = .int n ∧ RgOk m n ∧ P (.lst (rangeD m (n - m).toNat)) Γ2) (hg : Gl c.X "list") (hgr : Gl c.X "range")
    (hs : starEach [a, b] c.X.env = (false, eval a c.X.env) :: starEach [b] c.X.env := by rfl) (hs1 : starEach [b] c.X.env = (false, eval b c.X.env) :: starEach [] c.X.env := by rfl) (hpl : (backTo q2 (starEach [b] c.X.env)).any (·.1) = false := by rfl)
    (hs2 : starEach [.Call (.Name "range" p2) [a, b] [] q2] c.X.env = (false, eval (.Call (.Name "range" p2) [a, b] [] q2) c.X.env) :: starEach [] c.X.env := by rfl) : Ev c (.Call (.Name "list" p) [.Call (.Name "range" p2) [a, b] [] q2] [] pos) Γ P := fun σ H er Q W tk xw q =>
  outE (pe_listRg bd.calm hg hm (prg_2 hgr hr selfE selfE hs hs1 hpl) hs2) (h σ H er _ W tk xw fun v d Γ1 H1 g r h2 => by
    refine h2 σ H1 g.er _ W tk (xw.on g.er g.st) fun v2 d2 Γ2 H2 g2 r2 ⟨m, n, e1, e2, ok, hp⟩ => ?_
    subst e1 e2
    cases r
    cases r2
    exact ⟨m, n, rfl, rfl, ok, fun p hp' => q _ _ Γ2 _ ((g.trans g2).grow (Grow.new hp')) (.lst upd_same (fun z => g2.er.mx p z hp') (rp_rg2 m n)) hp⟩)
def wRg2 (a b : WE) : WE := fun Γ P => a Γ fun d Γ1 => b Γ1 fun d2 Γ2 => ∃ m n, d = .int m ∧ d2 = .int n ∧ RgOk m n ∧ P (.lst (rangeD m (n - m).toNat)) Γ2
theorem se_listRg2 (bd : Bd c k) {p2 q2 : Pos} (hm : c.X.mg "list" = none) (hr : c.X.mg "range" = none) (ha : SE c a wa) (hb : SE c b wb) (hg : Gl c.X "list" := by rfl) (hgr : Gl c.X "range" := by rfl)
    (hs : starEach [a, b] c.X.env = (false, eval a c.X.env) :: starEach [b] c.X.env := by rfl) (hs1 : starEach [b] c.X.env = (false, eval b c.X.env) :: starEach [] c.X.env := by rfl) (hpl : (backTo q2 (starEach [b] c.X.env)).any (·.1) = false := by rfl)
    (hs2 : starEach [.Call (.Name "range" p2) [a, b] [] q2] c.X.env = (false, eval (.Call (.Name "range" p2) [a, b] [] q2) c.X.env) :: starEach [] c.X.env := by rfl) : SE c (.Call (.Name "list" p) [.Call (.Name "range" p2) [a, b] [] q2] [] pos) (wRg2 wa wb) :=
  ⟨fun w => ev_listRg2 bd hm hr (ev_mono (ha.run w) fun d _ h => hb.run h) hg hgr hs hs1 hpl hs2⟩
/-! ### three keywords, the other way about -/
def wCallK3_210 (S : Fs) (E : Addr → Option (Str × D) → Ga → Prop) (a b d : WE) : WE := fun Γ P => a Γ fun d1 Γ1 => b Γ1 fun d2 Γ2 => d Γ2 fun d3 Γ3 => S [d3, d2, d1] (fun d => P d Γ3) fun C fo => E C fo Γ3
theorem se_defK3_210 {x y z t : Str} {st : Stmt} {j : Nat} {S : Fs} {kp kp2 kp3 : Pos} {e2 e3 : Expr} (F : Df c.X.prog c.X.w c.X.K c.X.mg c.X.base x st j 3 [y, z, t] c.U S) (bd : Bd c k) (hj : j ≤ k) (ha : SE c e wa) (hb2 : SE c e2 wb) (hb3 : SE c e3 wd)
    (hb : ∀ (kV doc pm : Value) (an : Option Addr) (cdv ct u w v : Value), bindArgs (PySem.W.fnOf x x (defArgs st) (defBody st) (defScope st) .none kV doc pm an cdv ct) ⟨[], [(t, v), (z, w), (y, u)]⟩ = pure [(y, u), (z, w), (t, v)] := by intros; rfl) (hg : Gl c.X x := by rfl)
    (hall : (backToKw pos (keywordEach [⟨some t, e, kp⟩, ⟨some z, e2, kp2⟩, ⟨some y, e3, kp3⟩] c.X.env)).all (·.1.isSome) = true := by rfl) (hks : (backToKw pos (keywordEach [⟨some t, e, kp⟩, ⟨some z, e2, kp2⟩, ⟨some y, e3, kp3⟩] c.X.env)).filterMap (·.1) = [t, z, y] := by rfl)
    (hdb : (x == ("__debug__" : Str)) = false := by decide) (hpl : ((backTo pos (starEach [] c.X.env)).any (·.1) || (backToKw pos (keywordEach [⟨some t, e, kp⟩, ⟨some z, e2, kp2⟩, ⟨some y, e3, kp3⟩] c.X.env)).any (·.1.isNone)) = false := by rfl) :
    SE c (.Call (.Name x p) [] [⟨some t, e, kp⟩, ⟨some z, e2, kp2⟩, ⟨some y, e3, kp3⟩] pos) (wCallK3_210 S c.E wa wb wd) := ⟨fun {Γ P} w => by
  obtain ⟨f, fd, F1, hm, G⟩ := F.ex
  refine ev_callK0 G bd hj hm F1.kp (fun ws => ws.reverse) (fun vs => vs.reverse) (fun ds => ds.reverse) (fun s ws hK hl => ?_) (fun vs us hl r => ?_) (fun _ _ _ _ _ r => r.rev) (fun _ h => by rw [List.length_reverse]; exact h) hg (kv_cons (ev_mono (ha.run w) fun d Γ1 h => kv_cons (ev_mono (hb2.run h) fun d2 Γ2 h => kv_cons (ev_mono (hb3.run h) fun d3 Γ3 h => kv_nil ⟨rfl, h⟩)))) hall hks hdb hpl
  · match ws, hl with
    | [u, w, v], _ =>
      obtain ⟨oc, od, kV, doc, pm, an, cdv, ct, osl, rfl, lk, hcd⟩ := F1.ex
      exact BindsTo.of_eq (hb kV doc pm an cdv ct v w u)
  · match vs, us, hl, r with
    | [_, _, _], [_, _, _], _, .cons a (.cons b (.cons d .nil)) => exact .cons d (.cons b (.cons a .nil))⟩
/-! ### one's own dict handed back -/
def wRetD (i : Nat) : WS := fun Γ R => match Γ[i]? with
  | some (.ownD ks) => R.rt (.dic ks)
  | some (.dat d) => R.rt d
  | _ => False
theorem ss_retD {x : Str} {pos' : Pos} (i : Nat) (hN : c.X.N[i]? = some x) (hv : Vis c.X.env.scope x) (hdb : (x == ("__debug__" : Str)) = false := by decide) (hcd : (x == ("__classdict__" : Str)) = false := by decide) : SS c (.Return (some (.Name x pos')) pos) (wRetD i) := ⟨fun {Γ R} w => by
  unfold wRetD at w
  split at w
  · rename_i ds hd
    exact fun σ H er W Dd tk k => by
      obtain ⟨a, xs, e1, e2, e3, e4⟩ := er.ownD i ds hd
      exact outS (ps_ret (pe_var hN hv hdb hcd)) ⟨_, e1, k.rt _ _ H (fun x o t n y => y) er.j (.dic e2 e3 (RpK.to ⟨fun a o m e => ⟨e, fun z => m (.inl z)⟩⟩ _ _ e4)) w⟩
  · rename_i d hd
    exact s1_ret (ev_var i hN hv hd w hdb hcd)
  · exact w.elim⟩
end
end U
/-! W9: own errors with one field: made, raised, caught. -/
namespace PySem
namespace ErrX
open PySem.W PySem.Calls PyProof.Rows PySem.HandSPX
def eA (f : Str) (p1 p2 : Pos) : Arguments := { posonlyargs := [], args := [{ arg := "self", annotation := none, pos := p1 }, { arg := f, annotation := none, pos := p2 }], vararg := none, kwonlyargs := [], kw_defaults := [], kwarg := none, defaults := [] }
def eB (f : Str) (q1 q2 q3 q4 : Pos) : List Stmt := [.Assign [.Attribute (.Name "self" q1) f q2] (.Name f q3) q4]
def eS (f : Str) : Scope := { kind := .function, names := [(PySem.Str.ofString "self", .local), (f, .local)], isGenerator := false, isCoroutine := false, more := [] }
/-- what is known of the field's name -/
structure FieldOk (f : Str) : Prop where
  fd : (f == ("__debug__" : Str)) = false
  fs : (f == ("self" : Str)) = false
  bn : ∀ (ql : Str) (p1 p2 q1 q2 q3 q4 : Pos) (doc pm : Value) (an : Option Addr) (cdv ct u v : Value), bindArgs (fnOf "__init__" ql (eA f p1 p2) (eB f q1 q2 q3 q4) (eS f) .none .none doc pm an cdv ct) ⟨[u, v], []⟩ = pure [(PySem.Str.ofString "self", u), (f, v)]
  al : ∀ (u v : Value), ([(PySem.Str.ofString "self", u), (f, v)].all fun y => List.lookup y.fst (eS f).names == some NameKind.local || List.lookup y.fst (eS f).names == some NameKind.cell) = true
theorem field_given : FieldOk "given" := ⟨by decide, by decide, by intros; first | rfl | with_unfolding_all rfl, by intros; first | rfl | with_unfolding_all rfl⟩
theorem field_done : FieldOk "done" := ⟨by decide, by decide, by intros; first | rfl | with_unfolding_all rfl, by intros; first | rfl | with_unfolding_all rfl⟩
theorem field_limit : FieldOk "limit" := ⟨by decide, by decide, by intros; first | rfl | with_unfolding_all rfl, by intros; first | rfl | with_unfolding_all rfl⟩
/-- what the text says of an error class x with the field f, at C, its __init__ at fI -/
structure ErrTxt (K : Frag) (mg : Str → Option Value) (x f : Str) (C fI : Addr) : Prop where
  gC : mg x = some (.ref C)
  cls : ∃ nm q N bs bm sn sub ab col dd k0 k1 k2 k3 k5, K.lookup C = some (excClassObj nm q C N bs bm true sn sub ab col dd k0 k1 k2 k3 k5 "ValueError.__new__") ∧ refsVE bm = true
  sa : findIn K (.ref C) "__setattr__" = some (some (.builtin "object.__setattr__"))
  ga : findIn K (.ref C) "__getattribute__" = some (some (.builtin "BaseException.__getattribute__"))
  gg : findIn K (.ref C) "__getattr__" = some none
  noN : findIn K (.ref C) f = some none
  iC : findIn K (.ref C) "__init__" = some (some (.ref fI))
  tC : typeIn K (.ref fI) = some (.type "function")
  kC : keepIn K (.ref C) = true
  exC : subIn K (.ref C) (.type "BaseException") = some true
  tyC : typeIn K (.ref C) = some (.type "type")
  hdC : hasDictIn K C = true
  ok : FieldOk f
  fn : ∃ (oc : Value) (od : Option Addr) (doc pm : Value) (an : Option Addr) (cdv ct : Value) (osl : Array (Option Value)) (p1 p2 q1 q2 q3 q4 : Pos) (ql : Str),
    K.lookup fI = some ⟨oc, od, .func (fnOf "__init__" ql (eA f p1 p2) (eB f q1 q2 q3 q4) (eS f) .none .none doc pm an cdv ct), osl⟩ ∧ codeIn K cdv ql = true
theorem one_size (v : Value) : [v].length ≤ sizeLine := by
  rw [sizeLine_eq]
  exact (by decide : 1 ≤ 16777216)
structure InitEnd (f : Str) (h h' : Heap) (x C dx t1 : Addr) (v : Value) : Prop where
  keep : ∀ b o, b ≠ x → h.get? b = some o → h'.get? b = some o
  obj : h'.get? x = some { cls := .ref C, dict := some dx, data := .fields #[.ref t1, .none, .none, .none, .bool false, .none] }
  dbig : h.objs.size ≤ dx
  dne : dx ≠ x
  ns : h'.Ns1 dx (fun y => if y = f then some v else none)
structure OwnMade (f : Str) (h h' : Heap) (e C d : Addr) (v : Value) : Prop where
  keep : ∀ b o, h.get? b = some o → h'.get? b = some o
  new : h.objs.size ≤ e
  obj : ∃ oe vs, h'.get? e = some oe ∧ oe.cls = .ref C ∧ oe.dict = some d ∧ oe.data = .fields vs ∧ vs[1]? = some .none
  dbig : h.objs.size ≤ d
  dne : d ≠ e
  ns : h'.Ns1 d (fun y => if y = f then some v else none)
theorem ldC {M : Model} {s : Shared} {name : Str} {scope : Scope} {L a : Addr} {cd : Value} {m : Str → Option Value} {x : Str} {pos : Pos} {v : Value} {Q : Value → Shared → Prop} {A : Around} {E : Value → Shared → Prop} (hn : s.heap.Ns L m) (hv : m x = some v) (h : Q v s)
    (hk : scope.kind = .function) (hl : (envOfC name scope L a cd).kindOf x = some .local) (hd : (x == ("__debug__" : Str)) = false) :
    wpAny M A (eval (.Name x pos) (envOfC name scope L a cd)) Q E s := wpAny_Name (wpAny_loadName_local hk hl hn hv h) hd
section
variable {prog : Program} {w : World} {A : Around} {E : Value → Shared → Prop} {R : Result → Shared → Prop} {s : Shared} {K : Frag} {mg : Str → Option Value} {C fI : Addr} {nx f : Str}
theorem kind_self (name : Str) (L a : Addr) (cd : Value) : (envOfC name (eS f) L a cd).kindOf "self" = some .local := by
  first | rfl | with_unfolding_all rfl
theorem kind_f (hf : (f == ("self" : Str)) = false) (name : Str) (L a : Addr) (cd : Value) : (envOfC name (eS f) L a cd).kindOf f = some .local := by
  show ((eS f).names.lookup f) = some .local
  unfold eS
  have e : (f == PySem.Str.ofString "self") = false := hf
  simp [List.lookup, e]
theorem bind_f (T : FieldOk f) (name : Str) (L a : Addr) (cd u v : Value) : bindL (envOfC name (eS f) L a cd).kindOf [(PySem.Str.ofString "self", u), (f, v)] (fun _ => none) f = some v := by
  have k1 := kind_self (f := f) name L a cd
  have k2 := kind_f T.fs name L a cd
  simp only [bindL]
  simp [k1, k2]
theorem bind_self (T : FieldOk f) (name : Str) (L a : Addr) (cd u v : Value) : bindL (envOfC name (eS f) L a cd).kindOf [(PySem.Str.ofString "self", u), (f, v)] (fun _ => none) (PySem.Str.ofString "self") = some u := by
  have k1 : (envOfC name (eS f) L a cd).kindOf (PySem.Str.ofString "self") = some .local := kind_self (f := f) name L a cd
  have k2 := kind_f T.fs name L a cd
  have ne : ¬ (PySem.Str.ofString "self" = f) := fun z => by
    have := T.fs
    rw [← z] at this
    exact absurd this (by decide)
  have ne2 : ¬ (f = PySem.Str.ofString "self") := fun z => ne z.symm
  simp only [bindL]
  simp [k1, k2, ne, ne2]
theorem err_init (T : ErrTxt K mg nx f C fI) {x t0 : Addr} {v : Value} (X : K.In s.heap) (hlim : s.heap.NoLimit) (hx : s.heap.get? x = some (excO C t0)) (hnx : K.lookup x = none) (hroom : A.depth < recursionLimit)
    (hq : ∀ h' tk dx, InitEnd f s.heap h' x C dx t0 v → R (.ok (.ret .none)) { s with heap := h', toks := tk }) :
    codeAny (model prog w) A (.call (.ref fI) ⟨[.ref x, v], []⟩) R s := by
  obtain ⟨oc, od, doc, pm, an, cdv, ct, osl, p1, p2, q1, q2, q3, q4, ql, ho, hcd⟩ := T.fn
  obtain ⟨nm, q, N, bs, bm, sn, sub, ab, col, dd, k0, k1, k2, k3, k5, hC, hbm⟩ := T.cls
  have hcl : clsIn K C = some { name := nm, bases := bs, mro := .ref C :: bm, ns := N, qualname := q, hasDict := true, slotNames := sn, subclasses := sub, abstract := ab, collection := col, hasDel := false } := by unfold clsIn; rw [hC] <;> rfl
  refine Att.call_fn (binds := [(PySem.Str.ofString "self", .ref x), (f, v)]) X hlim ho hcd hroom (BindsTo.of_eq (T.ok.bn _ _ _ _ _ _ _ _ _ _ _ _ _ _)) (T.ok.al _ _) (fun s₁ IC => ?_) rfl rfl rfl
  obtain ⟨h₁, tk₁, rfl⟩ := IC.toInCall.same
  have k : ∀ b o, s.heap.get? b = some o → h₁.get? b = some o := IC.toInCall.keep
  have hn := IC.toInCall.ns
  have hxL : s.heap.objs.size ≠ x := Nat.ne_of_gt (Heap.lt_size hx)
  have X₁ : K.In h₁ := X.keeps k
  have hx₁ := k _ _ hx
  show wpAny _ _ (execs _ _) _ _ _
  refine wpAny_execs_cons (plainObj_wpAny_Assign_Attribute ?_)
  have e1 : (f == PySem.Str.ofString "self") = false := T.ok.fs
  refine ldC (v := v) hn (bind_f T.ok _ _ _ _ _ _) (ldC (v := .ref x) hn (bind_self T.ok _ _ _ _ _ _) ?_ rfl (kind_self _ _ _ _) (by decide)) rfl (kind_f T.ok.fs _ _ _ _) T.ok.fd
  refine set_plain X₁ (ox := excO C t0) (od := none) ⟨hx₁, rfl, rfl, trivial⟩ T.sa ?_
  refine exc_osa X₁ hx₁ hcl (show refsVE (.ref C :: bm) = true from hbm) rfl T.noN (fun h₃ tk₃ dx k₃ dn dne hx₃ hn₃ => ?_)
  show wpAny _ _ (execs _ _) _ _ _
  have z : s.heap.objs.size < h₁.objs.size := hn.lt
  exact wpAny_execs_nil (hq h₃ tk₃ dx ⟨fun b o hb e => k₃ b o hb (k b o e), hx₃, Nat.le_of_lt (Nat.lt_of_lt_of_le z dn), dne, hn₃⟩)
theorem err_made (T : ErrTxt K mg nx f C fI) {v : Value} (X : K.In s.heap) (hlim : s.heap.NoLimit) (hroom : A.depth + 1 < recursionLimit)
    (hq : ∀ h' tk e d, OwnMade f s.heap h' e C d v → R (.ok (.ret (.ref e))) { s with heap := h', toks := tk }) :
    codeAny (model prog w) A (.call (.ref C) ⟨[v], []⟩) R s := by
  obtain ⟨nm, q, N, bs, bm, sn, sub, ab, col, dd, k0, k1, k2, k3, k5, hC, hbm⟩ := T.cls
  obtain ⟨hp, g, dr, tk, os⟩ := s
  have k : ∀ b o, hp.get? b = some o → ((hp.push (kdv_tup [v])).push (excO C hp.objs.size)).get? b = some o := fun b o e => Heap.get?_push_of_some _ (Heap.get?_push_of_some _ e)
  have hget : ((hp.push (kdv_tup [v])).push (excO C hp.objs.size)).get? (hp.objs.size + 1) = some (excO C hp.objs.size) := by heap_get
  have hnx : K.lookup (hp.objs.size + 1) = none := by
    cases e : K.lookup (hp.objs.size + 1) with
    | none => rfl
    | some o =>
      have z : hp.get? (hp.objs.size + 1) = some o := X _ _ e
      exact absurd (Nat.lt_of_succ_lt (Heap.lt_size z)) (Nat.lt_irrefl _)
  refine call_own F.excBase_ValueError (fun X => refsVE_contains X bm hbm) (X _ _ hC) (looks_findIn X T.iC) (fun self => bind_fn X self T.tC) (one_size v) ?_
  refine err_init (s := ⟨(hp.push (kdv_tup [v])).push (excO C hp.objs.size), g, dr, tk, os⟩) T (X.keeps k) (hlim.keeps k) hget hnx ?_ fun h' tk' dx ⟨k', hx, dn, dne, hns⟩ => ?_
  · show A.depth + 1 < recursionLimit
    exact hroom
  · have old : ∀ b o, hp.get? b = some o → h'.get? b = some o := fun b o e => k' b o (Nat.ne_of_lt (Nat.lt_succ_of_lt (Heap.lt_size e))) (k b o e)
    have z : hp.objs.size + 1 + 1 ≤ dx := by
      first
        | (simpa only [Heap.size_push] using dn)
        | exact dn
        | (have q := dn; rw [Heap.size_push, Heap.size_push] at q; exact q)
    exact ⟨rfl, hq h' tk' (hp.objs.size + 1) dx ⟨old, Nat.le_succ _, ⟨_, _, hx, rfl, rfl, rfl, rfl⟩, Nat.le_trans (Nat.le_trans (Nat.le_succ _) (Nat.le_succ _)) z, dne, hns⟩⟩
end
end ErrX
end PySem
namespace L2
open PySem PySem.Spec PyProof.Rows PySem.ErrX
theorem relO_f {f0 : Str} {v : V} {v' : Value} (r : RelV v v') (f : Str) : RelO (List.lookup f [(f0, v)]) (if f = f0 then some v' else none) := by
  by_cases hw : f = f0
  · subst hw
    rw [if_pos rfl]
    have q : List.lookup f [(f, v)] = some v := by simp [List.lookup]
    rw [q]
    exact r
  · rw [if_neg hw]
    have qw : (f == f0) = false := by simpa using hw
    have q2 : List.lookup f [(f0, v)] = none := by simp [List.lookup, qw]
    rw [q2]
    trivial
section
variable {X : Cx} {C fI : Addr} {nx f : Str}
/-- C(e) -/
def tMkErr (f : Str) (C : Addr) (te : TE) : St → Hp → XK → Prop := fun σ H Q => tCons te tNil σ H fun vs H1 => ∃ v, vs = [v] ∧ ∀ d, H1 d = none → Q (.ref C) (some d) (upd H1 d (.xd [(f, v)]))
theorem pmk_err {a : Expr} {te : TE} {p pos : Pos} {k : Nat} (T : ErrTxt X.K X.mg nx f C fI) (hr : Room (k + 1) X.A) (ha : PE X a te) (hg : Gl X nx) (hdb : (nx == ("__debug__" : Str)) = false := by decide)
    (he : starEach (a :: []) X.env = (false, eval a X.env) :: starEach [] X.env := by rfl) (hpl : (backTo pos (starEach [] X.env)).any (·.1) = false := by rfl) :
    PMk X (.Call (.Name nx p) [a] [] pos) (tMkErr f C te) := by
  intro pins s σ H Q I h
  refine wpAny_Call_Name_kw (ld_glob I hg T.gC ?_ hdb)
  refine PySem.W.callWith_K (h₀ := X.base) I.ok.mod.kin T.kC (thn ((pa_cons ha pa_nil he).run pos pins s σ H (fun vs H1 => ∃ v, vs = [v] ∧ ∀ d, H1 d = none → Q (.ref C) (some d) (upd H1 d (.xd [(f, v)]))) I (h)) fun us s1 hh => ?_) he hpl
  obtain ⟨vs, H1, I1, r1, v, ev, q1⟩ := hh
  subst ev
  refine ⟨I1.kIn, ?_⟩
  cases r1 with
  | cons rv rn =>
    rename_i v' us'
    cases rn
    show wpAny _ _ (call (.ref C) [v']) _ _ _
    have hlim := I1.nolimit
    obtain ⟨hp, g, dr, tk, os⟩ := s1
    refine wpAny_call (err_made T I1.kIn hlim (by have := hr.dp; omega) fun h' tk' e d M => ?_)
    show MkP X pins σ Q (.ref e) ⟨h', g, dr, tk', os⟩
    obtain ⟨oe, fv, hoe, hc, hd, hdat, h1⟩ := M.obj
    have hns := M.ns
    obtain ⟨G', g1, g2⟩ := restrict h' fun b => decide (b ≠ e)
    have gk : ∀ b, b ≠ e → G'.get? b = h'.get? b := fun b hb => g1 b (decide_eq_true hb)
    have ge : G'.get? e = none := g2 e (by simp)
    have old : ∀ b o, hp.get? b = some o → G'.get? b = some o := fun b o q => (gk b (Nat.ne_of_lt (Nat.lt_of_lt_of_le (Heap.lt_size q) M.new))).trans (M.keep b o q)
    have ob : ObjOk X.prog X.w (upd H1 d (.xd [(f, v)])) G' d (.xd [(f, v)]) :=
      ⟨_, hns.at (fun o q => (gk d M.dne).trans q), fun f => relO_f rv f⟩
    have J : Inv X pins σ (upd H1 d (.xd [(f, v)])) ⟨G', g, dr, tk', os⟩ := I1.laid (t' := tk') old M.dbig ob
    refine ⟨e, oe, fv, ⟨G', g, dr, tk', os⟩, _, .ref C, some d, rfl, J, fun b o q => ?_, ge, hoe, ⟨hc, hd⟩, hdat, h1, ?_, rfl, I1.bare, raises_own T.exC T.tyC, q1 d (I1.hok.fresh M.dbig)⟩
    · by_cases hb : b = e
      · have q' : G'.get? b = some o := q
        rw [hb, ge] at q'; cases q'
      · exact (gk b hb).symm.trans q
    · rw [upd_ne (Ne.symm M.dne)]
      exact I1.hok.fresh M.new
/-- n.f, n the exception that the suite holds (at a; its class cls, its dict d) -/
def tByF (f : Str) (a : Addr) (cls : Value) (d : Option Addr) (C : Addr) (te : TE) : TE := fun σ H Q => te σ H fun x H1 => x = .ref a ∧ cls = .ref C ∧ ∃ (dd : Addr) (v : V), d = some dd ∧ H1 dd = some (.xd [(f, v)]) ∧ Q v H1
theorem pe_byF {a : Addr} {oe : Obj} {cls : Value} {d : Option Addr} {pn : List (Addr × Obj)} {e : Expr} {te : TE} {pos : Pos} (T : ErrTxt X.K X.mg nx f C fI) (hz : Zc cls d oe) (hf : ∃ vs, oe.data = .fields vs) (he : PE (X.suite a ((a, oe) :: pn)) e te)
    (hb : attributeBase e f X.env (eval e X.env) = eval e X.env) :
    PE (X.suite a ((a, oe) :: pn)) (.Attribute e f pos) (tByF f a cls d C te) := by
  refine ⟨fun pins s σ H Q I h => ?_⟩
  refine attr_of hb (thn (he.run pins s σ H _ I h) fun u s1 hh => ?_)
  obtain ⟨x, H1, I1, rx, ex, ec, dd, v, ed, ea, q⟩ := hh
  subst ex
  obtain rfl : u = Value.ref a := rx
  subst ec
  subst ed
  obtain ⟨ha, _⟩ := I1.pin (a, oe) (List.mem_append_left _ List.mem_cons_self)
  obtain ⟨vs, hd⟩ := hf
  have hx : ObjOk X.prog X.w H1 s1.heap dd (.xd [(f, v)]) := I1.hok dd _ ea
  obtain ⟨mA, hns, hr⟩ := hx
  obtain ⟨od, ho, hl⟩ := lookIn_ns hns
  have l : List.lookup f [(f, v)] = some v := by simp [List.lookup]
  obtain ⟨u, hu, ru⟩ := RelO.some_of (v := v) (o := mA f) (by rw [← l]; exact hr f)
  have J : PySem.W.InstAt s1.heap a oe C (some od) := ⟨ha, hz.1, by unfold PySem.W.notCls; rw [hd] <;> rfl, by rw [hz.2]; exact ho⟩
  exact HandSPX.exc_get I1.kIn J T.ga T.gg T.exC (PySem.W.findObj_own T.hdC T.noN rfl (by rw [hl, hu])) (handed_of ru) ⟨v, H1, I1.tok _, ru, q⟩
end
/-! ### try: several clauses, with a name or without -/
def wMix (K : PySem.W.Frag) (Wout : WX) (D : Ends) : List (Value × Option Nat × (Addr → Value → Option Addr → TS)) → WX
  | [] => Wout
  | (c, none, ts) :: r => fun cls d σ H => ∃ b, PySem.W.exmOne K cls c = some b ∧ (b = true → ∀ a, H a = none → ts a cls d D σ H) ∧ (b = false → wMix K Wout D r cls d σ H)
  | (c, some i, ts) :: r => fun cls d σ H => ∃ b, PySem.W.exmOne K cls c = some b ∧ (b = true → ∀ a, H a = none → ts a cls d { nx := fun σ' H' => D.nx (σ'.set i none) H', rt := D.rt, bk := fun σ' H' => D.bk (σ'.set i none) H', ct := fun σ' H' => D.ct (σ'.set i none) H' } (σ.set i (some (.ref a))) H) ∧
      (b = false → wMix K Wout D r cls d σ H)
inductive MixOk (X : Cx) : List ExceptHandler → List (Value × Option Nat × (Addr → Value → Option Addr → TS)) → Prop
  | nil : MixOk X [] []
  | plain {x : Str} {c : Value} {ts : Addr → Value → Option Addr → TS} {b₀ : Stmt} {suite : List Stmt} {np pos' : Pos} {hds : List ExceptHandler} {l : List (Value × Option Nat × (Addr → Value → Option Addr → TS))} (hc : Names X x c)
      (hsu : ∀ (a : Addr) (oe : Obj) (cls : Value) (d : Option Addr) (pn : List (Addr × Obj)), Zc cls d oe → (∃ vs, oe.data = .fields vs) → PSs (X.suite a ((a, oe) :: pn)) (b₀ :: suite) (ts a cls d)) (r : MixOk X hds l) :
      MixOk X (.ExceptHandler (some (.Name x np)) none (b₀ :: suite) pos' :: hds) ((c, none, ts) :: l)
  | as {x n : Str} {c : Value} {i : Nat} {ts : Addr → Value → Option Addr → TS} {b₀ : Stmt} {suite : List Stmt} {np pos' : Pos} {hds : List ExceptHandler} {l : List (Value × Option Nat × (Addr → Value → Option Addr → TS))} (hc : Names X x c) (hN : X.N.Nodup) (hi : X.N[i]? = some n) (hln : X.env.kindOf n = some .local)
      (hsu : ∀ (a : Addr) (oe : Obj) (cls : Value) (d : Option Addr) (pn : List (Addr × Obj)), Zc cls d oe → (∃ vs, oe.data = .fields vs) → PSs (X.suite a ((a, oe) :: pn)) (b₀ :: suite) (ts a cls d)) (r : MixOk X hds l) :
      MixOk X (.ExceptHandler (some (.Name x np)) (some n) (b₀ :: suite) pos' :: hds) ((c, some i, ts) :: l)
section
variable {X : Cx} {body : List Stmt} {h₀ : ExceptHandler} {hds : List ExceptHandler} {l : List (Value × Option Nat × (Addr → Value → Option Addr → TS))} {pos : Pos} {tb : WX → TS} {Wout : WX}
theorem ps_try_mix (hs : X.stack = X.env :: X.outer) (hf : X.env.frame = some X.env.locals) (tk : Takes X Wout)
    (hb : ∀ (W : WX) (pn : List (Addr × Obj)) (xe : Value → Shared → Prop), Takes (X.tr pn xe) W → PassesOwn (model X.prog X.w) X.A X.env xe → PSs (X.tr pn xe) body (tb W))
    (hh : MixOk X (h₀ :: hds) l) : PS X (.Try body (h₀ :: hds) [] [] pos) (fun D σ H => tb (wMix X.K Wout D l) D σ H) := by
  refine ⟨fun pins s σ H D I h => ?_⟩
  have ok := I.ok
  have hfr : X.A.frames = some (X.env :: X.outer) := by rw [ok.frames, hs]
  refine wpAny_Try_except ?_
  refine wpAny_mono ((hb (wMix X.K Wout D l) (X.pn ++ pins) (fun e s₁ => wpAny (model X.prog X.w) X.A (noteFrame e X.env) (fun _ s₂ => wpAny (model X.prog X.w) X.A (setFlight e none) (fun _ s₃ =>
    wpAny (model X.prog X.w) X.A (handleBy e X.env (h₀ :: hds)) (L2.SP X pins D) X.xe s₃) X.xe s₂) X.xe s₁) (fun u s' xx => ?_) PassesOwn.looking).run [] s σ H D (I.toTry _) h) (fun f s1 hsp => ?_) (fun e s1 he => he)
  · obtain ⟨a, B, sI, pins', σ', H', cls, d, rfl, J', nb, up, sky, na, os, ag, w⟩ := xx
    have J : Inv X pins σ' H' sI := J'.ofTry ok
    have sky' : Sky B (X.env :: X.outer) a (Zc cls d) X.env.locals s'.heap := by rw [← hs]; exact sky
    show wpAny (model X.prog X.w) X.A (noteFrame (.ref a) X.env) _ _ _
    refine Sky.land Zc.steady hfr hf sky' fun h3 fl3 up3 => ?_
    have J3 : Inv X pins σ' H' { s' with heap := h3 } := J.landed nb fl3.1 (up.trans up3) os ag
    obtain ⟨oe3, vs3, he3, hz3, hd3⟩ := fl3.there
    have notFr : ∀ {h : Heap} {o : Obj} {vs : Array Value}, h.FunFrames B (X.env :: X.outer) → h.get? a = some o → o.data = .fields vs → a ∉ frs (X.env :: X.outer) := fun {h o vs} ff e dd hm => by
      obtain ⟨_, o', e', hnf⟩ := ff.mem hm
      rw [e] at e'; cases e'
      exact hnf _ dd
    have nfr := notFr fl3.2.2.1 he3 hd3
    have nL : a ≠ X.env.locals := fun z => nfr (List.mem_filterMap.mpr ⟨X.env, List.mem_cons_self, by rw [hf, z]⟩)
    have nF : a ∉ X.fs := fun hm => by
      obtain ⟨e, he, q⟩ := List.mem_filterMap.mp hm
      exact nfr (List.mem_filterMap.mpr ⟨e, List.mem_cons_of_mem _ he, q⟩)
    have S3 := J3.suite he3 hd3 na nL nF
    have go : ∀ {hds' : List ExceptHandler} {l' : List (Value × Option Nat × (Addr → Value → Option Addr → TS))}, MixOk X hds' l' → wMix X.K Wout D l' cls d σ' H' →
        wpAny (model X.prog X.w) X.A (handleBy (.ref a) X.env hds') (L2.SP X pins D) X.xe { s' with heap := h3 } := by
      intro hds' l' hk
      induction hk with
      | nil =>
        intro w
        refine wpAny_handleBy_nil ?_
        obtain ⟨k1, k2, k3, oe, vs, T, oT, ts', he, hz, hd, h1, hr⟩ := id fl3
        unfold PySem.passOn
        refine wpAny_bind (wpAny_field he hd h1 ?_)
        rw [if_neg (show ¬ ((Value.ref T == Value.none) = true) from by simp)]
        have fin : wpAny (model X.prog X.w) X.A (setFlight (.ref a) X.env.frame) (fun _ s4 => wpAny (model X.prog X.w) X.A (throw (.ref a) : Sem Flow) (L2.SP X pins D) X.xe s4) X.xe { s' with heap := h3 } := by
          rw [hf]
          refine HandSPX.setFlight_upZ fl3 fun h4 hh4 up4 => wpAny_throw (tk _ _ ?_)
          exact ⟨a, B, sI, pins, σ', H', cls, d, rfl, J, nb, (up.trans up3).trans up4, .inr (.inr (by rw [hs]; exact hh4)), na, os, ag, w⟩
        first
          | exact wpAny_bind (wpAny_pure (wpAny_bind fin))
          | exact wpAny_bind fin
      | @plain x c ts b₀ suite np pos' hds2 l2 hc hsu r ih =>
        intro w
        obtain ⟨b, hb1, hyes, hno⟩ := w
        refine wpAny_handleBy_cons (codeAny_handlers_test ?_) (by intro q; cases q)
        have LT : PySem.W.Looks (model X.prog X.w) h3 (typeOf (.ref a)) cls := fun A Q E s k q => wpAny_typeOf_ref (k _ _ he3) (by rw [hz3.1]; exact q)
        have LM := PySem.W.exm_one (M := model X.prog X.w) (J3.kIn) LT hb1
        have test : ∀ {Q : Value → Shared → Prop} {E : Value → Shared → Prop}, Q c { s' with heap := h3 } → wpAny (model X.prog X.w) (X.A.mark (some (.ref a))) (eval (.Name x np) X.env) Q E { s' with heap := h3 } := fun {Q E} q => by
          obtain ⟨hg, hdbg, hm | ⟨hm, hv, hnn⟩⟩ := hc
          · exact ld_glob (X := X.suite a ((a, oe3) :: (X.pn ++ pins))) S3 hg hm q hdbg
          · exact ld_blt (X := X.suite a ((a, oe3) :: (X.pn ++ pins))) S3 hg hm hv q hnn hdbg
        refine test (LM.here ?_)
        cases b with
        | true =>
          refine codeAny_handlers_suite ?_
          refine HandSPX.lands_againZ fl3 fun h4 fl4 up4 => ?_
          have J4 : Inv X pins σ' H' { s' with heap := h4 } := J.landed nb fl4.1 ((up.trans up3).trans up4) os ag
          obtain ⟨oe4, vs4, he4, hz4, hd4⟩ := fl4.there
          have S4 := J4.suite he4 hd4 na nL nF
          refine wpAny_mono ((hsu a oe4 cls d (X.pn ++ pins) hz4 ⟨_, hd4⟩).run [] _ _ H' _ S4 (hyes rfl a na)) (fun f s6 hsp => ?_) (fun _ _ z => False.elim z)
          cases f with
          | next =>
            obtain ⟨σ6, H6, S6, q6⟩ := hsp
            exact ⟨_, _, S6.unsuite ok, q6⟩
          | brk =>
            obtain ⟨σ6, H6, S6, q6⟩ := hsp
            exact ⟨_, _, S6.unsuite ok, q6⟩
          | cont =>
            obtain ⟨σ6, H6, S6, q6⟩ := hsp
            exact ⟨_, _, S6.unsuite ok, q6⟩
          | ret u =>
            obtain ⟨v6, σ6, H6, S6, r6, q6⟩ := hsp
            exact ⟨_, _, _, S6.unsuite ok, r6, q6⟩
        | false =>
          show wpAny _ X.A (handleBy (.ref a) X.env hds2) _ _ _
          exact ih (hno rfl)
      | @as x n c i ts b₀ suite np pos' hds2 l2 hc hN hi hln hsu r ih =>
        intro w
        obtain ⟨b, hb1, hyes, hno⟩ := w
        have hloc : Loc X.env.scope n := .inl hln
        refine wpAny_handleBy_cons (codeAny_handlers_test ?_) (by intro q; cases q)
        have LT : PySem.W.Looks (model X.prog X.w) h3 (typeOf (.ref a)) cls := fun A Q E s k q => wpAny_typeOf_ref (k _ _ he3) (by rw [hz3.1]; exact q)
        have LM := PySem.W.exm_one (M := model X.prog X.w) (J3.kIn) LT hb1
        have test : ∀ {Q : Value → Shared → Prop} {E : Value → Shared → Prop}, Q c { s' with heap := h3 } → wpAny (model X.prog X.w) (X.A.mark (some (.ref a))) (eval (.Name x np) X.env) Q E { s' with heap := h3 } := fun {Q E} q => by
          obtain ⟨hg, hdbg, hm | ⟨hm, hv, hnn⟩⟩ := hc
          · exact ld_glob (X := X.suite a ((a, oe3) :: (X.pn ++ pins))) S3 hg hm q hdbg
          · exact ld_blt (X := X.suite a ((a, oe3) :: (X.pn ++ pins))) S3 hg hm hv q hnn hdbg
        refine test (LM.here ?_)
        cases b with
        | true =>
          refine codeAny_handlers_suite_as ?_
          refine HandSPX.lands_againZ fl3 fun h4 fl4 up4 => ?_
          have J4 : Inv X pins σ' H' { s' with heap := h4 } := J.landed nb fl4.1 ((up.trans up3).trans up4) os ag
          obtain ⟨oe4, vs4, he4, hz4, hd4⟩ := fl4.there
          have S4 := J4.suite he4 hd4 na nL nF
          refine store_ok (X := X.suite a ((a, oe4) :: (X.pn ++ pins))) (v := .ref a) S4 hN hi hloc rfl (fun s5 S5 => ?_) (.inr hln)
          refine wpAny_mono ((hsu a oe4 cls d (X.pn ++ pins) hz4 ⟨_, hd4⟩).run [] s5 _ H' _ S5 (hyes rfl a na)) (fun f s6 hsp => ?_) (fun _ _ z => False.elim z)
          have end_ : ∀ {σ6 : St} {H6 : Hp} {Q : Shared → Prop}, Inv (X.suite a ((a, oe4) :: (X.pn ++ pins))) [] σ6 H6 s6 → (∀ s7, Inv X pins (σ6.set i none) H6 s7 → Q s7) →
              wpAny (model X.prog X.w) X.A (do bindName X.env n .none; unbindBehindTheSuite X.env n pos') (fun _ s7 => Q s7) X.xe s6 := fun {σ6 H6 Q} S6 hq => gone_ok (S6.unsuite ok) hN hi hln hq
          cases f with
          | next =>
            obtain ⟨σ6, H6, S6, q6⟩ := hsp
            exact end_ S6 fun s7 J7 => ⟨_, _, J7, q6⟩
          | brk =>
            obtain ⟨σ6, H6, S6, q6⟩ := hsp
            exact end_ S6 fun s7 J7 => ⟨_, _, J7, q6⟩
          | cont =>
            obtain ⟨σ6, H6, S6, q6⟩ := hsp
            exact end_ S6 fun s7 J7 => ⟨_, _, J7, q6⟩
          | ret u =>
            obtain ⟨v6, σ6, H6, S6, r6, q6⟩ := hsp
            exact end_ S6 fun s7 J7 => ⟨_, _, _, J7, r6, q6⟩
        | false =>
          show wpAny _ X.A (handleBy (.ref a) X.env hds2) _ _ _
          exact ih (hno rfl)
    exact go hh w
  · cases f with
    | next =>
      obtain ⟨σ', H', J', q⟩ := hsp
      exact wpAny_execs_nil ⟨σ', H', J'.ofTry ok, q⟩
    | brk =>
      obtain ⟨σ', H', J', q⟩ := hsp
      exact ⟨σ', H', J'.ofTry ok, q⟩
    | cont =>
      obtain ⟨σ', H', J', q⟩ := hsp
      exact ⟨σ', H', J'.ofTry ok, q⟩
    | ret u =>
      obtain ⟨v, σ', H', J', r, q⟩ := hsp
      exact ⟨v, σ', H', J'.ofTry ok, r, q⟩
end
end L2
/-! W10: own errors over data: raise, try. -/
namespace U
open PySem PySem.Spec PyProof.Rows L2 PySem.ErrX
section
variable {c : Co} {k : Nat} {Γ : Ga} {R : Oc} {e : Expr} {pos p pos2 : Pos} {we : WE} {C fI : Addr} {nx f : Str}
theorem s1_raise1 (T : ErrTxt c.X.K c.X.mg nx f C fI) (bd : Bd c k) (hk : 1 ≤ k) (h : Ev c e Γ fun d Γ1 => c.E C (some (f, d)) Γ1) (hg : Gl c.X nx) (hdb : (nx == ("__debug__" : Str)) = false := by decide)
    (he : starEach (e :: []) c.X.env = (false, eval e c.X.env) :: starEach [] c.X.env := by rfl) (hpl : (backTo pos (starEach [] c.X.env)).any (·.1) = false := by rfl) : S1 c (.Raise (some (.Call (.Name nx p) [e] [] pos)) none pos2) Γ R := fun σ H er W Dd tk kk =>
  outS (ps_raise bd.calm tk (pmk_err (k := 0) T (bd.hr.mono hk) selfE hg hdb he hpl)) (h σ H er _ W tk kk.xw fun v d Γ1 H1 g r hp => ⟨v, rfl, fun dd hd => by
    have gr : Grow H1 (upd H1 dd (.xd [(f, v)])) := Grow.new hd
    have G := g.grow gr
    exact kk.xw C (some (f, d)) (some dd) σ Γ1 _ G.st G.er (fun f' x e => by
      cases e
      exact ⟨dd, v, rfl, upd_same, Rp.to gr.goes _ _ r⟩) hp⟩)
/-- raise C(e) -/
def wRaise1 (C : Addr) (f : Str) (E : Addr → Option (Str × D) → Ga → Prop) (a : WE) : WS := fun Γ _ => a Γ fun d Γ1 => E C (some (f, d)) Γ1
theorem ss_raise1 (T : ErrTxt c.X.K c.X.mg nx f C fI) (bd : Bd c k) (hk : 1 ≤ k) (ha : SE c e we) (hg : Gl c.X nx := by rfl) (hdb : (nx == ("__debug__" : Str)) = false := by decide)
    (he : starEach (e :: []) c.X.env = (false, eval e c.X.env) :: starEach [] c.X.env := by rfl) (hpl : (backTo pos (starEach [] c.X.env)).any (·.1) = false := by rfl) : SS c (.Raise (some (.Call (.Name nx p) [e] [] pos)) none pos2) (wRaise1 C f c.E we) := ⟨fun w => s1_raise1 T bd hk (ha.run w) hg hdb he hpl⟩
/-! ### try -/
/-- a clause: what it catches; what its suite hands back: [s], or [s, n.f], n (slot i) an error of the class at C0 -/
inductive Hd
  | plain (m : Addr → Option Bool) (s : Str)
  | as (m : Addr → Option Bool) (i : Nat) (s f : Str) (C0 : Addr)
  | asB (m : Addr → Option Bool) (i : Nat) (f : Str) (C0 : Addr)
def hdsW (R : Oc) (E : Addr → Option (Str × D) → Ga → Prop) : List Hd → Addr → Option (Str × D) → Ga → Prop
  | [], C, fo, Γ => E C fo Γ
  | .plain m s :: r, C, fo, Γ => ∃ b, m C = some b ∧ (b = true → R.rt (.lst [.str s])) ∧ (b = false → hdsW R E r C fo Γ)
  | .as m i s f C0 :: r, C, fo, Γ => ∃ b, m C = some b ∧ (b = true → C = C0 ∧ i < Γ.length ∧ ∃ x, fo = some (f, x) ∧ R.rt (.lst [.str s, x])) ∧ (b = false → hdsW R E r C fo Γ)
  | .asB m i f C0 :: r, C, fo, Γ => ∃ b, m C = some b ∧ (b = true → C = C0 ∧ i < Γ.length ∧ ∃ x, fo = some (f, x) ∧ R.rt x) ∧ (b = false → hdsW R E r C fo Γ)
abbrev Entry := Value × Option Nat × (Addr → Value → Option Addr → TS)
def tsP (s : Str) : Addr → Value → Option Addr → TS := fun _ _ _ => tRet (tLst (tCons (tC (.str s)) tNil))
def tsA (i : Nat) (s f : Str) (C0 : Addr) : Addr → Value → Option Addr → TS := fun a cls d => tRet (tLst (tCons (tC (.str s)) (tCons (tByF f a cls d C0 (tVar i)) tNil)))
def tsB (i : Nat) (f : Str) (C0 : Addr) : Addr → Value → Option Addr → TS := fun a cls d => tRet (tByF f a cls d C0 (tVar i))
inductive MixU (c : Co) : List ExceptHandler → List Hd → List Entry → Prop
  | nil : MixU c [] [] []
  | plain {x s : Str} {cv : Value} {m : Addr → Option Bool} {np pos' p1 p2 p3 : Pos} {j : Nat} {hds : List ExceptHandler} {l : List Hd} {l' : List Entry} (hc : Names c.X x cv) (hm : ∀ C, m C = PySem.W.exmOne c.X.K (.ref C) cv)
      (he : starEach (.Constant (.str s) j p1 :: []) c.X.env = (false, eval (.Constant (.str s) j p1) c.X.env) :: starEach [] c.X.env) (r : MixU c hds l l') :
      MixU c (.ExceptHandler (some (.Name x np)) none [.Return (some (.List [.Constant (.str s) j p1] p2)) p3] pos' :: hds) (.plain m s :: l) ((cv, none, tsP s) :: l')
  | as {x n s f nx : Str} {cv : Value} {m : Addr → Option Bool} {i : Nat} {C0 fI : Addr} {np pos' p1 p2 p3 p4 p5 : Pos} {j : Nat} {hds : List ExceptHandler} {l : List Hd} {l' : List Entry} (T : ErrTxt c.X.K c.X.mg nx f C0 fI) (hc : Names c.X x cv) (hm : ∀ C, m C = PySem.W.exmOne c.X.K (.ref C) cv) (hN : c.X.N.Nodup) (hi : c.X.N[i]? = some n) (hln : c.X.env.kindOf n = some .local) (hv : Vis c.X.env.scope n) (hdb : (n == ("__debug__" : Str)) = false) (hcd : (n == ("__classdict__" : Str)) = false)
      (hb : attributeBase (.Name n p4) f c.X.env (eval (.Name n p4) c.X.env) = eval (.Name n p4) c.X.env)
      (he : starEach (.Constant (.str s) j p1 :: [.Attribute (.Name n p4) f p5]) c.X.env = (false, eval (.Constant (.str s) j p1) c.X.env) :: starEach [.Attribute (.Name n p4) f p5] c.X.env)
      (he2 : starEach (.Attribute (.Name n p4) f p5 :: []) c.X.env = (false, eval (.Attribute (.Name n p4) f p5) c.X.env) :: starEach [] c.X.env) (r : MixU c hds l l') :
      MixU c (.ExceptHandler (some (.Name x np)) (some n) [.Return (some (.List [.Constant (.str s) j p1, .Attribute (.Name n p4) f p5] p2)) p3] pos' :: hds) (.as m i s f C0 :: l) ((cv, some i, tsA i s f C0) :: l')
  | asB {x n f nx : Str} {cv : Value} {m : Addr → Option Bool} {i : Nat} {C0 fI : Addr} {np pos' p3 p4 p5 : Pos} {hds : List ExceptHandler} {l : List Hd} {l' : List Entry} (T : ErrTxt c.X.K c.X.mg nx f C0 fI) (hc : Names c.X x cv) (hm : ∀ C, m C = PySem.W.exmOne c.X.K (.ref C) cv) (hN : c.X.N.Nodup) (hi : c.X.N[i]? = some n) (hln : c.X.env.kindOf n = some .local) (hv : Vis c.X.env.scope n) (hdb : (n == ("__debug__" : Str)) = false) (hcd : (n == ("__classdict__" : Str)) = false)
      (hb : attributeBase (.Name n p4) f c.X.env (eval (.Name n p4) c.X.env) = eval (.Name n p4) c.X.env) (r : MixU c hds l l') :
      MixU c (.ExceptHandler (some (.Name x np)) (some n) [.Return (some (.Attribute (.Name n p4) f p5)) p3] pos' :: hds) (.asB m i f C0 :: l) ((cv, some i, tsB i f C0) :: l')
theorem MixU.ok {c : Co} : ∀ {hds l l'}, MixU c hds l l' → MixOk c.X hds l'
  | _, _, _, .nil => .nil
  | _, _, _, .plain hc hm he r => .plain hc (fun a oe cls d pn hz hf => pss_one (ps_ret (pe_lst (pa_cons pe_str pa_nil he)))) r.ok
  | _, _, _, .as T hc hm hN hi hln hv hdb hcd hb he he2 r => .as hc hN hi hln (fun a oe cls d pn hz hf => pss_one (ps_ret (pe_lst (pa_cons pe_str (pa_cons (pe_byF T hz hf (pe_var hi hv hdb hcd) hb) pa_nil he2) he)))) r.ok
  | _, _, _, .asB T hc hm hN hi hln hv hdb hcd hb r => .as hc hN hi hln (fun a oe cls d pn hz hf => pss_one (ps_ret (pe_byF T hz hf (pe_var hi hv hdb hcd) hb))) r.ok
theorem MixU.wish {c : Co} {σ : Sw} {Γ : Ga} {H : Hw} {R : Oc} {W : WX} {Dd : Ends} (kk : Ends' c σ Γ H R W Dd) {C : Addr} {fo : Option (Str × D)} {dx : Option Addr} {σ' : Sw} {Γ' : Ga} {H' : Hw} (st : Step c.U σ Γ H σ' Γ' H') (er : ER c.U c.M H' σ' Γ')
    (hf : ∀ f x, fo = some (f, x) → ∃ a v, dx = some a ∧ H' a = some (.xd [(f, v)]) ∧ Rp (Mx c.M σ' Γ') H' v x) : ∀ {hds l l'}, MixU c hds l l' → hdsW R c.E l C fo Γ' → wMix c.X.K W Dd l' (.ref C) dx σ' H'
  | _, _, _, .nil, h => kk.xw C fo dx σ' Γ' H' st er hf h
  | _, _, _, .plain (s := s) hc hm he r, h => by
    obtain ⟨b, h1, h2, h3⟩ := h
    refine ⟨b, by rw [← hm]; exact h1, fun hb a ha => ?_, fun hb => r.wish kk st er hf (h3 hb)⟩
    refine ⟨by show 1 ≤ sizeLine; rw [sizeLine_eq]; omega, fun q hq => ?_⟩
    have gr : Grow H' (upd H' q (.lst [.str s])) := Grow.new hq
    exact kk.rt _ _ _ (fun a o t n e => gr a o (st.fr a o t n e)) (er.grow gr).j (.lst upd_same (fun z => er.kn q z hq) (.cons (.str _) .nil)) (h2 hb)
  | _, _, _, .as (i := i) (s := s) T hc hm hN hi hln hv hdb hcd hb0 he he2 r, h => by
    obtain ⟨b, h1, h2, h3⟩ := h
    refine ⟨b, by rw [← hm]; exact h1, fun hb a ha => ?_, fun hb => r.wish kk st er hf (h3 hb)⟩
    obtain ⟨rfl, hlt, x, hx, hr⟩ := h2 hb
    obtain ⟨dd, v, ed, ev, rv⟩ := hf _ x hx
    have hlt' : i < σ'.length := by rw [er.len]; exact hlt
    refine ⟨.ref a, List.getElem?_set_self hlt', rfl, rfl, dd, v, ed, ev, ?_⟩
    refine ⟨by show 2 ≤ sizeLine; rw [sizeLine_eq]; omega, fun q hq => ?_⟩
    have gr : Grow H' (upd H' q (.lst [.str s, v])) := Grow.new hq
    exact kk.rt _ _ _ (fun a o t n e => gr a o (st.fr a o t n e)) (er.grow gr).j (.lst upd_same (fun z => er.kn q z hq) (.cons (.str _) (.cons (Rp.to gr.goes _ _ (er.rp rv)) .nil))) hr
  | _, _, _, .asB (i := i) T hc hm hN hi hln hv hdb hcd hb0 r, h => by
    obtain ⟨b, h1, h2, h3⟩ := h
    refine ⟨b, by rw [← hm]; exact h1, fun hb a ha => ?_, fun hb => r.wish kk st er hf (h3 hb)⟩
    obtain ⟨rfl, hlt, x, hx, hr⟩ := h2 hb
    obtain ⟨dd, v, ed, ev, rv⟩ := hf _ x hx
    have hlt' : i < σ'.length := by rw [er.len]; exact hlt
    refine ⟨.ref a, List.getElem?_set_self hlt', rfl, rfl, dd, v, ed, ev, ?_⟩
    exact kk.rt _ _ _ (fun a o t n e => st.fr a o t n e) er.j (er.rp rv) hr
/-- the surroundings of a try's body -/
def Co.tr (c : Co) (pn : List (Addr × Obj)) (xe : Value → Shared → Prop) (E : Addr → Option (Str × D) → Ga → Prop) : Co := ⟨c.X.tr pn xe, c.U, c.M, E⟩
def wTry (E : Addr → Option (Str × D) → Ga → Prop) (l : List Hd) (wb : (Addr → Option (Str × D) → Ga → Prop) → WS) : WS := fun Γ R => wb (fun C fo Γ1 => hdsW R E l C fo Γ1) Γ R
theorem ss_try {body : List Stmt} {h0 : ExceptHandler} {hds : List ExceptHandler} {l : List Hd} {l' : List Entry} {wb : (Addr → Option (Str × D) → Ga → Prop) → WS} (bd : Bd c k) (hm : MixU c (h0 :: hds) l l')
    (hb : ∀ (pn : List (Addr × Obj)) (xe : Value → Shared → Prop) (E' : Addr → Option (Str × D) → Ga → Prop), Bd (c.tr pn xe E') k → SB (c.tr pn xe E') body (wb E'))
    (hs : c.X.stack = c.X.env :: c.X.outer := by rfl) (hf : c.X.env.frame = some c.X.env.locals := by rfl) : SS c (.Try body (h0 :: hds) [] [] pos) (wTry c.E l wb) := ⟨fun {Γ R} w => fun σ H er W Dd tk kk => by
  refine outS (ps_try_mix (tb := fun W D σ H => ∀ (pn : List (Addr × Obj)) (xe : Value → Shared → Prop), Takes (c.X.tr pn xe) W → PassesOwn (model c.X.prog c.X.w) c.X.A c.X.env xe → wpB (c.X.tr pn xe) body D σ H) hs hf tk
    (fun W pn xe tk2 po => ⟨fun pins s σ H D I h => (h pn xe tk2 po).run pins s I⟩) hm.ok) fun pn xe tk2 po => ?_
  have B : Bd (c.tr pn xe (fun C fo Γ1 => hdsW R c.E l C fo Γ1)) k := ⟨bd.calm, po, bd.nd, bd.hr, bd.gd⟩
  exact (hb pn xe _ B).run w σ H er _ Dd tk2 ⟨kk.nx, kk.rt, kk.bk, kk.ct, fun C fo dx σ' Γ' H' st er' hf' he => hm.wish kk st er' hf' he⟩⟩
end
end U
namespace PySem
namespace ErrX
open PySem.W PySem.Calls PyProof.Rows PySem.HandSPX
theorem err_mk {K : Frag} {h : Heap} {mg : Str → Option Value} {x f : Str} {C fI r N : Addr} (X : K.In h) (G : h.Ns mainGlobals mg) (ok : FieldOk f) {nm q ql : Str} {bs : List Value} {sn : List Str} {sub : List Value} {ab : Bool} {col : Option Bool} {dd od1 an1 : Option Addr} {m0 m1 m2 m3 m5 : Option Value} {sl1 : Array (Option Value)} {oc1 dc1 pm1 cd1 ct1 : Value} {p1 p2 q1 q2 q3 q4 : Pos}
    (aC : nsIn K mainGlobals x = some (some (.ref C))) (xL : K.lookup C = some (excClassObj nm q C N bs [.ref r, .type "ValueError", .type "Exception", .type "BaseException", .type "object"] true sn sub ab col dd m0 m1 m2 m3 m5 "ValueError.__new__"))
    (sa : findIn K (.ref C) "__setattr__" = some (some (.builtin "object.__setattr__"))) (ga : findIn K (.ref C) "__getattribute__" = some (some (.builtin "BaseException.__getattribute__"))) (gg : findIn K (.ref C) "__getattr__" = some none) (nb : findIn K (.ref C) f = some none)
    (a1 : findIn K (.ref C) "__init__" = some (some (.ref fI))) (t1 : typeIn K (.ref fI) = some (.type "function"))
    (l1 : K.lookup fI = some ⟨oc1, od1, .func (fnOf "__init__" ql (eA f p1 p2) (eB f q1 q2 q3 q4) (eS f) .none .none dc1 pm1 an1 cd1 ct1), sl1⟩) (c1 : codeIn K cd1 ql = true)
    (kC : keepIn K (.ref C) = true) (eC : subIn K (.ref C) (.type "BaseException") = some true) (tC : typeIn K (.ref C) = some (.type "type")) (hC : hasDictIn K C = true) : ErrTxt K mg x f C fI :=
  { gC := mg_of X G aC, cls := ⟨nm, q, N, bs, _, sn, sub, ab, col, dd, m0, m1, m2, m3, m5, xL, by show refsVE [.type "ValueError", .type "Exception", .type "BaseException", .type "object"] = true; decide +kernel⟩, sa := sa, ga := ga, gg := gg, noN := nb, iC := a1, tC := t1, kC := kC, exC := eC, tyC := tC, hdC := hC, ok := ok, fn := ⟨_, _, _, _, _, _, _, _, _, _, _, _, _, _, _, l1, c1⟩ }
theorem exm_self {K : Frag} {S : Addr} (h1 : subIn K (.ref S) (.type "BaseException") = some true) (h2 : isClsIn K S = true) (h3 : typeIn K (.ref S) = some (.type "type")) (h4 : subIn K (.ref S) (.ref S) = some true) : exmOne K (.ref S) (.ref S) = some true := by
  have e1 : (subIn K (.ref S) (.type "BaseException") == some true) = true := by rw [h1] <;> rfl
  have e2 : ((clsIn K S).isSome && typeIn K (.ref S) == some (.type "type")) = true := by
    have h2' : (clsIn K S).isSome = true := h2
    rw [h2', h3] <;> rfl
  show (if (subIn K (.ref S) (.type "BaseException") == some true) = true then (if ((clsIn K S).isSome && typeIn K (.ref S) == some (.type "type")) = true then subIn K (.ref S) (.ref S) else none) else none) = some true
  rw [if_pos e1, if_pos e2]
  exact h4
end ErrX
end PySem
/-! W11: repr of a list of a string and an empty dict. -/
namespace PySem
open PyProof.Rows
section
variable {prog : Program} {w : World} {h₀ : Heap} {a : Addr} {as : List Addr}
theorem showsBy_list' {o : Obj} {vs : Array Value} {n : Nat} {xs : List PyData} {bs₀ : List Addr} (h1 : h₀.get? a = some o) (h2 : o.cls = .type "list") (h3 : o.data = .seq vs n) (h4 : ReadsAll h₀ vs.toList xs bs₀) (hs : (PyData.list xs).showable = true) (hsm : sysModules ∉ bs₀)
    (hsz : (PyData.list xs).shown.length ≤ sizeLine) : ∃ T idr, ShowsBy prog w h₀ a (.list xs) T idr := by
  have hz' : (listText (PyData.shownAll xs)).length ≤ sizeLine := by simpa only [PyData.shown] using hsz
  obtain ⟨bs, hb, hk⟩ := ReprAllK.of_readsAll (prog := prog) (w := w) h4 (by simpa [PyData.showable] using hs) (fun hx hm => hsm hm) (fun t ht => Nat.le_trans (listText_mem_le ht) hz')
  have hna : a ∉ bs := not_mem_of_deeper (.list h1 h2 h3 h4) (by simp only [PyData.depth]; omega) hb
  refine ⟨"list", "list.__repr__", F.slot_list_repr.toG, F.slot_list_str, F.slot_list_format, fun s hk0 => ⟨o, hk0 _ _ h1, h2⟩, fun A E s Q hg hu hk0 hQ => ?_⟩
  simp only [PyData.depth] at hu
  simp only [PyData.shown] at hQ
  obtain ⟨l⟩ := vs
  cases l with
  | nil =>
    have h4' : ReadsAll h₀ [] xs _ := h4
    cases h4'
    simp only [PyData.shownAll, listText_nil] at hQ
    exact call_list_repr_empty ⟨o, hk0 _ _ h1, h2⟩ (hk0 _ _ h1) h3 (hQ s.heap _ _ fun _ _ e => e)
  | cons x l =>
    exact call_list_reprK h1 h2 h3 hna (by simpa using hk.length_eq) (fun i y e => hk.item i y (by simpa using e)) hg (fun b _ => Clear.nil b) hu hk0 hQ hz'
variable {A : Around} {E : Value → Shared → Prop} {s : Shared} {Q : Value → Shared → Prop}
theorem repr_of_list' {o : Obj} {vs : Array Value} {n : Nat} {xs : List PyData} {bs₀ : List Addr} (h1 : h₀.get? a = some o) (h2 : o.cls = .type "list") (h3 : o.data = .seq vs n) (h4 : ReadsAll h₀ vs.toList xs bs₀) (hs : (PyData.list xs).showable = true) (hsm : sysModules ∉ bs₀) (hg : A.guards = some []) (hu : A.units + ((PyData.list xs).depth + 1) < cLine) (hk0 : ∀ b o, h₀.get? b = some o → s.heap.get? b = some o)
    (hQ : ∀ h' u tk, (∀ b o, s.heap.get? b = some o → h'.get? b = some o) → Q (.str (PyData.list xs).shown u) { s with heap := h', toks := tk })
    (hsz : (PyData.list xs).shown.length ≤ sizeLine) : wpAny (model prog w) A (call (.builtin "repr") [.ref a]) Q E s := by
  obtain ⟨T, idr, S⟩ := showsBy_list' (prog := prog) (w := w) h1 h2 h3 h4 hs hsm hsz
  exact call_repr_slot (by omega) (S.typeIs s hk0) S.slotRepr (S.call A.in1 E s _ hg (by show A.units + 1 + (PyData.list xs).depth < cLine; omega) hk0 fun h' u tk hk => ⟨_, _, rfl, hQ h' u tk hk⟩)
end
end PySem
namespace U
open PySem PySem.Spec PyProof.Rows L2
section
variable {c : Co} {k : Nat} {Γ : Ga} {R : Oc} {P : D → Ga → Prop} {a b e : Expr} {es : List Expr} {pos p : Pos} {X : Cx} {wa : WE}
def wordD : D := .lst [.str "letter", .dic []]
theorem call_reprW (gd : X.A.guards = some []) (hu : X.A.units + 64 < cLine) {M : Ex} {H : Hw} {v : V} (r : Rq M H v wordD) {pins : List (Addr × Obj)} {s : Shared} {σ : Sw} {u : Value} {Q : VK} (I : Inv X pins σ H s) (ru : RelV v u) (q : Q (.str (shw wordD)) H) :
    wpAny (model X.prog X.w) X.A (call (.builtin "repr") [u]) (EP X pins σ Q) X.xe s := by
  obtain ⟨l, xs, rfl, hl, ra⟩ := r.lst_
  cases ru
  cases ra with
  | cons r1 r2 =>
    cases r2 with
    | cons r2 r3 =>
      cases r3
      cases r1
      cases r2 with
      | dic hb nb rk =>
        rename_i b kvs
        cases rk
        obtain ⟨its, rv, ⟨o, n, ho, hc, _, hd⟩, _⟩ := I.list (sql_of hl)
        obtain ⟨_, hsm, vs, kv, o2, es, ep, ho2, hx, hd2, hko, hps, _⟩ := dk_of I.hok hb
        cases kv
        have hes : es.toList = [] := by cases hq : es.toList with
          | nil => rfl
          | cons x xs => rw [hq] at hps; cases hps
        have rd : Reads s.heap (.ref b) (.dict []) (b :: [] ++ []) := .dict ho2 hx.1 hd2 (by rw [hes]; exact .nil) (by rw [hes]; exact .nil)
        cases rv with
        | cons v1 rv =>
          cases rv with
          | cons v2 rv =>
            cases rv
            obtain ⟨t1, rfl⟩ := v1
            cases v2
            refine repr_of_list' ho hc hd (xs := [.str "letter", .dict []]) (bs₀ := [] ++ ((b :: [] ++ []) ++ [])) (.cons (.str _ _) (.cons rd .nil)) (by simp [PyData.showable, PyData.showableAll, PyData.showableKv]) (fun z => ?_) gd (by simp only [PyData.depth, PyData.depthAll, PyData.depthKv]; omega) (fun _ _ e => e) (fun h' u tk hk => ⟨.str (shw wordD), H, I.kept (t' := tk) hk, ⟨u, rfl⟩, q⟩) (by rw [sizeLine_eq]; decide +kernel)
            have z' : sysModules = b := by simpa using z
            rw [z'] at hsm
            simp at hsm
def ShownW (d : D) : Prop := Shown d ∨ d = wordD
theorem ev_reprW (bd : Bd c k) (hm : c.X.mg "repr" = none) (h : EvQ c a Γ fun d Γ1 => ShownW d ∧ P (.str (shw d)) Γ1) (hg : Gl c.X "repr") (hs : starEach [a] c.X.env = (false, eval a c.X.env) :: starEach [] c.X.env := by rfl) (hpl : (backTo pos (starEach [] c.X.env)).any (·.1) = false := by rfl) : Ev c (.Call (.Name "repr" p) [a] [] pos) Γ P := fun σ H er Q W tk xw q => .mk fun pins s I => by
  have cr : CallR c.X (.builtin "repr") (fun vs H Q => ∃ (M' : Ex) (v : V) (d : D), vs = [v] ∧ Rq M' H v d ∧ ShownW d ∧ Q (.str (shw d)) H) := by
    intro pins s σ' H xs us Q I r h
    obtain ⟨M', v, d, rfl, rq, sh, q⟩ := h
    obtain ⟨u, rfl, ru⟩ := vals1 r
    rcases sh with (⟨n, j, rk, hn, hj⟩ | e) | e
    · exact call_repr_data bd.gd bd.hr.units rq rk hn hj I ru q
    · subst e
      obtain ⟨b, xs, rfl, e1, e2⟩ := rq.dic_
      cases e2
      cases ru
      exact call_reprE_data bd.gd bd.hr.units e1 I q
    · subst e
      exact call_reprW bd.gd bd.hr.units rq I ru q
  refine (pe_callB cr hg hm (by decide +kernel) (pa_cons selfE pa_nil hs) (by decide) (by decide) hs hpl).run pins s σ H Q I ?_
  exact h σ H er _ W tk xw fun v d Γ1 H1 g r ⟨sh, hp⟩ => ⟨_, v, d, rfl, r, sh, q _ _ Γ1 H1 g (.str _) hp⟩
def oReprW : O1 := fun d P => ShownW d ∧ P (.str (shw d))
theorem se_reprW (bd : Bd c k) (hm : c.X.mg "repr" = none) (ha : SQ c a wa) (hg : Gl c.X "repr" := by rfl) (hs : starEach [a] c.X.env = (false, eval a c.X.env) :: starEach [] c.X.env := by rfl) (hpl : (backTo pos (starEach [] c.X.env)).any (·.1) = false := by rfl) : SE c (.Call (.Name "repr" p) [a] [] pos) (wOp1 oReprW wa) :=
  ⟨fun w => ev_reprW bd hm (eq_mono (ha.run w) fun d _ h => h) hg hs hpl⟩
end
end U
/-! W12: sets of ints by a comprehension, told sorted; gcd, sum, min, len(set(..)). -/
namespace L2
open PySem PySem.Spec PyProof.Rows SrtO
section
variable {P : Program} {w : World} {A : Around} {E : Value → Shared → Prop} {s : Shared} {a : Addr}
theorem sorted_setN {S : Int → Bool} {n : Nat} {Q : Value → Shared → Prop} (R : SetR w s.heap a S n) (hh : A.handled = none)
    (hQ : ∀ s' p (out : Array Value) (c : Nat) (ns : List Int), (∀ b o, s.heap.get? b = some o → s'.heap.get? b = some o) → s'.gens = s.gens → s'.os = s.os → s.heap.objs.size ≤ p →
      s'.heap.get? p = some (seqObj "list" out c) → IntsAre out.toList ns → ns.Pairwise (· < ·) → (∀ k, k ∈ ns ↔ S k = true) → ns.length = n → Q (.ref p) s') :
    wpAny (model P w) A (call (.builtin "sorted") [.ref a]) Q E s := by
  obtain ⟨o, es, ep, t, ho, hex, hd, g, nd, hm, hb, hf, hn, hr, hl⟩ := R
  have hn4 : n < 4096 := by rw [← hn]; exact hb
  refine Calls.call_function_entry kind_sorted plain_sorted entry_sorted (args_sorted1 _) ?_
  unfold Builtin.«sorted»
  refine wpAny_bind (m := checkCount "sorted" 1 1 _) (wpAny_pure ?_)
  refine wpAny_bind (collect_set (A := A.in1) hh ⟨o, ho, hex.1, hd⟩ hf hb hr hl fun s1 vs k1 hz g1 o1 pm => ?_)
  have hvl : vs.length = n := by rw [pm.length_eq, List.length_map, Array.length_toList]; exact hn
  have hI : IntsAre vs (vs.map Builtin.Re.reRawOf) := ints_of vs fun v hv => by
    obtain ⟨e, he, q⟩ := List.mem_map.mp (pm.mem_iff.mp hv)
    obtain ⟨k, tk, h1, _⟩ := g e he
    exact ⟨k, tk, by rw [← q]; exact h1⟩
  have pk : (vs.map Builtin.Re.reRawOf).Perm (es.toList.map keyOf) := by
    have q := pm.map Builtin.Re.reRawOf
    rw [List.map_map] at q
    exact q
  have hvz : vs.length ≤ sizeLine := by rw [hvl, sizeLine_eq]; omega
  refine wpAny_bind (wpAny_newList ?_ hvz)
  have hoL : (s1.heap.push (seqObj "list" vs.toArray 0)).get? s1.heap.objs.size = some (seqObj "list" vs.toArray 0) := Heap.get?_push_size _ rfl
  refine wpAny_bind (wpAny_holding (wpAny_call_entry slot_list_sort ⟨_, hoL, rfl⟩ entry_list_sort (list_sort_ord swo_int hoL hvz (fun h2 => ints_sortable hI h2) fun out hs hb2 => ⟨_, rfl, ?_⟩) (args_list_sort _)))
  obtain ⟨a1, a2, a3⟩ := ints_out hI hs hb2
  obtain ⟨c, hc⟩ := sortedHeap_at (vs := vs) (out := out.toArray) hoL
  have pn : (out.map iv).Perm (es.toList.map keyOf) := a2.trans pk
  refine wpAny_pure ⟨_, rfl, hQ _ s1.heap.objs.size out.toArray c (out.map iv) (fun b u e => ?_) g1 o1 hz hc a1 (lt_of_le_nodup _ a3 (pn.nodup_iff.mpr nd)) (fun k => by rw [pn.mem_iff, ← hm k]) ?_⟩
  · have q := k1 b u e
    have hlt := Heap.lt_size q
    show (sortedHeap (s1.heap.push (seqObj "list" vs.toArray 0)) s1.heap.objs.size vs out.toArray).get? b = some u
    rw [sortedHeap_old (Nat.ne_of_lt hlt) (by rw [size_push']; exact Nat.lt_succ_of_lt hlt)]
    exact Heap.get?_push_of_some _ q
  · rw [pn.length_eq, List.length_map, Array.length_toList]; exact hn
end
section
variable {X : Cx}
def rSortedSetN (w : World) : List V → Hp → VK → Prop := fun vs H Q => ∃ (a : Addr) (S : Int → Bool) (n : Nat), vs = [V.ref a] ∧ H a = some (SetO w a S n) ∧
  ∀ (ns : List Int) (p : Addr), ns.Pairwise (· < ·) → (∀ k : Int, k ∈ ns ↔ S k = true) → ns.length = n → H p = none → Q (.ref p) (upd H p (.lst (ns.map V.int)))
theorem cr_sortedSetN (hc : X.calm = true) : CallR X (.builtin "sorted") (rSortedSetN X.w) := by
  intro pins s σ H vs us Q I r h
  obtain ⟨a, S, n, rfl, ha, q⟩ := h
  have R := setO_get I ha
  have hn4 : n < 4096 := by
    obtain ⟨o, es, ep, t, ho, hex, hd, g, nd, hm, hb, hf, hn, hr, hl⟩ := R
    rw [← hn]; exact hb
  rw [Vals.ref1 r]
  refine sorted_setN R (I.ok.hd hc) fun s' p out c ns k g o hp hg hi hs hm hl => ?_
  have hlen : (ns.map V.int).length ≤ sizeLine := by rw [List.length_map, hl, sizeLine_eq]; omega
  have hn : H p = none := I.hok.fresh hp
  have J : Inv X pins σ (upd H p (.lst (ns.map V.int))) { s with heap := s'.heap, gens := s'.gens, drawn := s'.drawn, toks := s'.toks } :=
    I.call (ch := []) (Un.laid k hp hn) (I.hok.laid k hp ⟨hlen, out.toList, c, vals_of_ints hi, hg⟩) (by rw [g]; exact I.bare) (fun _ z => nomatch z)
  have e : s' = { s with heap := s'.heap, gens := s'.gens, drawn := s'.drawn, toks := s'.toks } := by
    cases s'
    cases s
    cases o
    rfl
  rw [e]
  exact ⟨.ref p, _, J, rfl, q ns p hs hm hl hn⟩
end
end L2
namespace L2
open PySem PySem.Spec PyProof.Rows L2 PpSet
section
variable {X : Cx}
theorem addI_ok {pins : List (Addr × Obj)} {σ : L2.St} {H : Hp} {s : Shared} {E : Value → Shared → Prop} {D : Addr} {S : Int → Bool} {n : Nat} {y : Int} {tk : Tok} {Q : Value → Shared → Prop} (I : Inv X pins σ H s) (hD : H D = some (SetO X.w D S n)) (room : n + 1 < scanBound)
    (h : ∀ s', Inv X pins σ (upd H D (SetO X.w D (fun j => S j || decide (j = y)) (if S y = true then n else n + 1))) s' → Q .none s') : wpAny (model X.prog X.w) X.A (call (.builtin "set.add") [.ref D, .int y tk]) Q E s := by
  have R := setO_get I hD
  refine setR_add R room fun h' sb new => ?_
  have he : ∃ u, h'.get? D = some u := by
    have ⟨o, _, _, _, ho, _⟩ := new
    exact ⟨o, ho⟩
  exact h _ (I.write (e := D) (t' := s.toks + 1) (by rw [hD]; trivial) (.inl rfl) (fun b u hb hu => (sb.2 b hb).trans hu) he (setO_new new))
def tScI (w : World) (wi : TI) (g : TG) (tt : TT) (te : TE) (vs : List Nat) : TE := fun σ H Q => wi σ H fun J H1 => ∀ D, H1 D = none → ∃ W : Nat → Nat → Hp → Prop, (∃ m, W 0 m (upd H1 D (SetO w D (fun _ => false) 0))) ∧ ∀ i m H, W i m H →
  (J.stop i H ∧ Q (.ref D) H) ∨ (J.go i H ∧ ∃ Nx : Hp → Prop, (∀ H', Nx H' → ∃ m', m' < m ∧ W (i + 1) m' H') ∧ ∀ x H', J.yld i H x H' → g x (wipe σ vs) H' fun σ2 H2 => wipe σ2 vs = wipe σ vs ∧ tt σ2 H2 fun b H3 =>
    if b = true then te σ2 H3 fun y H4 => ∃ (c : Int) (S : Int → Bool) (n : Nat), y = .int c ∧ H4 D = some (SetO w D S n) ∧ n + 1 < scanBound ∧ Nx (upd H4 D (SetO w D (fun j => S j || decide (j = c)) (if S c = true then n else n + 1))) else Nx H3)
theorem scI_core {pins : List (Addr × Obj)} {s : Shared} {σ : L2.St} {H : Hp} {Q : VK} {elt tg iter : Expr} {ifs : List Expr} {scope : Scope} {own : List (PySem.Str × Nat)} {pos pos' : Pos} {wi : TI} {g : TG} {tt : TT} {te : TE} {use : Option (Value → Sem Unit)} {Qf : Value → Shared → Prop}
    (hc : X.calm = true) (hN : X.N.Nodup) (I : Inv X pins σ H s) (hi : PI X tg iter wi) (ok : BlkOk X.N X.env.scope scope own)
    (hg : ∀ (s : Shared) (H : Hp) (C : Addr) (cl : List (PySem.Str × Addr)) (fp : List Addr), PG (X.blk s H scope (compEnvC scope cl C X.env) fp) tg g) (ht : ∀ (s : Shared) (H : Hp) (C : Addr) (cl : List (PySem.Str × Addr)) (fp : List Addr), PTs (X.blk s H scope (compEnvC scope cl C X.env) fp) ifs tt)
    (he : ∀ (s : Shared) (H : Hp) (C : Addr) (cl : List (PySem.Str × Addr)) (fp : List Addr), PE (X.blk s H scope (compEnvC scope cl C X.env) fp) elt te) (hs : ∀ x, foldedSetIterable iter X.env x = pure x)
    (h : tScI X.w wi g tt te (own.map (·.2)) σ H Q)
    (hRR : ∀ D C s' m H', Inv X pins σ H' s' → Q (.ref D) H' → s'.heap.Ns C m → FpOk X pins H' C → compPost (model X.prog X.w) X.A X.xe use Qf (.ref D) C (.ok .next) s') :
    wpAny (model X.prog X.w) X.A (comprehension (.SetComp elt [⟨tg, iter, ifs, 0⟩] scope pos) scope X.env pos' (newSet (.type "set")) false (eval iter X.env) use) Qf X.xe s := by
  have hfree : ∀ y ∈ scope.names, y.2 = .free → ∃ c, X.env.cells.lookup y.1 = some c := fun y hy e => by
    rcases ok.free y hy e with k | k
    · exact I.ok.has _ (.inl k)
    · exact I.ok.has _ (.inr k)
  refine wpAny_comprehension_free (use := use) rfl hs (closure_ok hfree) ok.kind (fun y hy e => by rw [ok.uniq y hy, e])
    (thn (hi.run pins s σ H _ I h) fun xv s1 hx => thn hx fun itv s2 h2 => ?_)
  obtain ⟨it, fp, tn, J, H2, e, I2, T, st2, f2, q⟩ := h2
  subst e
  refine newSet_ok (newEnv_comp ?_)
  generalize hD : s2.heap.objs.size = D
  have hDn : H2 D = none := I2.hok.fresh (Nat.le_of_eq hD)
  obtain ⟨W, ⟨m0, w0⟩, turn⟩ := q D hDn
  generalize hs3 : ({ s2 with heap := s2.heap.push { cls := .type "set", dict := none, data := .set #[] 0 (.fresh 0 0 (!X.w.params.followText "set-order")) } } : Shared) = s3
  have I3 : Inv X pins σ (upd H2 D (SetO X.w D (fun _ => false) 0)) s3 := by
    rw [← hs3]
    refine I2.laid (t' := s2.toks) (fun b o e => Heap.get?_push_of_some _ e) (Nat.le_of_eq hD) ?_
    rw [← hD]
    exact setO_new (setR_fresh X.w)
  have h3 : s3.heap = s2.heap.push { cls := .type "set", dict := none, data := .set #[] 0 (.fresh 0 0 (!X.w.params.followText "set-order")) } := by rw [← hs3]
  have sz : ∀ b ∈ fp, b < s2.heap.objs.size := fun b hb => by
    obtain ⟨o, e, _⟩ := T.obj _ _ st2 b hb
    exact Heap.lt_size e
  have f3 : ∀ b ∈ fp, FpOk X pins (upd H2 D (SetO X.w D (fun _ => false) 0)) b ∧ b < s3.heap.objs.size := fun b hb => by
    have hlt := sz b hb
    refine ⟨⟨?_, (f2 b hb).2⟩, by rw [h3, Heap.size_push]; exact Nat.lt_succ_of_lt hlt⟩
    rw [upd_ne (by rw [← hD]; exact Nat.ne_of_lt hlt)]
    exact (f2 b hb).1
  have st3 : tn 0 s3.heap := T.keep _ _ _ st2 fun b _ o e => by rw [h3]; exact Heap.get?_push_of_some _ e
  have I4 := block_start I3 ok hN f3
  have pg := hg s3 (upd H2 D (SetO X.w D (fun _ => false) 0)) s3.heap.objs.size (cellsFrom (s3.heap.objs.size + 1) scope.names (cloFrom X.env.cells scope.names [])) fp
  have pt := ht s3 (upd H2 D (SetO X.w D (fun _ => false) 0)) s3.heap.objs.size (cellsFrom (s3.heap.objs.size + 1) scope.names (cloFrom X.env.cells scope.names [])) fp
  have pe := he s3 (upd H2 D (SetO X.w D (fun _ => false) 0)) s3.heap.objs.size (cellsFrom (s3.heap.objs.size + 1) scope.names (cloFrom X.env.cells scope.names [])) fp
  show codeAny _ _ (.compStart (.SetComp elt [⟨tg, iter, ifs, 0⟩] scope pos) 0 (.ref it) (.ref D) (compEnvC scope (cellsFrom (s3.heap.objs.size + 1) scope.names (cloFrom X.env.cells scope.names [])) s3.heap.objs.size X.env)) (compPost (model X.prog X.w) X.A X.xe use Qf (.ref D) s3.heap.objs.size) { s3 with heap := pushCells (s3.heap.push { cls := .type "dict", data := .dict #[] }) scope.names }
  have nfp : ∀ b ∈ fp, (upd H2 D (SetO X.w D (fun _ => false) 0)) b = none := fun b hb => (f3 b hb).1.1
  generalize hce : compEnvC scope (cellsFrom (s3.heap.objs.size + 1) scope.names (cloFrom X.env.cells scope.names [])) s3.heap.objs.size X.env = ce at I4 pg pt pe ⊢
  have cL : ce.locals = s3.heap.objs.size := by subst hce; rfl
  generalize hH3 : upd H2 D (SetO X.w D (fun _ => false) 0) = H3 at I3 I4 pg pt pe w0 nfp f3
  generalize hs4 : ({ s3 with heap := pushCells (s3.heap.push { cls := .type "dict", data := .dict #[] }) scope.names } : Shared) = s4 at I4 ⊢
  have st4 : tn 0 s4.heap := T.keep _ _ _ st3 fun b _ o e => by rw [← hs4]; exact pushCells_keeps _ _ _ _ (Heap.get?_push_of_some _ e)
  have stat : ∀ {σ' : L2.St} {H' : Hp} {s' : Shared}, Inv (X.blk s3 H3 scope ce fp) [] σ' H' s' → (∀ b ∈ fp, H' b = none) → ∀ b ∈ fp, FpOk (X.blk s3 H3 scope ce fp) [] H' b := fun {σ' H' s'} I' hn b hb =>
    ⟨hn b hb, (I'.ok.exf b hb).1, I'.ok.exfs b hb, .inl hb, fun x c e => (I'.ok.exf b hb).2 x c e, fun p hp => absurd (show p ∈ ([] : List (Addr × Obj)) ++ [] from hp) (by simp)⟩
  have loop : codeAny (model X.prog X.w) X.A (.compLoop (.SetComp elt [⟨tg, iter, ifs, 0⟩] scope pos) 0 (.ref it) (.ref D) ce) (compPost (model X.prog X.w) X.A X.xe use Qf (.ref D) s3.heap.objs.size) s4 := by
    refine compLoopS_any (fun n s' => ∃ i H', Inv (X.blk s3 H3 scope ce fp) [] (wipe σ (own.map (·.2))) H' s' ∧ tn i s'.heap ∧ (∀ b ∈ fp, H' b = none) ∧ W i n H') ?_ m0 ⟨0, H3, I4, st4, nfp, w0⟩
    rintro n s5 ⟨i, H5, I5, st5, n5, w5⟩
    rcases turn i n H5 w5 with ⟨stop, qq⟩ | ⟨go, Nx, hNx, step⟩
    · have td := T.done (X.blk s3 H3 scope ce fp) rfl rfl rfl hc i [] s5 _ H5 (fun _ _ => False) I5 (stat I5 n5) st5 stop
      refine thnF td fun r s6 ⟨hr, I6⟩ => ?_
      subst hr
      have I7 : Inv X pins σ H5 s6 := I3.call' (ch := fp) I6.os I6.base I6.hok I6.bare fun b hb => ⟨(f3 b hb).1.2.2.2.1, (f3 b hb).1.2.1, (f3 b hb).1.2.2.2.2.1, (f3 b hb).1.2.2.2.2.2⟩
      have nC : H5 s3.heap.objs.size = none := by
        have z : H5 ce.locals = none := I6.free
        rw [cL] at z
        exact z
      obtain ⟨m, hn, _⟩ := I6.loc
      have hn : s6.heap.Ns ce.locals m := hn
      rw [cL] at hn
      exact hRR D s3.heap.objs.size s6 m H5 I7 qq hn (I3.fpOk (Nat.le_refl _) nC)
    · have ti := T.item (X.blk s3 H3 scope ce fp) rfl rfl rfl hc i [] s5 _ H5 (fun _ _ => False) I5 (stat I5 n5) st5 go
      refine thnF ti fun r s6 ⟨u, hr, h6⟩ => ?_
      subst hr
      refine thnF h6 fun _ s7 ⟨x, H7, I7, r7, y7, st7, n7⟩ => ?_
      have I7' := I7.pinned (stat I7 n7) (T.obj _ _ st7)
      refine thnF (pg.run _ s7 _ H7 x u _ I7' r7 (step x H7 y7)) fun _ s8 ⟨σ8, H8, I8, hw8, q8⟩ => ?_
      refine thnF (pt.run _ s8 σ8 H8 _ I8 q8) fun b s9 ⟨H9, I9, q9⟩ => ?_
      have fin : ∀ {s' : Shared} {H' : Hp}, Inv (X.blk s3 H3 scope ce fp) ([] ++ pinsAt fp s7.heap) σ8 H' s' → Nx H' → ∃ m, m < n ∧ ∃ i H', Inv (X.blk s3 H3 scope ce fp) [] (wipe σ (own.map (·.2))) H' s' ∧ tn i s'.heap ∧ (∀ b ∈ fp, H' b = none) ∧ W i m H' := fun {s' H'} I' nx => by
        obtain ⟨m', hm, w'⟩ := hNx H' nx
        have pin' : ∀ b ∈ fp, ∀ o, s7.heap.get? b = some o → s'.heap.get? b = some o ∧ H' b = none := fun b hb o e =>
          let z := I'.pin (b, o) (List.mem_append_right _ (List.mem_append_right _ (mem_pinsAt hb e)))
          ⟨z.1, z.2.1⟩
        have hl : (wipe σ (own.map (·.2))).length = σ8.length := by rw [← hw8, wipe_length]
        refine ⟨m', hm, i + 1, H', (I'.unpinned (pins := [])).weak hl (fun j v e => ?_), T.keep _ _ _ st7 fun b hb o e => (pin' b hb o e).1, fun b hb => ?_, w'⟩
        · rw [← hw8] at e
          exact (wipe_some e).1
        · obtain ⟨o, e, _⟩ := T.obj _ _ st7 b hb
          exact (pin' b hb o e).2
      cases b with
      | false =>
        simp only [Bool.false_eq_true, if_false] at q9 ⊢
        exact fin I9 q9
      | true =>
        simp only [if_true] at q9 ⊢
        refine thnF (pe.run _ s9 σ8 H9 _ I9 q9) fun z s10 ⟨yv, H10, I10, r10, cb, S0, n0, ey, hD10, hz10, nx⟩ => ?_
        subst ey
        obtain ⟨tk9, rfl⟩ : ∃ t, z = Value.int cb t := r10
        exact addI_ok (X := X.blk s3 H3 scope ce fp) I10 hD10 hz10 fun s11 I11 => fin I11 nx
  exact codeAny_compStart_set loop (T.self X.A 0 _ _ _ st4 loop)
/-- as a value -/
theorem pe_scI {elt tg iter : Expr} {ifs : List Expr} {scope : Scope} {own : List (PySem.Str × Nat)} {pos : Pos} {wi : TI} {g : TG} {tt : TT} {te : TE} (hc : X.calm = true) (hN : X.N.Nodup) (hi : PI X tg iter wi) (ok : BlkOk X.N X.env.scope scope own)
    (hg : ∀ (s : Shared) (H : Hp) (C : Addr) (cl : List (PySem.Str × Addr)) (fp : List Addr), PG (X.blk s H scope (compEnvC scope cl C X.env) fp) tg g) (ht : ∀ (s : Shared) (H : Hp) (C : Addr) (cl : List (PySem.Str × Addr)) (fp : List Addr), PTs (X.blk s H scope (compEnvC scope cl C X.env) fp) ifs tt)
    (he : ∀ (s : Shared) (H : Hp) (C : Addr) (cl : List (PySem.Str × Addr)) (fp : List Addr), PE (X.blk s H scope (compEnvC scope cl C X.env) fp) elt te) (hs : ∀ x, foldedSetIterable iter X.env x = pure x := by intro _; rfl) :
    PE X (.SetComp elt [⟨tg, iter, ifs, 0⟩] scope pos) (tScI X.w wi g tt te (own.map (·.2))) := by
  refine ⟨fun pins s σ H Q I h => ?_⟩
  rw [eval_SetComp]
  refine scI_core hc hN I hi ok hg ht he hs h fun D C s' m H' I' q hn f => ⟨m, hn, fun h'' sb => ?_⟩
  obtain ⟨f0, f1, f2, f3, f4, f5⟩ := f
  exact ⟨.ref D, H', I'.turned (t' := s'.toks) (fun b o hb e => (sb.2 b hb).trans e) f0 f1 f3 f4 f5, rfl, q⟩
end
end L2
namespace U
open PySem PySem.Spec PyProof.Rows L2
section
variable {c : Co} {k : Nat} {Γ : Ga} {P : D → Ga → Prop} {a b e : Expr} {pos p p2 q2 : Pos} {wa : WE} {wl : WL}
abbrev SetL (w : World) (a : Addr) (es : List Int) : HO := SetO w a (fun j => decide (j ∈ es)) es.length
structure MidS (c : Co) (σ : Sw) (Γ1 : Ga) (vs : List Nat) (H1 : Hw) (Dl : Addr) (es : List Int) (H2 : Hw) : Prop where
  pres : ∀ a o, ¬ c.U.T a → ¬ Ow σ Γ1 a → H1 a = some o → H2 a = some o
  er : ER c.U (fun a => c.M a ∨ a = Dl) H2 (wipe σ vs) (unset vs Γ1)
  dl : H2 Dl = some (SetL c.X.w Dl es)
theorem set_put {w : World} {a : Addr} (es : List Int) (k : Int) : SetO w a (fun j => decide (j ∈ es) || decide (j = k)) (if decide (k ∈ es) = true then es.length else es.length + 1) = SetL w a (if k ∈ es then es else es ++ [k]) := by
  by_cases h : k ∈ es
  · have f : (fun j => decide (j ∈ es) || decide (j = k)) = fun j => decide (j ∈ es) := by
      funext j
      by_cases e : j = k
      · subst e; simp [h]
      · simp [e]
    rw [if_pos h, if_pos (decide_eq_true h), f]
  · have f : (fun j => decide (j ∈ es) || decide (j = k)) = fun j => decide (j ∈ es ++ [k]) := by
      funext j
      simp
    rw [if_neg h, if_neg (by simp [h]), f]
    simp [SetL]
theorem sc_data {ex tg : Expr} {scope : Scope} {vs : List Nat} {σ : Sw} {Γ1 : Ga} {H1 : Hw} {J : It} {xs : List D} {f : D → Int} {Dl : Addr} {Qd : Hw → Prop} (er : ER c.U c.M H1 σ Γ1) (src : Src c σ Γ1 H1 J xs) (hD : H1 Dl = none) (hl : xs.length ≤ 4000)
    (hs : ∀ x ∈ xs, ∀ (s : Shared) (H : Hw) (C : Addr) (cl : List (Str × Addr)) (fp : List Addr), Gw (c.inner s H scope C cl fp Dl) vs tg (unset vs Γ1) x fun Γ2 =>
        ∀ (s : Shared) (H : Hw) (C : Addr) (cl : List (Str × Addr)) (fp : List Addr), Ev (c.inner s H scope C cl fp Dl) ex Γ2 fun y Γ3 => Γ3 = Γ2 ∧ y = .int (f x))
    (hd : ∀ es H2, MidS c σ Γ1 vs H1 Dl es H2 → es.Nodup → (∀ k, k ∈ es ↔ ∃ x ∈ xs, f x = k) → Qd H2) :
    ∃ W : Nat → Nat → Hw → Prop, (∃ m, W 0 m (upd H1 Dl (SetO c.X.w Dl (fun _ => false) 0))) ∧ ∀ i m H, W i m H →
      (J.stop i H ∧ Qd H) ∨ (J.go i H ∧ ∃ Nx : Hw → Prop, (∀ H', Nx H' → ∃ m', m' < m ∧ W (i + 1) m' H') ∧ ∀ x H', J.yld i H x H' → wpGX c.X scope tg x (wipe σ vs) H' fun σ2 H2 => wipe σ2 vs = wipe σ vs ∧ wpFX c.X scope [] σ2 H2 fun b H3 =>
        if b = true then wpEX c.X scope ex σ2 H3 fun y H4 => ∃ (c1 : Int) (S : Int → Bool) (n : Nat), y = .int c1 ∧ H4 Dl = some (SetO c.X.w Dl S n) ∧ n + 1 < scanBound ∧ Nx (upd H4 Dl (SetO c.X.w Dl (fun j => S j || decide (j = c1)) (if S c1 = true then n else n + 1))) else Nx H3) := by
  have npD : ¬ c.U.T Dl := fun t => er.kn Dl (er.tm Dl t) hD
  have hM : ∀ a, (c.M a ∨ a = Dl) → c.M a ∨ H1 a = none := fun a h => h.imp id fun z => by rw [z]; exact hD
  have f0 : (fun _ : Int => false) = fun j => decide (j ∈ ([] : List Int)) := by funext j; simp
  refine ⟨fun i m H2 => m = xs.length - i ∧ i ≤ xs.length ∧ ∃ es, MidS c σ Γ1 vs H1 Dl es H2 ∧ es.Nodup ∧ es.length ≤ i ∧ ∀ k, k ∈ es ↔ ∃ x ∈ xs.take i, f x = k, ⟨xs.length, by simp, Nat.zero_le _, [], ⟨fun a o _ _ e => Grow.new hD a o e, (er.unset vs).apart hD, by rw [f0]; exact upd_same⟩, .nil, Nat.le_refl _, fun k => by simp⟩, ?_⟩
  rintro i m H2 ⟨rfl, hi, es, md, nd, al, hI⟩
  have st : Step c.U σ Γ1 H1 (wipe σ vs) (unset vs Γ1) H2 := ⟨md.pres, fun a z => .inl (ow_unset z)⟩
  by_cases hlt : i < xs.length
  · refine .inr ⟨src.go i _ _ _ H2 hM st.m md.er hlt, fun H' => ∃ es, MidS c σ Γ1 vs H1 Dl es H' ∧ es.Nodup ∧ es.length ≤ i + 1 ∧ ∀ k, k ∈ es ↔ ∃ x ∈ xs.take (i + 1), f x = k, fun H' z => ⟨xs.length - (i + 1), by omega, rfl, hlt, z⟩, fun v H3 y s H0 C cl fp => ?_⟩
    obtain ⟨gr, d, hd', rd⟩ := src.yld i _ _ _ H2 v H3 hM st.m md.er hlt y
    refine hs d (List.mem_of_getElem? hd') s H0 C cl fp (wipe σ vs) H3 v (md.er.grow gr) rd _ (fun σ4 Γ4 e4 u4 s4 r4 hF => ⟨e4.trans (wipe_idem σ vs), fun s H0 C cl fp => .inl ⟨rfl, ?_⟩⟩)
    rw [unset_idem] at u4
    rw [wipe_idem] at e4
    have xw0 : ∀ (s : Shared) (H0 : Hw) (C : Addr) (cl : List (Str × Addr)) (fp : List Addr) {Γ5 : Ga} {H5 : Hw}, XW (c.inner s H0 scope C cl fp Dl) σ4 Γ5 H5 (fun _ _ _ _ => False) := fun _ _ _ _ _ _ _ _ _ _ _ _ _ _ _ _ e => e
    show wpEX c.X scope ex σ4 H3 _
    intro s H0 C cl fp
    refine hF s H0 C cl fp σ4 H3 r4 _ (fun _ _ _ _ => False) takes0 (xw0 s H0 C cl fp) fun w y5 Γ5 H6 g5 p5 ⟨e5, ey⟩ => ?_
    subst e5
    subst ey
    cases p5
    have fr6 : ∀ a o, ¬ c.U.T a → ¬ Ow σ4 Γ5 a → H3 a = some o → H6 a = some o := fun a o t n e => g5.st.fr a o t n e
    have r6 : ER c.U (fun a => c.M a ∨ a = Dl) H6 σ4 Γ5 := g5.er
    have keep : ∀ a o, ¬ c.U.T a → ¬ Ow (wipe σ vs) (unset vs Γ1) a → H2 a = some o → H6 a = some o := fun a o t n e => fr6 a o t (fun z => by
      rcases s4.og a z with z | z
      · exact n z
      · rw [gr a o e] at z; cases z) (gr a o e)
    have atD : H6 Dl = some (SetL c.X.w Dl es) := fr6 Dl _ npD (fun z => (r4.own_ne z).1 (.inr rfl)) (gr _ _ md.dl)
    have e7 : ER c.U (fun a => c.M a ∨ a = Dl) H6 (wipe σ vs) (unset vs Γ1) := by
      have z := r6.unset vs
      rw [u4, e4] at z
      exact z
    refine ⟨f d, _, _, rfl, atD, Nat.lt_of_le_of_lt (show es.length + 1 ≤ 4002 by omega) (by decide), (if f d ∈ es then es else es ++ [f d]), ⟨fun a o t n e => ?_, e7.apartMut npD, ?_⟩, ?_, ?_, ?_⟩
    · rw [upd_ne (ne_of_none e hD)]
      exact keep a o t (fun z => n (ow_unset z)) (md.pres a o t n e)
    · rw [set_put]
      exact upd_same
    · split
      · exact nd
      · rename_i hn
        exact List.nodup_append.mpr ⟨nd, by simp, fun a ha b hb => by
          rw [List.mem_singleton] at hb
          rintro rfl
          exact hn (hb ▸ ha)⟩
    · split
      · omega
      · rw [List.length_append, List.length_singleton]; omega
    · intro k
      rw [List.take_succ, hd']
      have ek : (∃ x ∈ xs.take i ++ (some d).toList, f x = k) ↔ (∃ x ∈ xs.take i, f x = k) ∨ f d = k := by
        simp only [Option.toList_some, List.mem_append, List.mem_singleton]
        constructor
        · rintro ⟨x, h | h, e⟩
          · exact .inl ⟨x, h, e⟩
          · subst h; exact .inr e
        · rintro (⟨x, h, e⟩ | e)
          · exact ⟨x, .inl h, e⟩
          · exact ⟨d, .inr rfl, e⟩
      rw [ek, ← hI]
      split
      · rename_i hn
        exact ⟨.inl, fun z => z.elim id fun z => z ▸ hn⟩
      · rw [List.mem_append, List.mem_singleton]
        exact or_congr Iff.rfl eq_comm
  · have e : i = xs.length := by omega
    subst e
    exact .inl ⟨src.stop _ _ _ H2 hM st.m md.er, hd _ _ md nd fun k => by rw [hI, List.take_length]⟩
/-- sorted({e for x in ..}) -/
theorem ev_sortedSc {ex tg iter : Expr} {scope : Scope} (own : List (Str × Nat)) (bd : Bd c k) (ok : BlkOk c.X.N c.X.env.scope scope own) (hm : c.X.mg "sorted" = none)
    (h : Iv c tg iter Γ fun xs Γ1 => ∃ f : D → Int, xs.length ≤ 4000 ∧ (∀ m ∈ own.map (·.2), ∀ s, Γ1[m]? = some s → s.mine = false) ∧
      (∀ x ∈ xs, ∀ (Dl : Addr) (s : Shared) (H : Hw) (C : Addr) (cl : List (Str × Addr)) (fp : List Addr), Gw (c.inner s H scope C cl fp Dl) (own.map (·.2)) tg (unset (own.map (·.2)) Γ1) x fun Γ2 =>
        ∀ (s : Shared) (H : Hw) (C : Addr) (cl : List (Str × Addr)) (fp : List Addr), Ev (c.inner s H scope C cl fp Dl) ex Γ2 fun y Γ3 => Γ3 = Γ2 ∧ y = .int (f x)) ∧
      ∀ ms : List Int, ms.Pairwise (· < ·) → (∀ k, k ∈ ms ↔ ∃ x ∈ xs, f x = k) → P (.lst (ms.map D.int)) Γ1)
    (hg : Gl c.X "sorted") (hs : ∀ x, foldedSetIterable iter c.X.env x = pure x) (hst : starEach [.SetComp ex [⟨tg, iter, [], 0⟩] scope q2] c.X.env = (false, eval (.SetComp ex [⟨tg, iter, [], 0⟩] scope q2) c.X.env) :: starEach [] c.X.env)
    (hpl : (backTo pos (starEach [] c.X.env)).any (·.1) = false) : Ev c (.Call (.Name "sorted" p) [.SetComp ex [⟨tg, iter, [], 0⟩] scope q2] [] pos) Γ P := fun σ H er Q W tk xw q => by
  refine outE (pe_callB (cr_sortedSetN bd.calm) hg hm (by decide +kernel) (pa_cons (pe_scI (own := own) (g := wpGX c.X scope tg) (tt := wpFX c.X scope []) (te := wpEX c.X scope ex) bd.calm bd.nd selfI ok (fun s H C cl fp => ⟨fun pins s' σ H' v u Q I r h => (h s H C cl fp).run pins s' u I r⟩)
    (fun s H C cl fp => ⟨fun pins s' σ H' Q I h => selfF.run pins s' σ H' Q I (h s H C cl fp)⟩) (fun s H C cl fp => ⟨fun pins s' σ H' Q I h => (h s H C cl fp).run pins s' I⟩) hs) pa_nil hst) (by decide) (by decide) hst hpl) ?_
  refine h σ H er _ W tk xw fun J xs Γ1 H1 g src ⟨f, hl, hm2, ht, hp⟩ Dl hD => ?_
  refine sc_data g.er src hD hl (fun x hx => ht x hx Dl) fun es H2 md nd hes => ?_
  have st : Step c.U σ Γ1 H1 σ Γ1 H2 := ⟨md.pres, fun a z => .inl z⟩
  have ge : Goes (Mx c.M σ Γ1) (Mx c.M σ Γ1) H1 H2 := st.goes g.er
  have er2 : ER c.U c.M H2 σ Γ1 := by
    refine ER.of g.er.tm (fun a m => md.er.kn a (.inl m)) md.er.j g.er.len (fun i d h => ?_) (fun i s h m => ?_) g.er.sep
    · obtain ⟨v, h1, h2⟩ := g.er.dat i d h
      exact ⟨v, h1, Rp.to ge _ _ h2⟩
    · have hi : i ∉ own.map (·.2) := fun z => by rw [hm2 i z s h] at m; cases m
      obtain ⟨a, o, h1, h2, h3, h4⟩ := md.er.ob (i := i) (s := s) (by rw [unset_off hi]; exact h) m
      rw [wipe_off hi] at h1
      exact ⟨a, o, h1, h2, fun z => h3 (.inl z), h4.to (by
        have down : ∀ a, Ow σ Γ1 a → Ow (wipe σ (own.map (·.2))) (unset (own.map (·.2)) Γ1) a := fun a ⟨i, s, h1, h2, h3⟩ => by
          by_cases hi : i ∈ own.map (·.2)
          · rw [hm2 i hi s h1] at h2
            cases h2
          · exact ⟨i, s, by rw [unset_off hi]; exact h1, h2, by rw [wipe_off hi]; exact h3⟩
        exact ⟨fun a o m e => ⟨e, fun z => m (z.elim (fun y => .inl (.inl y)) fun y => .inr (down a y))⟩⟩)⟩
  have G2 : Go c σ Γ H Γ1 H2 := g.trans ⟨st, rfl, er2⟩
  refine ⟨Dl, _, _, rfl, md.dl, fun ns t hpw hmem hlen ht2 => ?_⟩
  exact q _ _ Γ1 _ (G2.grow (Grow.new ht2)) (.lst upd_same (fun z => G2.er.mx t z ht2) (RpA.ints _)) (hp ns hpw fun k => (hmem k).trans (by rw [decide_eq_true_iff]; exact hes k))
def wSortedSc (vs : List Nat) (i : WL) (g : WG) (e : WE) : WE := fun Γ P => i Γ fun xs Γ1 => xs.length ≤ 4000 ∧ calm vs Γ1 ∧ ∃ f : D → Int, (∀ x ∈ xs, g (unset vs Γ1) x fun Γ2 => e Γ2 fun y Γ4 => Γ4 = Γ2 ∧ y = .int (f x)) ∧
  ∀ ms : List Int, ms.Pairwise (· < ·) → (∀ k, k ∈ ms ↔ ∃ x ∈ xs, f x = k) → P (.lst (ms.map D.int)) Γ1
theorem se_sortedSc {tg iter ex : Expr} {scope : Scope} {wg : WG} {we : WE} (own : List (Str × Nat)) (bd : Bd c k) (ok : BlkOk c.X.N c.X.env.scope scope own) (hm : c.X.mg "sorted" = none) (hi : SI c tg iter wl) (hg : ∀ (Dl : Addr) (s : Shared) (H : Hw) (C : Addr) (cl : List (Str × Addr)) (fp : List Addr), Bd (c.inner s H scope C cl fp Dl) k → SH (c.inner s H scope C cl fp Dl) (own.map (·.2)) tg wg)
    (he : ∀ (Dl : Addr) (s : Shared) (H : Hw) (C : Addr) (cl : List (Str × Addr)) (fp : List Addr), Bd (c.inner s H scope C cl fp Dl) k → SE (c.inner s H scope C cl fp Dl) ex we) (hgs : Gl c.X "sorted" := by rfl) (hs : ∀ x, foldedSetIterable iter c.X.env x = pure x := by intro _; rfl)
    (hst : starEach [.SetComp ex [⟨tg, iter, [], 0⟩] scope q2] c.X.env = (false, eval (.SetComp ex [⟨tg, iter, [], 0⟩] scope q2) c.X.env) :: starEach [] c.X.env := by rfl) (hpl : (backTo pos (starEach [] c.X.env)).any (·.1) = false := by rfl) : SE c (.Call (.Name "sorted" p) [.SetComp ex [⟨tg, iter, [], 0⟩] scope q2] [] pos) (wSortedSc (own.map (·.2)) wl wg we) :=
  ⟨fun w => ev_sortedSc own bd ok hm (iv_mono (hi.run w) fun xs Γ1 ⟨hl, hc, f, h1, h3⟩ => ⟨f, hl, calm_of hc, fun x hx Dl s H C cl fp => gw_mono ((hg Dl s H C cl fp (bd.inner s H scope C cl fp Dl)).run (h1 x hx)) fun Γ2 w s2 H2 C2 cl2 fp2 => (he Dl s2 H2 C2 cl2 fp2 (bd.inner s2 H2 scope C2 cl2 fp2 Dl)).run w, h3⟩) hgs hs hst hpl⟩
end
end U
/-! W13: gcd, sum, min, len(set(..)). -/
namespace U
open PySem PySem.Spec PyProof.Rows L2
section
variable {c : Co} {k : Nat} {Γ : Ga} {P : D → Ga → Prop} {a b e : Expr} {pos p p2 q2 : Pos} {wa : WE} {wl : WL}
theorem ev_gcd (hm : c.X.mg "gcd" = some (.builtin "math.gcd")) (h : Av c [a, b] Γ fun ds Γ1 => ∃ i j, ds = [.int i, .int j] ∧ P (.int ((Nat.gcd i.natAbs j.natAbs : Nat) : Int)) Γ1) (hg : Gl c.X "gcd") (hs : starEach [a, b] c.X.env = (false, eval a c.X.env) :: starEach [b] c.X.env) (hpl : (backTo pos (starEach [b] c.X.env)).any (·.1) = false) : Ev c (.Call (.Name "gcd" p) [a, b] [] pos) Γ P := fun σ H er Q W tk xw q =>
  outE (pe_callBfun cr_gcd hg hm selfA (by decide) hs hpl) (h σ H er _ W tk xw fun vs ds Γ1 H1 g r ⟨i, j, e, hp⟩ => by
    subst e
    cases r with
    | cons r1 r2 =>
      cases r2 with
      | cons r2 r3 =>
        cases r3
        cases r1
        cases r2
        exact ⟨i, j, rfl, q _ _ Γ1 H1 g (.int _) hp⟩)
def oGcd : List D → (D → Prop) → Prop
  | [.int i, .int j], P => P (.int ((Nat.gcd i.natAbs j.natAbs : Nat) : Int))
  | _, _ => False
theorem se_gcd (hm : c.X.mg "gcd" = some (.builtin "math.gcd")) (ha : SA c [a, b] wl) (hg : Gl c.X "gcd" := by rfl) (hs : starEach [a, b] c.X.env = (false, eval a c.X.env) :: starEach [b] c.X.env := by rfl) (hpl : (backTo pos (starEach [b] c.X.env)).any (·.1) = false := by rfl) : SE c (.Call (.Name "gcd" p) [a, b] [] pos) (wOpL oGcd wl) :=
  ⟨fun w => ev_gcd hm (av_mono (ha.run w) fun d _ h => by
    unfold oGcd at h
    split at h
    · exact ⟨_, _, rfl, h⟩
    · exact h.elim) hg hs hpl⟩
theorem vo_sum {ns : List Int} : Von (rSum c.X.K) [.lst (ns.map D.int)] (.int ns.sum) := fun M H vs hk h1 Q q => by
  cases h1 with
  | cons h1 h2 =>
    cases h2
    obtain ⟨a, xs, rfl, e, r⟩ := h1.lst_
    rw [r.ints_] at e
    exact ⟨a, ns, rfl, sql_of e, q _ _ (fun _ _ e => e) (.int _)⟩
def oSum : O1 := fun d P => ∃ ns : List Int, d = .lst (ns.map D.int) ∧ P (.int ns.sum)
theorem se_sum (bd : Bd c k) (hm : c.X.mg "sum" = none) (ha : SQ c a wa) (hg : Gl c.X "sum" := by rfl) (hs : starEach [a] c.X.env = (false, eval a c.X.env) :: starEach [] c.X.env := by rfl) (hpl : (backTo pos (starEach [] c.X.env)).any (·.1) = false := by rfl) : SE c (.Call (.Name "sum" p) [a] [] pos) (wOp1 oSum wa) :=
  ⟨fun w => evn1 (fun ha => pe_callB (cr_sum bd.calm) hg hm (by decide +kernel) ha (by decide) (by decide) hs hpl) (eq_mono (ha.run w) fun d _ ⟨ns, e, hp⟩ => ⟨_, by rw [e]; exact vo_sum, hp⟩) hs⟩
/-- the least of some ints -/
def minI : List Int → Int
  | [] => 0
  | [a] => a
  | a :: b :: r => if minI (b :: r) < a then minI (b :: r) else a
theorem minI_mem : ∀ {ns : List Int}, 0 < ns.length → minI ns ∈ ns
  | [a], _ => List.mem_singleton.mpr rfl
  | a :: b :: r, _ => by
    unfold minI
    split
    · exact List.mem_cons_of_mem _ (minI_mem (ns := b :: r) (by simp))
    · exact List.mem_cons_self
theorem minI_le : ∀ {ns : List Int} (y : Int), y ∈ ns → minI ns ≤ y
  | [a], y, h => by rw [List.mem_singleton.mp h]; exact Int.le_refl _
  | a :: b :: r, y, h => by
    unfold minI
    rcases List.mem_cons.mp h with rfl | h
    · split <;> omega
    · have := minI_le (ns := b :: r) y h
      split <;> omega
theorem minI_of {ns : List Int} {m : Int} (h1 : m ∈ ns) (h2 : ∀ y, y ∈ ns → m ≤ y) : m = minI ns :=
  Int.le_antisymm (h2 _ (minI_mem (List.length_pos_of_mem h1))) (minI_le m h1)
theorem vo_minL {ns : List Int} (h0 : 0 < ns.length) : Von (rMin c.X.K) [.lst (ns.map D.int)] (.int (minI ns)) := fun M H vs hk h1 Q q => by
  cases h1 with
  | cons h1 h2 =>
    cases h2
    obtain ⟨a, xs, rfl, e, r⟩ := h1.lst_
    rw [r.ints_] at e
    exact ⟨a, ns, rfl, sql_of e, h0, fun m h1 h2 => by rw [minI_of h1 h2]; exact q _ _ (fun _ _ e => e) (.int _)⟩
def oMinL : O1 := fun d P => ∃ ns : List Int, d = .lst (ns.map D.int) ∧ 0 < ns.length ∧ P (.int (minI ns))
theorem se_minL (bd : Bd c k) (hm : c.X.mg "min" = none) (ha : SQ c a wa) (hg : Gl c.X "min" := by rfl) (hs : starEach [a] c.X.env = (false, eval a c.X.env) :: starEach [] c.X.env := by rfl) (hpl : (backTo pos (starEach [] c.X.env)).any (·.1) = false := by rfl) : SE c (.Call (.Name "min" p) [a] [] pos) (wOp1 oMinL wa) :=
  ⟨fun w => evn1 (fun ha => pe_callB (cr_min bd.calm) hg hm (by decide +kernel) ha (by decide) (by decide) hs hpl) (eq_mono (ha.run w) fun d _ ⟨ns, e, h0, hp⟩ => ⟨_, by rw [e]; exact vo_minL h0, hp⟩) hs⟩
end
end U
/-! W14: len(set(t)), t a tuple of ints. -/
namespace U
open PySem PySem.Spec PyProof.Rows L2
section
variable {X : Cx} {c : Co} {k : Nat} {Γ : Ga} {P : D → Ga → Prop} {a b e : Expr} {wa : WE}
def tLenSetT (K : PySem.W.Frag) (ta : TE) : TE := fun σ H Q => ta σ H fun x H1 => ∃ (l : Addr) (ns : List Int), x = V.ref l ∧ SqT K H1 l (ns.map V.int) ∧ ns.length + 1 < scanBound ∧ ∀ es : List Int, es.Nodup → (∀ k, k ∈ es ↔ k ∈ ns) → Q (.int es.length) H1
theorem pe_lenSetT {ta : TE} {p p2 q pos : Pos} (hc : X.calm = true) (hg : Gl X "len") (hm : X.mg "len" = none) (hg2 : Gl X "set") (hm2 : X.mg "set" = none) (ha : PE X a ta)
    (na : starEach [a] X.env = (false, eval a X.env) :: starEach [] X.env) : PE X (.Call (.Name "len" p) [.Call (.Name "set" p2) [a] [] q] [] pos) (tLenSetT X.K ta) := by
  refine ⟨fun pins s σ H Q I h => ?_⟩
  refine Call_ (ld_blt I hg hm PySem.boot_len ?_)
  refine PyProof.Rows.callWith_builtin1 (PyProof.Rows.args_cons ?_ rfl) rfl rfl
  refine Call_ (ld_blt I hg2 hm2 PyProof.Rows.boot_set ?_)
  refine PyProof.Rows.callWith_type1 (PyProof.Rows.args_cons (thn (ha.run pins s σ H _ I h) fun v s1 ⟨x, H1, I1, r1, q1⟩ => PyProof.Rows.args_nil ?_) na) na rfl
  obtain ⟨l, ns, rfl, hq, hb, q1⟩ := q1
  cases r1
  obtain ⟨its, rv, ht, hz⟩ := I1.tuple hq
  refine call_set_tupI ns (I1.ok.hd hc) ht (by simpa using rv.ints) hb fun h' tk cc R hle k => ?_
  refine PyProof.Rows.args_nil ?_
  obtain ⟨o, es, ep, t, ho, hex, hd, g, nd, mem, hb2, hf, hn, hr, hl⟩ := R
  have I2 : Inv X pins σ H1 { s1 with heap := h', toks := tk } := I1.kept k
  refine call_len_set ho hex hd hf (by have : scanBound = 4096 := rfl; omega) ⟨.int es.size, H1, I2.tok _, ⟨_, rfl⟩, ?_⟩
  have := q1 (es.toList.map keyOf) nd fun k => by rw [← mem]; simp
  rw [List.length_map, Array.length_toList] at this
  exact this
def oLenSet : O1 := fun d P => ∃ ns : List Int, d = .tup (ns.map D.int) ∧ ns.length + 1 < scanBound ∧ ∀ es : List Int, es.Nodup → (∀ k, k ∈ es ↔ k ∈ ns) → P (.int es.length)
theorem se_lenSet (bd : Bd c k) {p p2 q2 pos : Pos} (hm : c.X.mg "len" = none) (hm2 : c.X.mg "set" = none) (ha : SE c a wa) (hg : Gl c.X "len" := by rfl) (hg2 : Gl c.X "set" := by rfl) (hs : starEach [a] c.X.env = (false, eval a c.X.env) :: starEach [] c.X.env := by rfl) : SE c (.Call (.Name "len" p) [.Call (.Name "set" p2) [a] [] q2] [] pos) (wOp1 oLenSet wa) :=
  ⟨fun {Γ P} w => fun σ H er Q W tk xw q => outE (pe_lenSetT bd.calm hg hm hg2 hm2 selfE hs) ((ha.run w) σ H er _ W tk xw fun v d Γ1 H1 g r ⟨ns, e, hb, hp⟩ => by
    subst e
    cases r with
    | tup h1 h2 h3 =>
      rw [h3.ints_] at h1
      exact ⟨_, ns, rfl, sqt_of h1, hb, fun es h1 h2 => q _ _ Γ1 H1 g (.int _) (hp es h1 h2)⟩)⟩
end
end U
/-! W15: one's own list read as data within a test; two keywords in their order. -/
namespace U
open PySem PySem.Spec PyProof.Rows L2
def noOwn : Ga → Prop
  | [] => True
  | s :: r => s.mine = false ∧ noOwn r
theorem noOwn_at : ∀ {Γ : Ga} {j : Nat} {s : Sl}, noOwn Γ → Γ[j]? = some s → s.mine = false
  | s :: r, 0, _, h, e => by cases e; exact h.1
  | s :: r, j + 1, _, h, e => noOwn_at (Γ := r) h.2 e
def wtThaw (i : Nat) (t : WT) : WT := fun Γ T => match Γ[i]? with
  | some (.own ds) => noOwn (Γ.set i .un) ∧ t (Γ.set i (.dat (.lst ds))) fun b Γ1 => Γ1 = Γ.set i (.dat (.lst ds)) ∧ T b Γ
  | _ => False
section
variable {c : Co} {k : Nat} {e : Expr} {t : WT}
theorem tv_thaw {Γ : Ga} {T : Bool → Ga → Prop} {ds : List D} (i : Nat) (hi : Γ[i]? = some (.own ds)) (hn : noOwn (Γ.set i .un)) (h : Tv c e (Γ.set i (.dat (.lst ds))) fun b Γ1 => Γ1 = Γ.set i (.dat (.lst ds)) ∧ T b Γ) : Tv c e Γ T := fun σ H er Q W tk xw q => by
  obtain ⟨er', st0⟩ := er.freeze i hi
  have sole : ∀ j s, Γ[j]? = some s → s.mine = true → j = i := fun j s e m => by
    refine Classical.byContradiction fun ne => ?_
    have := noOwn_at hn (show (Γ.set i .un)[j]? = some s by rw [List.getElem?_set_ne (Ne.symm ne)]; exact e)
    rw [m] at this
    cases this
  have noO : ∀ a, ¬ Ow σ (Γ.set i (.dat (.lst ds))) a := fun a ⟨j, s, h1, h2, h3⟩ => by
    by_cases e : j = i
    · subst e
      rw [List.getElem?_set_self (List.getElem?_eq_some_iff.mp hi).1] at h1
      cases h1
      cases h2
    · rw [List.getElem?_set_ne (Ne.symm e)] at h1
      exact e (sole j s h1 h2)
  refine h σ H er' Q W tk (xw.on er' st0) fun b Γ1 H1 g ⟨eg, ht⟩ => ?_
  subst eg
  have keep : ∀ a o, ¬ c.U.T a → H a = some o → H1 a = some o := fun a o n e => g.st.fr a o n (noO a) e
  have ge : Goes (Mx c.M σ Γ) (Mx c.M σ Γ) H H1 := ⟨fun a o m e => ⟨keep a o (fun z => m (.inl (er.tm a z))) e, m⟩⟩
  refine q b Γ H1 ⟨⟨fun a o n _ e => keep a o n e, fun a z => .inl z⟩, rfl, ?_⟩ ht
  refine ER.of er.tm g.er.kn g.er.j er.len (fun j d h => ?_) (fun j s h m => ?_) er.sep
  · obtain ⟨v, h1, h2⟩ := er.dat j d h
    exact ⟨v, h1, Rp.to ge _ _ h2⟩
  · obtain ⟨a, o, h1, h2, h3, h4⟩ := er.ob h m
    exact ⟨a, o, h1, keep a o (fun z => h3 (er.tm a z)) h2, h3, h4.to ge⟩
theorem st_thaw (i : Nat) (h : ST c e t) : ST c e (wtThaw i t) := ⟨fun {Γ T} w => by
  unfold wtThaw at w
  split at w
  · rename_i ds hd
    exact tv_thaw i hd w.1 (h.run w.2)
  · exact w.elim⟩
/-! ### two keywords, as the parameters stand -/
def wCallK2_01 (S : Fs) (E : Addr → Option (Str × D) → Ga → Prop) (a b : WE) : WE := fun Γ P => a Γ fun d Γ1 => b Γ1 fun d2 Γ2 => S [d, d2] (fun d => P d Γ2) fun C fo => E C fo Γ2
theorem se_defK2_01 {x y z : Str} {st : Stmt} {j : Nat} {S : Fs} {kp kp2 pos p : Pos} {e2 : Expr} {wa wb : WE} (F : Df c.X.prog c.X.w c.X.K c.X.mg c.X.base x st j 2 [y, z] c.U S) (bd : Bd c k) (hj : j ≤ k) (ha : SE c e wa) (hb2 : SE c e2 wb)
    (hb : ∀ (kV doc pm : Value) (an : Option Addr) (cdv ct u w : Value), bindArgs (PySem.W.fnOf x x (defArgs st) (defBody st) (defScope st) .none kV doc pm an cdv ct) ⟨[], [(y, u), (z, w)]⟩ = pure [(y, u), (z, w)] := by intros; rfl) (hg : Gl c.X x := by rfl)
    (hall : (backToKw pos (keywordEach [⟨some y, e, kp⟩, ⟨some z, e2, kp2⟩] c.X.env)).all (·.1.isSome) = true := by rfl) (hks : (backToKw pos (keywordEach [⟨some y, e, kp⟩, ⟨some z, e2, kp2⟩] c.X.env)).filterMap (·.1) = [y, z] := by rfl)
    (hdb : (x == ("__debug__" : Str)) = false := by decide) (hpl : ((backTo pos (starEach [] c.X.env)).any (·.1) || (backToKw pos (keywordEach [⟨some y, e, kp⟩, ⟨some z, e2, kp2⟩] c.X.env)).any (·.1.isNone)) = false := by rfl) :
    SE c (.Call (.Name x p) [] [⟨some y, e, kp⟩, ⟨some z, e2, kp2⟩] pos) (wCallK2_01 S c.E wa wb) := ⟨fun {Γ P} w => by
  obtain ⟨f, fd, F1, hm, G⟩ := F.ex
  refine ev_callK0 G bd hj hm F1.kp (fun ws => ws) (fun vs => vs) (fun ds => ds) (fun s ws hK hl => ?_) (fun vs us hl r => r) (fun _ _ _ _ _ r => r) (fun _ h => h) hg (kv_cons (ev_mono (ha.run w) fun d Γ1 h => kv_cons (ev_mono (hb2.run h) fun d2 Γ2 h => kv_nil ⟨rfl, h⟩))) hall hks hdb hpl
  match ws, hl with
  | [u, w], _ =>
    obtain ⟨oc, od, kV, doc, pm, an, cdv, ct, osl, rfl, lk, hcd⟩ := F1.ex
    exact BindsTo.of_eq (hb kV doc pm an cdv ct u w)⟩
end
end U
/-! W16: a comprehension within a comprehension. -/
namespace U
open PySem PySem.Spec PyProof.Rows L2
theorem lookup_if {g : Str → Bool} : ∀ {names : List (Str × NameKind)} {x : Str}, (names.lookup x = some .cell ∨ names.lookup x = some .free) →
    ((names.map fun (n, k) => if (k == NameKind.free && g n) then (n, NameKind.cell) else (n, k)).lookup x = some .cell ∨ (names.map fun (n, k) => if (k == NameKind.free && g n) then (n, NameKind.cell) else (n, k)).lookup x = some .free)
  | [], x, h => by simp at h
  | (n, k) :: r, x, h => by
    rw [List.map_cons]
    by_cases e : x = n
    · subst e
      rw [List.lookup_cons] at h
      simp only [beq_self_eq_true] at h
      have h : k = .cell ∨ k = .free := h.imp Option.some.inj Option.some.inj
      show (List.lookup x (_ :: _) = _) ∨ _
      rcases h with rfl | rfl
      · left
        have : (NameKind.cell == NameKind.free && g x) = false := rfl
        simp only [this, if_false, Bool.false_eq_true]
        rw [List.lookup_cons]
        simp
      · by_cases c : g x = true
        · left
          have : (NameKind.free == NameKind.free && g x) = true := by rw [c]; rfl
          simp only [this, if_true]
          rw [List.lookup_cons]
          simp
        · right
          have c : g x = false := by simpa using c
          have : (NameKind.free == NameKind.free && g x) = false := by rw [c]; rfl
          simp only [this, if_false, Bool.false_eq_true]
          rw [List.lookup_cons]
          simp
    · have be : (x == n) = false := by simpa using e
      rw [List.lookup_cons, be] at h
      have ih := lookup_if (g := g) (names := r) (x := x) h
      have e1 : ∀ k', List.lookup x ((n, k') :: (r.map fun (n, k) => if (k == NameKind.free && g n) then (n, NameKind.cell) else (n, k))) = List.lookup x (r.map fun (n, k) => if (k == NameKind.free && g n) then (n, NameKind.cell) else (n, k)) := fun k' => by
        rw [List.lookup_cons, be]
      by_cases c : (k == NameKind.free && g n) = true
      · simp only [c, if_true]
        rw [e1]
        exact ih
      · have c : (k == NameKind.free && g n) = false := by simpa using c
        simp only [c, if_false, Bool.false_eq_true]
        rw [e1]
        exact ih
theorem blkOk_in {c : Co} {s : Shared} {H : Hw} {outer scope : Scope} {C : Addr} {cl : List (Str × Addr)} {fp : List Addr} {Dl : Addr} {N : List Str} {own : List (Str × Nat)} (ok : BlkOk N outer scope own) : BlkOk N (c.inner s H outer C cl fp Dl).X.env.scope scope own :=
  ⟨ok.kind, ok.uniq, ok.ix, fun y hy e => by
    have h := ok.free y hy e
    have z := lookup_if (g := fun n => c.X.env.scope.kind == .function && c.X.env.kindOf n == some .cell) h
    simpa [Co.inner, Cx.blk, compEnvC, relabel, Bool.and_assoc] using z, ok.own⟩
end U
/-! W17: a list comprehension becomes one's own list. -/
namespace U
open PySem PySem.Spec PyProof.Rows L2
section
variable {c : Co} {k : Nat} {Γ : Ga} {R : Oc} {pos : Pos}
theorem lc_readsN {P : Sl → Ga → Prop} {elt tg iter : Expr} {ifs : List Expr} {scope : Scope} (own : List (Str × Nat)) (bd : Bd c k)
    (h : Iv c tg iter Γ fun xs Γ1 => ∃ I : Nat → List D → Prop, I 0 [] ∧ xs.length ≤ 1000000 ∧ (∀ m ∈ own.map (·.2), ∀ s, Γ1[m]? = some s → s.mine = false) ∧
      (∀ i x acc, xs[i]? = some x → I i acc → acc.length ≤ i → ∀ (Dl : Addr) (s : Shared) (H : Hw) (C : Addr) (cl : List (Str × Addr)) (fp : List Addr), Gw (c.inner s H scope C cl fp Dl) (own.map (·.2)) tg (unset (own.map (·.2)) Γ1) x fun Γ2 =>
        ∀ (s : Shared) (H : Hw) (C : Addr) (cl : List (Str × Addr)) (fp : List Addr), Fv (c.inner s H scope C cl fp Dl) ifs Γ2 fun b Γ3 => Γ3 = Γ2 ∧ (b = true →
          ∀ (s : Shared) (H : Hw) (C : Addr) (cl : List (Str × Addr)) (fp : List Addr), Ev (c.inner s H scope C cl fp Dl) elt Γ2 fun y Γ4 => Γ4 = Γ2 ∧ I (i + 1) (acc ++ [y])) ∧ (b = false → I (i + 1) acc)) ∧
      ∀ acc, I xs.length acc → P (.own acc) Γ1)
    {σ : Sw} {H : Hw} (er : ER c.U c.M H σ Γ) {Q : VK} {W : WX} (tk : Takes c.X W) (xw : XW c σ Γ H W)
    (q : ∀ p o s Γ' H', Step c.U σ Γ H σ Γ' H' → sh Γ' = sh Γ → H p = none → ER c.U (fun a => c.M a ∨ a = p) H' σ Γ' → H' p = some o → Ob (Mx (fun a => c.M a ∨ a = p) σ Γ') H' o s → P s Γ' → Q (.ref p) H') :
    tLc (wpI c.X tg iter) (wpGX c.X scope tg) (wpFX c.X scope ifs) (wpEX c.X scope elt) (own.map (·.2)) σ H Q := by
  refine h σ H er _ W tk xw fun J xs Γ1 H1 g src ⟨I, h0, hl, hm, ht, hd⟩ Dl hD => ?_
  refine lc_data (P := fun acc => P (.own acc) Γ1) g.er src hD h0 hl (fun i x acc hx hI al => ht i x acc hx hI al Dl) fun accV acc H2 md hI => ?_
  have st : Step c.U σ Γ1 H1 σ Γ1 H2 := ⟨md.pres, fun a z => .inl z⟩
  have ge : Goes (Mx c.M σ Γ1) (Mx (fun a => c.M a ∨ a = Dl) σ Γ1) H1 H2 := st.goesM g.er fun a z => z.imp id fun y => by rw [y]; exact hD
  have down : ∀ a, Ow σ Γ1 a → Ow (wipe σ (own.map (·.2))) (unset (own.map (·.2)) Γ1) a := fun a ⟨i, s, h1, h2, h3⟩ => by
    by_cases hi : i ∈ own.map (·.2)
    · rw [hm i hi s h1] at h2
      cases h2
    · exact ⟨i, s, by rw [unset_off hi]; exact h1, h2, by rw [wipe_off hi]; exact h3⟩
  have gd : Goes (Mx (fun a => c.M a ∨ a = Dl) (wipe σ (own.map (·.2))) (unset (own.map (·.2)) Γ1)) (Mx (fun a => c.M a ∨ a = Dl) σ Γ1) H2 H2 := ⟨fun a o m e => ⟨e, fun z => m (z.elim (fun y => .inl y) fun y => .inr (down a y))⟩⟩
  have er2 : ER c.U (fun a => c.M a ∨ a = Dl) H2 σ Γ1 := by
    refine ER.of (fun a t => .inl (g.er.tm a t)) (fun a m => md.er.kn a m) md.er.j g.er.len (fun i d h => ?_) (fun i s h m => ?_) g.er.sep
    · obtain ⟨v, h1, h2⟩ := g.er.dat i d h
      exact ⟨v, h1, Rp.to ge _ _ h2⟩
    · have hi : i ∉ own.map (·.2) := fun z => by rw [hm i z s h] at m; cases m
      obtain ⟨a, o, h1, h2, h3, h4⟩ := md.er.ob (i := i) (s := s) (by rw [unset_off hi]; exact h) m
      rw [wipe_off hi] at h1
      exact ⟨a, o, h1, h2, h3, h4.to gd⟩
  exact q Dl _ _ Γ1 H2 (g.st.trans g.er st) g.sh (gone g.er g.st g.sh hD) er2 md.dl (.lst (RpA.to gd _ _ md.ra)) (hd acc hI)
/-- y = [elt for tg in iter if ..], one's own -/
theorem s1_setLcN {elt tg iter : Expr} {ifs : List Expr} {scope : Scope} {y : Str} {py spos : Pos} (own : List (Str × Nat)) (bd : Bd c k) (j : Nat) (hy : c.X.N[j]? = some y) (hyl : c.X.env.scope.names.lookup y = some .local) (ok : BlkOk c.X.N c.X.env.scope scope own)
    (h : Iv c tg iter Γ fun xs Γ1 => ∃ I : Nat → List D → Prop, I 0 [] ∧ xs.length ≤ 1000000 ∧ (∀ m ∈ own.map (·.2), ∀ s, Γ1[m]? = some s → s.mine = false) ∧
      (∀ i x acc, xs[i]? = some x → I i acc → acc.length ≤ i → ∀ (Dl : Addr) (s : Shared) (H : Hw) (C : Addr) (cl : List (Str × Addr)) (fp : List Addr), Gw (c.inner s H scope C cl fp Dl) (own.map (·.2)) tg (unset (own.map (·.2)) Γ1) x fun Γ2 =>
        ∀ (s : Shared) (H : Hw) (C : Addr) (cl : List (Str × Addr)) (fp : List Addr), Fv (c.inner s H scope C cl fp Dl) ifs Γ2 fun b Γ3 => Γ3 = Γ2 ∧ (b = true →
          ∀ (s : Shared) (H : Hw) (C : Addr) (cl : List (Str × Addr)) (fp : List Addr), Ev (c.inner s H scope C cl fp Dl) elt Γ2 fun y Γ4 => Γ4 = Γ2 ∧ I (i + 1) (acc ++ [y])) ∧ (b = false → I (i + 1) acc)) ∧
      ∀ acc, I xs.length acc → j < Γ1.length ∧ R.nx (Γ1.set j (.own acc)))
    (hsw : swapsWith (.ListComp elt [⟨tg, iter, ifs, 0⟩] scope pos) (some (.Name y py)) spos.line c.X.env = pure true) (hs : ∀ x, foldedSetIterable iter c.X.env x = pure x := by intro _; rfl) :
    S1 c (.Assign [.Name y py] (.ListComp elt [⟨tg, iter, ifs, 0⟩] scope pos) spos) Γ R := fun σ H er W Dd tk k => by
  refine outS (ps_setLc (own := own) (g := wpGX c.X scope tg) (tt := wpFX c.X scope ifs) (te := wpEX c.X scope elt) bd.calm bd.nd hy hyl hsw selfI ok (fun s H C cl fp => ⟨fun pins s' σ H' v u Q I r h => (h s H C cl fp).run pins s' u I r⟩)
    (fun s H C cl fp => ⟨fun pins s' σ H' Q I h => selfF.run pins s' σ H' Q I (h s H C cl fp)⟩) (fun s H C cl fp => ⟨fun pins s' σ H' Q I h => (h s H C cl fp).run pins s' I⟩) hs) ?_
  refine lc_readsN (P := fun s Γ1 => j < Γ1.length ∧ R.nx (Γ1.set j s)) own bd h er tk k.xw fun p o s Γ1 H1 st sh1 hp0 er1 hp1 ob ⟨hl, hp⟩ => ?_
  obtain ⟨r2, g2, o2⟩ := er1.take (M0 := c.M) j hl hp1 ob (fun z => er.kn p z hp0) (fun a z => z) (fun a z => .inl z) (.inr rfl) er.tm
  exact k.nx _ _ _ ⟨st.fr, fun a z => (o2 a z).elim (st.og a) fun y => .inr (by rw [y]; exact hp0)⟩ r2 hp
def wnLc (vs : List Nat) (i : WL) (g : WG) (e : WE) : WN := fun Γ P => i Γ fun xs Γ1 => xs.length ≤ 1000000 ∧ calm vs Γ1 ∧ ∃ R : D → D → Prop, (∀ x ∈ xs, g (unset vs Γ1) x fun Γ2 => e Γ2 fun y Γ4 => Γ4 = Γ2 ∧ R x y) ∧ ∀ ys, All2 R xs ys → P (.own ys) Γ1
def wnLcF (vs : List Nat) (i : WL) (g : WG) (t : WT) (e : WE) : WN := fun Γ P => i Γ fun xs Γ1 => xs.length ≤ 1000000 ∧ calm vs Γ1 ∧ ∃ I : Nat → List D → Prop, I 0 [] ∧
  (∀ i x acc, xs[i]? = some x → I i acc → acc.length ≤ i → g (unset vs Γ1) x fun Γ2 => t Γ2 fun b Γ3 => Γ3 = Γ2 ∧ (b = true → e Γ2 fun y Γ4 => Γ4 = Γ2 ∧ I (i + 1) (acc ++ [y])) ∧ (b = false → I (i + 1) acc)) ∧ ∀ acc, I xs.length acc → P (.own acc) Γ1
theorem ss_setLcN {wl : WL} {wg : WG} {we : WE} {tg iter : Expr} {elt : Expr} {scope : Scope} {y : Str} {py spos : Pos} (own : List (Str × Nat)) (bd : Bd c k) (j : Nat) (hy : c.X.N[j]? = some y) (hyl : c.X.env.scope.names.lookup y = some .local) (ok : BlkOk c.X.N c.X.env.scope scope own) (hi : SI c tg iter wl) (hg : ∀ (Dl : Addr) (s : Shared) (H : Hw) (C : Addr) (cl : List (Str × Addr)) (fp : List Addr), Bd (c.inner s H scope C cl fp Dl) k → SH (c.inner s H scope C cl fp Dl) (own.map (·.2)) tg wg)
    (he : ∀ (Dl : Addr) (s : Shared) (H : Hw) (C : Addr) (cl : List (Str × Addr)) (fp : List Addr), Bd (c.inner s H scope C cl fp Dl) k → SE (c.inner s H scope C cl fp Dl) elt we)
    (hsw : swapsWith (.ListComp elt [⟨tg, iter, [], 0⟩] scope pos) (some (.Name y py)) spos.line c.X.env = pure true := by rfl) (hs : ∀ x, foldedSetIterable iter c.X.env x = pure x := by intro _; rfl) : SS c (.Assign [.Name y py] (.ListComp elt [⟨tg, iter, [], 0⟩] scope pos) spos) (wSetN j (wnLc (own.map (·.2)) wl wg we)) :=
  ⟨fun w => by
    refine s1_setLcN own bd j hy hyl ok (iv_mono (hi.run w) fun xs Γ1 ⟨hl, hc, Rl, h1, h2⟩ => ?_) hsw hs
    refine ⟨fun i acc => All2 Rl (xs.take i) acc, (show All2 Rl (xs.take 0) [] from by rw [List.take_zero]; exact .nil), hl, calm_of hc, fun i x acc hx hI al Dl s H C cl fp => ?_, fun acc hI => h2 acc (by have z : All2 Rl (xs.take xs.length) acc := hI; rw [List.take_length] at z; exact z)⟩
    refine gw_mono ((hg Dl s H C cl fp (bd.inner s H scope C cl fp Dl)).run (h1 x (List.mem_of_getElem? hx))) fun Γ2 w s2 H2 C2 cl2 fp2 => .inl ⟨rfl, rfl, fun _ s3 H3 C3 cl3 fp3 => ?_, fun z => by cases z⟩
    refine ev_mono ((he Dl s3 H3 C3 cl3 fp3 (bd.inner s3 H3 scope C3 cl3 fp3 Dl)).run w) fun y Γ4 ⟨e4, r⟩ => ⟨e4, ?_⟩
    show All2 Rl (xs.take (i + 1)) (acc ++ [y])
    rw [List.take_succ, hx]
    exact All2.snoc r hI⟩
theorem ss_setLcFN {wl : WL} {wg : WG} {ta : WT} {we : WE} {tg iter : Expr} {elt t : Expr} {scope : Scope} {y : Str} {py spos : Pos} (own : List (Str × Nat)) (bd : Bd c k) (j : Nat) (hy : c.X.N[j]? = some y) (hyl : c.X.env.scope.names.lookup y = some .local) (ok : BlkOk c.X.N c.X.env.scope scope own) (hi : SI c tg iter wl) (hg : ∀ (Dl : Addr) (s : Shared) (H : Hw) (C : Addr) (cl : List (Str × Addr)) (fp : List Addr), Bd (c.inner s H scope C cl fp Dl) k → SH (c.inner s H scope C cl fp Dl) (own.map (·.2)) tg wg)
    (ht : ∀ (Dl : Addr) (s : Shared) (H : Hw) (C : Addr) (cl : List (Str × Addr)) (fp : List Addr), Bd (c.inner s H scope C cl fp Dl) k → ST (c.inner s H scope C cl fp Dl) t ta)
    (he : ∀ (Dl : Addr) (s : Shared) (H : Hw) (C : Addr) (cl : List (Str × Addr)) (fp : List Addr), Bd (c.inner s H scope C cl fp Dl) k → SE (c.inner s H scope C cl fp Dl) elt we)
    (hsw : swapsWith (.ListComp elt [⟨tg, iter, [t], 0⟩] scope pos) (some (.Name y py)) spos.line c.X.env = pure true := by rfl) (hs : ∀ x, foldedSetIterable iter c.X.env x = pure x := by intro _; rfl) : SS c (.Assign [.Name y py] (.ListComp elt [⟨tg, iter, [t], 0⟩] scope pos) spos) (wSetN j (wnLcF (own.map (·.2)) wl wg ta we)) :=
  ⟨fun w => s1_setLcN own bd j hy hyl ok (iv_mono (hi.run w) fun xs Γ1 ⟨hl, hc, I, h0, h1, h2⟩ => ⟨I, h0, hl, calm_of hc, fun i x acc hx hI hacc Dl s H C cl fp => gw_mono ((hg Dl s H C cl fp (bd.inner s H scope C cl fp Dl)).run (h1 i x acc hx hI hacc)) fun Γ2 w s2 H2 C2 cl2 fp2 => .inr ⟨t, rfl, tv_mono ((ht Dl s2 H2 C2 cl2 fp2 (bd.inner s2 H2 scope C2 cl2 fp2 Dl)).run w) fun q Γ3 ⟨e3, w1, w2⟩ => ⟨e3, fun z s3 H3 C3 cl3 fp3 => (he Dl s3 H3 C3 cl3 fp3 (bd.inner s3 H3 scope C3 cl3 fp3 Dl)).run (w1 z), w2⟩⟩, h2⟩) hsw hs⟩
end
end U
/-! W18: products of great ints. -/
namespace U
open PySem PySem.Spec PyProof.Rows L2
def oMulW : O2
  | .int i, .int j, P => CMulW i j ∧ P (.int (i * j))
  | _, _, _ => False
section
variable {c : Co} {Γ : Ga} {a b : Expr} {pos : Pos} {P : D → Ga → Prop}
theorem ev_mulW (h : Ev c a Γ fun x Γ1 => EvQ c b Γ1 fun y Γ2 => ∃ i j, x = .int i ∧ y = .int j ∧ CMulW i j ∧ P (.int (i * j)) Γ2) : Ev c (.BinOp a .Mult b pos) Γ P :=
  ev_op op_mulW (ev_mono h fun x _ h => eq_mono h fun y _ ⟨i, j, e1, e2, h0, hp⟩ => ⟨_, by rw [e1, e2]; exact vo_I (g := fun i j => i * j) (C := CMulW) h0, hp⟩)
theorem ok_mulW : OpOk c .Mult oMulW := ⟨fun h => ev_mulW (ev_mono h fun x _ h => eq_mono h fun y _ h => by
  unfold oMulW at h
  split at h
  · exact ⟨_, _, rfl, rfl, h.1, h.2⟩
  · exact h.elim)⟩
end
end U
/-! W19: a tuple times 0; keys of dicts asked for; four keywords the other way about. -/
namespace U
open PySem PySem.Spec PyProof.Rows L2
theorem tuple_mul0 (l : Addr) (items : Array Value) (n : Nat) (dd : Option Addr) (sl : Array (Option Value)) (u : Tok) (c1 : (items.isEmpty || (0 : Int) == 1) = false) :
    Meets (Builtin.«tuple.__mul__» ⟨[.ref l, .int 0 u], []⟩) (fun _ R s => s.heap.get? l = some { cls := .type "tuple", dict := dd, data := .seq items n, slots := sl } ∧ R (.ok (.ret (Value.ref s.heap.objs.size))) { s with heap := s.heap.push { cls := Value.type "tuple", data := Data.seq #[] }, toks := s.toks }) :=
  .of_wp fun prog w A R s h => by
    obtain ⟨hp, g, d, tk, os⟩ := s
    obtain ⟨hl, h⟩ := h
    have f1 := AutoSeq1.idx_int
    wp_walk using wpAny_loadPart' hl
    refine wpAny_ite_false (by rw [c1]; decide) ?_
    wp_walk using wpAny_loadPart' hl
    exact ⟨_, rfl, h⟩
def rRepT0 : R2 := fun x y H Q => ∃ l xs, x = .ref l ∧ y = .int 0 ∧ TupAt H l xs ∧ xs ≠ [] ∧ ∀ (p : Addr) (o : Obj), o.dict = none → H p = none → Q (.ref p) (upd H p (.frz o (.tup [])))
theorem op_repT0 {X : Cx} : OpR X (binaryOp .Mult) rRepT0 := by
  intro pins s σ H x y v u Q I rx ry h
  obtain ⟨l, xs, rfl, rfl, he, hne, q⟩ := h
  cases rx
  obtain ⟨t, rfl⟩ := ry
  obtain ⟨its, r, ⟨o, ho, hc, n, hd⟩, hzx⟩ := I.tuple (sqt_of (K := X.K) he)
  obtain ⟨oc, dd, dt, sl⟩ := o
  simp only at hc hd
  subst hc hd
  have hi : (its.toArray.isEmpty || (0 : Int) == 1) = false := by
    cases its with
    | nil => cases r; exact absurd rfl hne
    | cons a b => rfl
  refine wpAny_binaryOp_repeat_ref (T := "tuple") (U := "int") (by decide) ⟨_, ho, rfl⟩ (fun s' => typeIs_int s' 0 t) noFill_tuple_mul F.fills_int_mul F.slot_int_rmul repeat_tuple F.slot_int_index.lookup ?_
  refine call_meets F.slot_int_rmul (typeIs_int s 0 t) F.entry_int_rmul (F.args_int_rmul_2 _ _) (int_rmul_tuple 0 t l its.toArray n dd sl) ⟨ho, rfl, ⟨_, ho, rfl⟩, ?_⟩
  refine call_meets F.slot_tuple_mul ⟨_, ho, rfl⟩ F.entry_tuple_mul (F.args_tuple_mul_2 _ _) (tuple_mul0 l its.toArray n dd sl t hi) ⟨ho, ?_⟩
  have L := laidZ (tk := s.toks) I (xs := []) (its := []) (by simp) .nil
  refine ⟨.ref s.heap.objs.size, _, L, rfl, ?_⟩
  exact q _ _ rfl (I.hok.fresh (Nat.le_refl _))
def oMulZ : O2
  | .tup xs, .int i, P => xs ≠ [] ∧ 0 ≤ i ∧ xs.length * i.toNat ≤ 1000000 ∧ P (.tup (List.replicate i.toNat xs).flatten)
  | _, _, _ => False
section
variable {c : Co} {k : Nat} {Γ : Ga} {a b e : Expr} {pos p : Pos} {P : D → Ga → Prop} {wa wb wd we wf : WE}
theorem ev_mulZ (h : Ev c a Γ fun x Γ1 => EvQ c b Γ1 fun y Γ2 => ∃ xs i, x = .tup xs ∧ y = .int i ∧ xs ≠ [] ∧ 0 ≤ i ∧ xs.length * i.toNat ≤ 1000000 ∧ P (.tup (List.replicate i.toNat xs).flatten) Γ2) : Ev c (.BinOp a .Mult b pos) Γ P :=
  ev_op ((op_repTZ.or op_repT1).or op_repT0) (ev_mono h fun x _ h => eq_mono h fun y _ ⟨xs, i, e1, e2, h0, h1, h2, hp⟩ => ⟨_, by
    rw [e1, e2]
    intro M H v w hk g1 g2 Q q
    cases g2.int_
    obtain ⟨p, ys, rfl, e, m, r⟩ := g1.tup_
    have ne : ys ≠ [] := fun z => h0 (by subst z; cases r; rfl)
    by_cases hz : i = 0
    · subst hz
      exact .inr ⟨p, ys, rfl, rfl, e, ne, fun t ob od ht => q _ _ (Grow.new ht) (.tup (tupAt_upd od) (fun z => hk t z ht) .nil)⟩
    by_cases hi : i = 1
    · subst hi
      refine .inl (.inr ⟨p, ys, rfl, rfl, e, q _ _ (Grow.refl H) ?_⟩)
      rw [rep_one]
      exact .tup e m r
    · exact .inl (.inl ⟨p, i, ys, rfl, rfl, sqt_of e, ne, by omega, by rw [r.length]; exact h2, fun t ob od ht => q _ _ (Grow.new ht) (.tup (tupAt_upd od) (fun z => hk t z ht) (RpA.to (Grow.new ht).goes _ _ (r.rep _)))⟩), hp⟩)
theorem ok_mulZ : OpOk c .Mult oMulZ := ⟨fun h => ev_mulZ (ev_mono h fun x _ h => eq_mono h fun y _ h => by
  unfold oMulZ at h
  split at h
  · exact ⟨_, _, rfl, rfl, h.1, h.2.1, h.2.2.1, h.2.2.2⟩
  · exact h.elim)⟩
/-! ### k in d -/
def wtInD (a b : WE) : WT := fun Γ T => a Γ fun x Γ1 => b Γ1 fun y Γ2 => oDic y fun ks => oKey x fun kk => T (valD ks kk).isSome Γ2
def wtNotInD (a b : WE) : WT := fun Γ T => a Γ fun x Γ1 => b Γ1 fun y Γ2 => oDic y fun ks => oKey x fun kk => T (!(valD ks kk).isSome) Γ2
theorem val_some {M : Ex} {H : Hw} {vs : List (L2.Key × V)} {ks : List (L2.Key × D)} (h : RpK M H vs ks) (kk : L2.Key) : (valV vs kk).isSome = (valD ks kk).isSome := by
  obtain ⟨h1, h2⟩ := RpK.val kk h
  cases e : valD ks kk with
  | none => rw [h2 e]; rfl
  | some d => obtain ⟨u, hu, _⟩ := h1 d e; rw [hu]; rfl
theorem st_inD (hu : c.X.A.units + 1 < cLine) (ha : SE c a wa) (hb : SQ c b wb) (hm : behindInMarks .In b = false := by first | exact nobehind _ (by decide) (by decide) | rfl) : ST c (.Compare a [.In] [b] pos) (wtInD wa wb) := ⟨fun {Γ T} w => fun σ H er Q W tk xw q =>
  outT (pt_cmp (pc_din hu selfE selfE) hm) ((ha.run w) σ H er _ W tk xw fun v x Γ1 H1 g1 r1 h1 => (hb.run h1) σ H1 g1.er _ W tk (xw.on g1.er g1.st) fun u y Γ2 H2 g2 r2 h2 => by
    obtain ⟨ks, rfl, h2⟩ := oDic_of h2
    obtain ⟨kk, hk, hp⟩ := oKey_of h2
    obtain ⟨b', xs, rfl, e1, e2⟩ := r2.dic_
    have key := keyD_of (Rp.to (g2.goes g1.er) _ _ r1) hk
    exact ⟨b', _, rfl, .inl ⟨_, kk, Rd.of e1, key, rfl⟩, _, rfl, by rw [val_some e2 kk]; exact q _ Γ2 H2 (g1.trans g2) hp⟩)⟩
theorem st_notInD (hu : c.X.A.units + 1 < cLine) (ha : SE c a wa) (hb : SQ c b wb) (hm : behindInMarks .NotIn b = false := by first | exact nobehind _ (by decide) (by decide) | rfl) : ST c (.Compare a [.NotIn] [b] pos) (wtNotInD wa wb) := ⟨fun {Γ T} w => fun σ H er Q W tk xw q =>
  outT (pt_cmp (pc_dnotin hu selfE selfE) hm) ((ha.run w) σ H er _ W tk xw fun v x Γ1 H1 g1 r1 h1 => (hb.run h1) σ H1 g1.er _ W tk (xw.on g1.er g1.st) fun u y Γ2 H2 g2 r2 h2 => by
    obtain ⟨ks, rfl, h2⟩ := oDic_of h2
    obtain ⟨kk, hk, hp⟩ := oKey_of h2
    obtain ⟨b', xs, rfl, e1, e2⟩ := r2.dic_
    have key := keyD_of (Rp.to (g2.goes g1.er) _ _ r1) hk
    exact ⟨b', _, rfl, .inl ⟨_, kk, Rd.of e1, key, rfl⟩, _, rfl, by rw [val_some e2 kk]; exact q _ Γ2 H2 (g1.trans g2) hp⟩)⟩
/-! ### four keywords, the other way about -/
def wCallK4_3210 (S : Fs) (E : Addr → Option (Str × D) → Ga → Prop) (a b d e : WE) : WE := fun Γ P => a Γ fun d1 Γ1 => b Γ1 fun d2 Γ2 => d Γ2 fun d3 Γ3 => e Γ3 fun d4 Γ4 => S [d4, d3, d2, d1] (fun d => P d Γ4) fun C fo => E C fo Γ4
theorem se_defK4_3210 {x y z t t4 : Str} {st : Stmt} {j : Nat} {S : Fs} {kp kp2 kp3 kp4 : Pos} {e2 e3 e4 : Expr} (F : Df c.X.prog c.X.w c.X.K c.X.mg c.X.base x st j 4 [y, z, t, t4] c.U S) (bd : Bd c k) (hj : j ≤ k) (ha : SE c e wa) (hb2 : SE c e2 wb) (hb3 : SE c e3 wd) (hb4 : SE c e4 wf)
    (hb : ∀ (kV doc pm : Value) (an : Option Addr) (cdv ct u w v r : Value), bindArgs (PySem.W.fnOf x x (defArgs st) (defBody st) (defScope st) .none kV doc pm an cdv ct) ⟨[], [(t4, r), (t, v), (z, w), (y, u)]⟩ = pure [(y, u), (z, w), (t, v), (t4, r)] := by intros; rfl) (hg : Gl c.X x := by rfl)
    (hall : (backToKw pos (keywordEach [⟨some t4, e, kp⟩, ⟨some t, e2, kp2⟩, ⟨some z, e3, kp3⟩, ⟨some y, e4, kp4⟩] c.X.env)).all (·.1.isSome) = true := by rfl) (hks : (backToKw pos (keywordEach [⟨some t4, e, kp⟩, ⟨some t, e2, kp2⟩, ⟨some z, e3, kp3⟩, ⟨some y, e4, kp4⟩] c.X.env)).filterMap (·.1) = [t4, t, z, y] := by rfl)
    (hdb : (x == ("__debug__" : Str)) = false := by decide) (hpl : ((backTo pos (starEach [] c.X.env)).any (·.1) || (backToKw pos (keywordEach [⟨some t4, e, kp⟩, ⟨some t, e2, kp2⟩, ⟨some z, e3, kp3⟩, ⟨some y, e4, kp4⟩] c.X.env)).any (·.1.isNone)) = false := by rfl) :
    SE c (.Call (.Name x p) [] [⟨some t4, e, kp⟩, ⟨some t, e2, kp2⟩, ⟨some z, e3, kp3⟩, ⟨some y, e4, kp4⟩] pos) (wCallK4_3210 S c.E wa wb wd wf) := ⟨fun {Γ P} w => by
  obtain ⟨f, fd, F1, hm, G⟩ := F.ex
  refine ev_callK0 G bd hj hm F1.kp (fun ws => ws.reverse) (fun vs => vs.reverse) (fun ds => ds.reverse) (fun s ws hK hl => ?_) (fun vs us hl r => ?_) (fun _ _ _ _ _ r => r.rev) (fun _ h => by rw [List.length_reverse]; exact h) hg (kv_cons (ev_mono (ha.run w) fun d Γ1 h => kv_cons (ev_mono (hb2.run h) fun d2 Γ2 h => kv_cons (ev_mono (hb3.run h) fun d3 Γ3 h => kv_cons (ev_mono (hb4.run h) fun d4 Γ4 h => kv_nil ⟨rfl, h⟩))))) hall hks hdb hpl
  · match ws, hl with
    | [u, w, v, r], _ =>
      obtain ⟨oc, od, kV, doc, pm, an, cdv, ct, osl, rfl, lk, hcd⟩ := F1.ex
      exact BindsTo.of_eq (hb kV doc pm an cdv ct r v w u)
  · match vs, us, hl, r with
    | [_, _, _, _], [_, _, _, _], _, .cons a (.cons b (.cons d (.cons e .nil))) => exact .cons e (.cons d (.cons b (.cons a .nil)))⟩
end
end U
/-! W20: the law's script, read by the def that makes the draws. -/
namespace U
open PySem PySem.Spec PyProof.Rows L2
def nil0 : Hw := fun _ => none
theorem sql_grow {K : PySem.W.Frag} {H H' : Hw} {a : Addr} {xs : List V} (h : SqL K H a xs) (e : H a ≠ none → H' a = H a) : SqL K H' a xs := by
  rcases h with (h | ⟨o, h⟩) | h
  · exact .inl (.inl (by rw [e (by rw [h]; simp)]; exact h))
  · exact .inl (.inr ⟨o, by rw [e (by rw [h]; simp)]; exact h⟩)
  · exact .inr h
def scrVol (K : PySem.W.Frag) (a : Addr) (ns : List Int) (tr : Prop) : Vol where
  T := fun x => x = a ∧ tr
  J := fun H => (tr ∧ SqL K H a (ns.map V.int) ∧ H a ≠ none) ∨ (¬ tr ∧ SqL K nil0 a (ns.map V.int))
  keep := fun {H H'} h k => by
    rcases h with ⟨t, h, n⟩ | ⟨t, h⟩
    · have e := k a ⟨rfl, t⟩
      exact .inl ⟨t, sql_grow h fun _ => e, by rw [e]; exact n⟩
    · exact .inr ⟨t, h⟩
  known := fun {H x} h t => by
    obtain ⟨rfl, t⟩ := t
    rcases h with ⟨_, _, n⟩ | ⟨t', _⟩
    · exact n
    · exact absurd t t'
theorem scr_sq {K : PySem.W.Frag} {a : Addr} {ns : List Int} {tr : Prop} {H : Hw} (h : (scrVol K a ns tr).J H) : SqL K H a (ns.map V.int) := by
  rcases h with ⟨_, h, _⟩ | ⟨_, h⟩
  · exact h
  · exact sql_grow h fun z => absurd rfl z
/-- at the law's start: what is known of the script -/
theorem scr_at {K : PySem.W.Frag} {a : Addr} {ns : List Int} {H : Hw} (h : SqL K H a (ns.map V.int)) : (scrVol K a ns (H a ≠ none)).J H := by
  by_cases t : H a ≠ none
  · exact .inl ⟨t, h, t⟩
  · have e : H a = none := Classical.byContradiction t
    refine .inr ⟨t, ?_⟩
    rcases h with (h | ⟨o, h⟩) | h
    · rw [e] at h; cases h
    · rw [e] at h; cases h
    · exact .inr h
section
variable {c : Co} {k : Nat} {Γ : Ga} {P : D → Ga → Prop} {e : Expr} {pos p : Pos} {a : Addr} {ns : List Int} {tr : Prop}
def wScrCut (a : Addr) (ns : List Int) (i : Nat) (n : Int) : WE := fun Γ P => Γ[i]? = some (.dat (.ad a)) ∧ P (.lst ((cut ns none (some n)).map D.int)) Γ
def wScrLen (a : Addr) (ns : List Int) (i : Nat) : WE := fun Γ P => Γ[i]? = some (.dat (.ad a)) ∧ P (.int ns.length) Γ
theorem cutV_ints (ns : List Int) (lo hi : Option Int) : cutV (ns.map V.int) lo hi = (cut ns lo hi).map V.int := by
  unfold cutV U.cut
  rw [List.length_map, List.map_take, List.map_drop]
theorem se_scrCut {x : Str} {npos p2 p3 : Pos} {n : Int} (i : Nat) (hU : c.U = scrVol c.X.K a ns tr) (hN : c.X.N[i]? = some x) (hv : Vis c.X.env.scope x) (hdb : (x == ("__debug__" : Str)) = false := by decide) (hcd : (x == ("__classdict__" : Str)) = false := by decide) {q3 : Nat} :
    SE c (.Subscript (.Name x npos) (.Slice none (some (.Constant (.int n) q3 p2)) none p3) pos) (wScrCut a ns i n) := ⟨fun {Γ P} w => fun σ H er Q W tk xw q => by
  obtain ⟨h0, hp⟩ := w
  obtain ⟨v, hv1, hv2⟩ := er.dat i _ h0
  cases hv2
  refine outE (pe_slice sl_list (pe_var hN hv hdb hcd) po_none (po_some pe_int)) ?_
  have j := er.j
  rw [hU] at j
  refine ⟨_, hv1, _, rfl, a, _, rfl, scr_sq j, fun t ht => ?_⟩
  rw [cutV_ints]
  exact q _ _ Γ _ ((Go.refl er).grow (Grow.new ht)) (.lst upd_same (fun z => er.mx t z ht) (RpA.ints _)) hp⟩
theorem se_scrLen {x : Str} {npos : Pos} (i : Nat) (hU : c.U = scrVol c.X.K a ns tr) (hN : c.X.N[i]? = some x) (hv : Vis c.X.env.scope x) (hm : c.X.mg "len" = none) (hdb : (x == ("__debug__" : Str)) = false := by decide) (hcd : (x == ("__classdict__" : Str)) = false := by decide) (hg : Gl c.X "len" := by rfl)
    (hs : starEach [.Name x npos] c.X.env = (false, eval (.Name x npos) c.X.env) :: starEach [] c.X.env := by rfl) (hpl : (backTo pos (starEach [] c.X.env)).any (·.1) = false := by rfl) :
    SE c (.Call (.Name "len" p) [.Name x npos] [] pos) (wScrLen a ns i) := ⟨fun {Γ P} w => fun σ H er Q W tk xw q => by
  obtain ⟨h0, hp⟩ := w
  obtain ⟨v, hv1, hv2⟩ := er.dat i _ h0
  cases hv2
  refine outE (pe_callB call_len_seq hg hm PySem.boot_len (pa_cons (pe_var hN hv hdb hcd) pa_nil hs) (by decide) (by decide) hs hpl) ?_
  have j := er.j
  rw [hU] at j
  refine ⟨_, hv1, a, _, rfl, .inl (scr_sq j), ?_⟩
  rw [List.length_map]
  exact q _ _ Γ _ (Go.refl er) (.int _) hp⟩
end
end U
/-! W21: repr of data in which empty dicts stand. -/
namespace U
open PySem PySem.Spec PyProof.Rows L2
mutual
def toPyE : D → PyData
  | .non => .none
  | .bl b => .bool b
  | .int i => .int i
  | .str x => .str x
  | .lst xs => .list (toPyEA xs)
  | .tup xs => .tuple (toPyEA xs)
  | .dic _ => .dict []
  | .ad _ => .none
def toPyEA : List D → List PyData
  | [] => []
  | x :: xs => toPyE x :: toPyEA xs
end
mutual
/-- no address; dicts are empty -/
def D.em : D → Bool
  | .lst xs => D.emA xs
  | .tup xs => D.emA xs
  | .dic kvs => kvs.isEmpty
  | .ad _ => false
  | _ => true
def D.emA : List D → Bool
  | [] => true
  | x :: xs => x.em && D.emA xs
end
mutual
theorem toPyE_eq : ∀ d : D, toPyE d = toPy d
  | .non => by simp only [toPyE, toPy]
  | .bl _ => by simp only [toPyE, toPy]
  | .int _ => by simp only [toPyE, toPy]
  | .str _ => by simp only [toPyE, toPy]
  | .lst xs => by simp only [toPyE, toPy, toPyEA_eq xs]
  | .tup xs => by simp only [toPyE, toPy, toPyEA_eq xs]
  | .dic _ => by simp only [toPyE, toPy]
  | .ad _ => by simp only [toPyE, toPy]
theorem toPyEA_eq : ∀ ds : List D, toPyEA ds = toPyA ds
  | [] => by simp only [toPyEA, toPyA]
  | d :: ds => by simp only [toPyEA, toPyA, toPyE_eq d, toPyEA_eq ds]
end
mutual
theorem em_of_pl : ∀ d : D, d.pl = true → d.em = true
  | .non, _ => by simp only [D.em]
  | .bl _, _ => by simp only [D.em]
  | .int _, _ => by simp only [D.em]
  | .str _, _ => by simp only [D.em]
  | .lst xs, h => by simp only [D.em]; exact emA_of_plA xs (by simpa only [D.pl] using h)
  | .tup xs, h => by simp only [D.em]; exact emA_of_plA xs (by simpa only [D.pl] using h)
  | .dic _, h => by simp [D.pl] at h
  | .ad _, h => by simp [D.pl] at h
theorem emA_of_plA : ∀ ds : List D, D.plA ds = true → D.emA ds = true
  | [], _ => by simp only [D.emA]
  | d :: ds, h => by
    have e : d.pl = true ∧ D.plA ds = true := by simpa only [D.plA, Bool.and_eq_true] using h
    simp only [D.emA, em_of_pl d e.1, emA_of_plA ds e.2, Bool.and_self]
end
section
variable {X : Cx} {pins : List (Addr × Obj)} {σ : Sw} {H : Hw} {M : Ex} {s : Shared}
mutual
theorem Rp.readsE (I : Inv X pins σ H s) : ∀ (d : D) (v : V) (u : Value), d.em = true → Rp M H v d → RelV v u → ∃ as, Reads s.heap u (toPy d) as ∧ ∀ a ∈ as, H a ≠ none
  | .non, _, _, _, h, r => by cases h; cases r; simp only [toPy]; exact ⟨_, .none, fun _ h => by cases h⟩
  | .bl b, _, _, _, h, r => by cases h; cases r; simp only [toPy]; exact ⟨_, .bool b, fun _ h => by cases h⟩
  | .int i, _, _, _, h, r => by cases h; obtain ⟨t, rfl⟩ := r; simp only [toPy]; exact ⟨_, .int i t, fun _ h => by cases h⟩
  | .str x, _, _, _, h, r => by cases h; obtain ⟨t, rfl⟩ := r; simp only [toPy]; exact ⟨_, .str x t, fun _ h => by cases h⟩
  | .lst ds, _, _, e, h, r => by
    cases h with
    | lst ha nm hr =>
      cases r
      obtain ⟨its, rv, ⟨o, n, ho, hc, _, hd⟩, _⟩ := I.list (sql_of ha)
      obtain ⟨as, q, hq⟩ := RpA.readsE I ds _ its (by simpa only [D.em] using e) hr rv
      simp only [toPy]
      exact ⟨_, .list ho hc hd q, fun b hb => (List.mem_cons.mp hb).elim (fun z => by rw [z, ha]; simp) (hq b)⟩
  | .tup ds, _, _, e, h, r => by
    cases h with
    | tup ha nm hr =>
      cases r
      obtain ⟨its, rv, ⟨o, ho, hc, n, hd⟩, _⟩ := I.tuple (sqt_of ha)
      obtain ⟨as, q, hq⟩ := RpA.readsE I ds _ its (by simpa only [D.em] using e) hr rv
      simp only [toPy]
      exact ⟨_, .tuple ho hc hd q, hq⟩
  | .dic ks, _, _, e, h, r => by
    cases ks with
    | cons a b => simp [D.em] at e
    | nil =>
      cases h with
      | dic ha nm hr =>
        cases hr
        cases r
        obtain ⟨_, _, vs, kv, o, es, ep, ho, hx, hd, _, hps, _⟩ := dk_of I.hok ha
        cases kv
        have hes : es.toList = [] := by cases hq : es.toList with
          | nil => rfl
          | cons x xs => rw [hq] at hps; cases hps
        simp only [toPy]
        exact ⟨_, .dict ho hx.1 hd (by rw [hes]; exact .nil) (by rw [hes]; exact .nil), fun b hb => by
          rw [List.append_nil] at hb
          rw [List.mem_singleton.mp hb, ha]; simp⟩
  | .ad _, _, _, e, _, _ => by simp [D.em] at e
theorem RpA.readsE (I : Inv X pins σ H s) : ∀ (ds : List D) (vs : List V) (us : List Value), D.emA ds = true → RpA M H vs ds → Vals vs us → ∃ as, ReadsAll s.heap us (toPyA ds) as ∧ ∀ a ∈ as, H a ≠ none
  | [], _, _, _, h, r => by cases h; cases r; simp only [toPyA]; exact ⟨_, .nil, fun _ h => by cases h⟩
  | d :: ds, _, _, e, h, r => by
    have e' : d.em = true ∧ D.emA ds = true := by simpa only [D.emA, Bool.and_eq_true] using e
    cases h with
    | cons h1 h2 =>
      cases r with
      | cons r1 r2 =>
        obtain ⟨as, q1, k1⟩ := Rp.readsE I d _ _ e'.1 h1 r1
        obtain ⟨bs, q2, k2⟩ := RpA.readsE I ds _ _ e'.2 h2 r2
        simp only [toPyA]
        exact ⟨_, .cons q1 q2, fun a ha => (List.mem_append.mp ha).elim (k1 a) (k2 a)⟩
end
theorem Rq.readsE (I : Inv X pins σ H s) {d : D} {v : V} {u : Value} (e : d.em = true) (h : Rq M H v d) (r : RelV v u) : ∃ as, Reads s.heap u (toPy d) as ∧ ∀ a ∈ as, H a ≠ none := by
  cases h with
  | of h => exact Rp.readsE I d v u e h r
  | lst a c =>
    cases r
    obtain ⟨its, rv, ⟨o, n, ho, hc, _, hd⟩, _⟩ := I.list (sql_of a)
    obtain ⟨as, q, hq⟩ := RpA.readsE I _ _ its (by simpa only [D.em] using e) c rv
    simp only [toPy]
    exact ⟨_, .list ho hc hd q, fun b hb => (List.mem_cons.mp hb).elim (fun z => by rw [z, a]; simp) (hq b)⟩
  | dic a c =>
    rename_i ds
    cases ds with
    | cons x y => simp [D.em] at e
    | nil =>
      cases c
      cases r
      obtain ⟨_, _, vs, kv, o, es, ep, ho, hx, hd, _, hps, _⟩ := dk_of I.hok a
      cases kv
      have hes : es.toList = [] := by cases hq : es.toList with
        | nil => rfl
        | cons x xs => rw [hq] at hps; cases hps
      simp only [toPy]
      exact ⟨_, .dict ho hx.1 hd (by rw [hes]; exact .nil) (by rw [hes]; exact .nil), fun b hb => by
        rw [List.append_nil] at hb
        rw [List.mem_singleton.mp hb, a]; simp⟩
/-- the modules' own dict is no tracked thing -/
theorem off_sys (I : Inv X pins σ H s) (hS : ∃ mm, X.base.Ns sysModules mm) {a : Addr} (h : H a ≠ none) : a ≠ sysModules := fun z => by
  obtain ⟨mm, o, es, ep, e, _⟩ := hS
  exact h (by rw [z]; exact (I.bs _ o e).2)
end
/-! ### how long, how deep -/
structure RkE (d : D) (n k : Nat) : Prop where
  em : d.em = true
  sh : (toPy d).showable = true
  ln : (toPy d).shown.length ≤ n
  dp : (toPy d).depth ≤ k
structure RkEA (ds : List D) (n k : Nat) : Prop where
  em : D.emA ds = true
  sh : PyData.showableAll (toPyA ds) = true
  ln : ((PyData.shownAll (toPyA ds)).map (·.length)).sum + 2 * (toPyA ds).length ≤ n
  dp : PyData.depthAll (toPyA ds) ≤ k
theorem Rk.e {d : D} {n k : Nat} (h : Rk d n k) : RkE d n k := ⟨em_of_pl d h.pl, h.sh, h.ln, h.dp⟩
theorem RkE.le {d : D} {n m k j : Nat} (h : RkE d n k) (a : n ≤ m) (b : k ≤ j) : RkE d m j := ⟨h.em, h.sh, Nat.le_trans h.ln a, Nat.le_trans h.dp b⟩
theorem rke_dic {k : Nat} : RkE (.dic []) 2 (k + 1) := ⟨by simp [D.em], by simp [toPy, PyData.showable, PyData.showableKv], by simp only [toPy, PyData.shown, PyData.shownKv]; decide, by simp only [toPy, PyData.depth, PyData.depthKv]; omega⟩
theorem rkea_nil {k : Nat} : RkEA [] 0 k := ⟨rfl, by simp [toPyA, PyData.showableAll], by simp [toPyA, PyData.shownAll], by simp [toPyA, PyData.depthAll]⟩
theorem rkea_cons {d : D} {ds : List D} {n m k : Nat} (h : RkE d n k) (r : RkEA ds m k) : RkEA (d :: ds) (n + 2 + m) k := by
  refine ⟨by simp [D.emA, h.em, r.em], by simp [toPyA, PyData.showableAll, h.sh, r.sh], ?_, ?_⟩
  · have a := h.ln
    have b := r.ln
    simp only [toPyA, PyData.shownAll, List.map_cons, List.sum_cons, List.length_cons]
    omega
  · have a := h.dp
    have b := r.dp
    simp only [toPyA, PyData.depthAll]
    omega
theorem rke_lst {ds : List D} {n k : Nat} (r : RkEA ds n k) : RkE (.lst ds) (n + 3) (k + 1) := by
  refine ⟨by simp only [D.em]; exact r.em, by simp only [toPy, PyData.showable]; exact r.sh, ?_, ?_⟩
  · have a := listText_len_le (PyData.shownAll (toPyA ds))
    have b := r.ln
    rw [shownAll_len] at a
    simp only [toPy, PyData.shown]
    omega
  · have b := r.dp
    simp only [toPy, PyData.depth]
    omega
theorem rke_tup {ds : List D} {n k : Nat} (r : RkEA ds n k) : RkE (.tup ds) (n + 3) (k + 1) := by
  refine ⟨by simp only [D.em]; exact r.em, by simp only [toPy, PyData.showable]; exact r.sh, ?_, ?_⟩
  · have a := tupleText_len_le (PyData.shownAll (toPyA ds))
    have b := r.ln
    rw [shownAll_len] at a
    simp only [toPy, PyData.shown]
    omega
  · have b := r.dp
    simp only [toPy, PyData.depth]
    omega
theorem rkea_all {n k : Nat} : ∀ {ds : List D}, (∀ d ∈ ds, RkE d n k) → RkEA ds ((n + 2) * ds.length) k
  | [], _ => by simpa using rkea_nil
  | d :: ds, h => by
    have a := rkea_cons (h d List.mem_cons_self) (rkea_all fun x hx => h x (List.mem_cons_of_mem _ hx))
    have e : n + 2 + (n + 2) * ds.length = (n + 2) * (d :: ds).length := by rw [List.length_cons, Nat.mul_succ]; omega
    rw [← e]
    exact a
def ShownE (d : D) : Prop := ∃ n j, RkE d n j ∧ n ≤ 16777216 ∧ j ≤ 60
section
variable {c : Co} {k : Nat} {Γ : Ga} {P : D → Ga → Prop} {a b e : Expr} {es : List Expr} {pos p : Pos} {X : Cx} {wa : WE}
theorem call_reprE (gd : X.A.guards = some []) (hu : X.A.units + 64 < cLine) (hS : ∃ mm, X.base.Ns sysModules mm) {M : Ex} {H : Hw} {v : V} {d : D} {n j : Nat} (r : Rq M H v d) (h : RkE d n j) (hn : n ≤ 16777216) (hj : j ≤ 60) {pins : List (Addr × Obj)} {s : Shared} {σ : Sw} {u : Value} {Q : VK} (I : Inv X pins σ H s) (ru : RelV v u) (q : Q (.str (shw d)) H) :
    wpAny (model X.prog X.w) X.A (call (.builtin "repr") [u]) (EP X pins σ Q) X.xe s := by
  have hz : (toPy d).shown.length ≤ sizeLine := Nat.le_trans h.ln (sz hn)
  obtain ⟨as, rd, kn⟩ := r.readsE I h.em ru
  have deep : ∀ (a : Addr), u = .ref a → wpAny (model X.prog X.w) X.A (call (.builtin "repr") [u]) (EP X pins σ Q) X.xe s := fun a e => by
    subst e
    have hd := h.dp
    exact repr_of_reads' rd h.sh (fun _ z => off_sys I hS (kn _ z) rfl) gd (by omega) (fun _ _ e => e) (fun h' u tk hk => ⟨.str (shw d), H, I.kept (t' := tk) hk, ⟨u, rfl⟩, q⟩) hz
  cases d with
  | lst ds =>
    obtain ⟨a, xs, rfl, _⟩ := r.lst_
    exact deep a ru
  | tup ds =>
    obtain ⟨a, xs, rfl, _⟩ := r.tup_
    exact deep a ru
  | dic ds =>
    obtain ⟨a, xs, rfl, _⟩ := r.dic_
    exact deep a ru
  | ad _ => have z := h.em; simp [D.em] at z
  | non => exact call_repr_data gd hu r (rk_non (k := 0)) (by decide) (by decide) I ru q
  | bl b => exact call_repr_data gd hu r (rk_bl (k := 0)) (by decide) (by decide) I ru q
  | int i =>
    cases r.int_
    obtain ⟨t, rfl⟩ := ru
    exact PySem.P.repr_of_int (by have := h.sh; simpa only [toPy, PyData.showable, decide_eq_true_eq] using this) ⟨.str (shw (.int i)), H, I.tok _, ⟨s.toks, by simp only [shw, toPy, PyData.shown]⟩, q⟩
  | str x =>
    cases r.str_
    obtain ⟨t, rfl⟩ := ru
    exact PySem.P.repr_of_str ⟨.str (shw (.str x)), H, I.tok _, ⟨s.toks, by simp only [shw, toPy, PyData.shown]⟩, q⟩ (by simpa only [toPy, PyData.shown] using hz)
theorem ev_reprEm (bd : Bd c k) (hS : ∃ mm, c.X.base.Ns sysModules mm) (hm : c.X.mg "repr" = none) (h : EvQ c a Γ fun d Γ1 => ShownE d ∧ P (.str (shw d)) Γ1) (hg : Gl c.X "repr") (hs : starEach [a] c.X.env = (false, eval a c.X.env) :: starEach [] c.X.env := by rfl) (hpl : (backTo pos (starEach [] c.X.env)).any (·.1) = false := by rfl) : Ev c (.Call (.Name "repr" p) [a] [] pos) Γ P := fun σ H er Q W tk xw q => .mk fun pins s I => by
  have cr : CallR c.X (.builtin "repr") (fun vs H Q => ∃ (M' : Ex) (v : V) (d : D), vs = [v] ∧ Rq M' H v d ∧ ShownE d ∧ Q (.str (shw d)) H) := by
    intro pins s σ' H xs us Q I r h
    obtain ⟨M', v, d, rfl, rq, ⟨n, j, rk, hn, hj⟩, q⟩ := h
    obtain ⟨u, rfl, ru⟩ := vals1 r
    exact call_reprE bd.gd bd.hr.units hS rq rk hn hj I ru q
  refine (pe_callB cr hg hm (by decide +kernel) (pa_cons selfE pa_nil hs) (by decide) (by decide) hs hpl).run pins s σ H Q I ?_
  exact h σ H er _ W tk xw fun v d Γ1 H1 g r ⟨sh, hp⟩ => ⟨_, v, d, rfl, r, sh, q _ _ Γ1 H1 g (.str _) hp⟩
def oReprEm : O1 := fun d P => ShownE d ∧ P (.str (shw d))
theorem se_reprEm (bd : Bd c k) (hS : ∃ mm, c.X.base.Ns sysModules mm) (hm : c.X.mg "repr" = none) (ha : SQ c a wa) (hg : Gl c.X "repr" := by rfl) (hs : starEach [a] c.X.env = (false, eval a c.X.env) :: starEach [] c.X.env := by rfl) (hpl : (backTo pos (starEach [] c.X.env)).any (·.1) = false := by rfl) : SE c (.Call (.Name "repr" p) [a] [] pos) (wOp1 oReprEm wa) :=
  ⟨fun w => ev_reprEm bd hS hm (eq_mono (ha.run w) fun d _ h => h) hg hs hpl⟩
end
end U
/-! W22: x in (a, b, ..) for plain data of any kind. -/
namespace U
open PySem PySem.Spec PyProof.Rows L2
def rInT (K : PySem.W.Frag) : R2 := fun x y H Q => ∃ d ds, Dp K H x d ∧ Dp K H y (.tuple ds) ∧ SeqAt.shaped d = true ∧ SeqAt.shaped (.tuple ds) = true ∧ d.depth ≤ 60 ∧ Q (.bl (ds.any fun z => PyData.eqv z d)) H
theorem op_inT {X : Cx} (hu : X.A.units + 64 < cLine) : OpR X (compareOp .In) (rInT X.K) := by
  intro pins s σ H x y v u Q I rx ry h
  obtain ⟨d, ds, hd, he, sd, se, dp, q⟩ := h
  obtain ⟨as, r1⟩ := Dp.reads I d x v hd rx
  obtain ⟨bs, r2⟩ := Dp.reads I (.tuple ds) y u he ry
  exact SeqAt.in_tuple_reads r2 r1 (SeqAt.canLay_of_shaped se) (SeqAt.canLay_of_shaped sd) (by have := Nat.min_le_right (PyData.depthAll ds) d.depth; omega) ⟨.bl _, H, I, rfl, q⟩
def oInT : OC := fun x y P => ∃ ds, y = .tup ds ∧ Eqk x ∧ Eqk (.tup ds) ∧ (toPy x).depth ≤ 60 ∧ P ((toPyA ds).any fun z => PyData.eqv z (toPy x))
section
variable {c : Co} {k : Nat} {Γ : Ga} {a b e : Expr} {pos p : Pos} {wa wb : WE}
theorem vo_inT {X : Cx} {x : D} {ds : List D} (h1 : Eqk x) (h2 : Eqk (.tup ds)) (h3 : (toPy x).depth ≤ 60) : Vo2 (rInT X.K) x (.tup ds) (.bl ((toPyA ds).any fun z => PyData.eqv z (toPy x))) := fun M H v w _ g1 g2 Q q =>
  ⟨_, _, g1.dp (X := X) h1.pl, by have z := g2.dp (X := X) h2.pl; simpa only [toPy] using z, h1.sp, by have z := h2.sp; simpa only [toPy] using z, h3, q _ H (Grow.refl H) (.bl _)⟩
theorem st_inT (bd : Bd c k) (ha : SE c a wa) (hb : SQ c b wb) (hm : behindInMarks .In b = false := by first | exact nomark _ | rfl) : ST c (.Compare a [.In] [b] pos) (wtCmp oInT wa wb) :=
  ⟨fun {Γ P} h => tv_cmp (op_inT bd.hr.units) (ev_mono (ha.run h) fun x Γ1 h => eq_mono (hb.run h) fun y Γ2 h => by
    obtain ⟨ds, e, h1, h2, h3, h⟩ := h
    subst e
    exact ⟨_, vo_inT h1 h2 h3, h⟩) hm⟩
end
end U
/-! W23: the signs of what repr writes; repr of a repr. -/
namespace U
open PySem PySem.Spec PyProof.Rows L2
def Sg (s : Str) : Prop := ∀ c ∈ s.cps.toList, c < 16 ^ 8
mutual
def D.sg : D → Prop
  | .lst xs => D.sgA xs
  | .tup xs => D.sgA xs
  | .str x => Sg x
  | _ => True
def D.sgA : List D → Prop
  | [] => True
  | x :: xs => x.sg ∧ D.sgA xs
end
theorem digitChar_small (n : Nat) : (Char.toNat (Nat.digitChar n)) < 16 ^ 8 := by
  have h := (Nat.digitChar n).val.toNat_lt
  show (Nat.digitChar n).val.toNat < 16 ^ 8
  exact Nat.lt_of_lt_of_le h (by decide)
theorem charNat_small (c : Char) : c.toNat < 16 ^ 8 := by
  have h := c.val.toNat_lt
  show c.val.toNat < 16 ^ 8
  exact Nat.lt_of_lt_of_le h (by decide)
theorem reprChar_sg {q c : Nat} (hc : c < 16 ^ 8) : ∀ k ∈ Builtin.Str.reprChar q c, k < 16 ^ 8 := by
  have hx : ∀ w k : Nat, k ∈ List.replicate w 48 ++ (Nat.toDigits 16 c).map Char.toNat → k < 16 ^ 8 := fun w k h => by
    rcases List.mem_append.mp h with h | h
    · rw [List.eq_of_mem_replicate h]; decide
    · obtain ⟨ch, _, e⟩ := List.mem_map.mp h
      rw [← e]; exact charNat_small ch
  intro k hk
  unfold Builtin.Str.reprChar at hk
  dsimp only at hk
  repeat' split at hk
  all_goals first
    | (simp only [List.mem_cons, List.not_mem_nil, or_false] at hk; omega)
    | (rcases List.mem_append.mp hk with hk | hk
       · simp only [List.mem_cons, List.not_mem_nil, or_false] at hk; omega
       · exact hx _ _ hk)
theorem foldl_sg (q : Nat) : ∀ (l : List Nat) (acc : Array Nat), (∀ c ∈ l, c < 16 ^ 8) → (∀ c ∈ acc.toList, c < 16 ^ 8) → ∀ c ∈ (l.foldl (fun out c => out ++ (Builtin.Str.reprChar q c).toArray) acc).toList, c < 16 ^ 8
  | [], acc, _, h, c, hc => h c hc
  | x :: r, acc, hl, h, c, hc => foldl_sg q r (acc ++ (Builtin.Str.reprChar q x).toArray) (fun d hd => hl d (List.mem_cons_of_mem _ hd)) (fun d hd => by
      rw [Array.toList_append] at hd
      rcases List.mem_append.mp hd with hd | hd
      · exact h d hd
      · exact reprChar_sg (hl x List.mem_cons_self) d (by simpa using hd)) c hc
theorem quote_sg (x : Str) : reprQuote x < 16 ^ 8 := by
  unfold reprQuote
  split <;> decide
theorem reprText_sg {x : Str} (h : Sg x) : Sg (reprText x) := by
  intro c hc
  unfold reprText at hc
  simp only [Array.toList_push] at hc
  rcases List.mem_append.mp hc with hc | hc
  · rw [← Array.foldl_toList] at hc
    exact foldl_sg _ _ _ h (fun d hd => by
      have e : d = reprQuote x := by simpa using hd
      rw [e]; exact quote_sg x) c hc
  · rw [List.mem_singleton.mp hc]; exact quote_sg x
theorem listSg {ts : List Str} (h : ∀ t ∈ ts, Sg t) : Sg ((("[" : String) : Str) ++ Str.join ", " ts ++ "]") := by
  intro c hm
  rw [mem_cps_append, mem_cps_append, signs_lbrack, signs_rbrack, mem_join] at hm
  rcases hm with (hm | (⟨t, ht, hc⟩ | ⟨hl, hm⟩)) | hm
  · rw [List.mem_singleton.mp hm]; decide
  · exact h t ht c hc
  · rw [signs_sep] at hm
    simp only [List.mem_cons, List.not_mem_nil, or_false] at hm
    omega
  · rw [List.mem_singleton.mp hm]; decide
theorem tupSg {ts : List Str} (h : ∀ t ∈ ts, Sg t) : Sg ((("(" : String) : Str) ++ Str.join ", " ts ++ ((if ts.length == 1 then ",)" else ")" : String) : Str)) := by
  intro c hm
  rw [mem_cps_append, mem_cps_append, signs_lparen, mem_join, signs_tuple_end] at hm
  rcases hm with (hm | (⟨t, ht, hc⟩ | ⟨hl, hm⟩)) | hm
  · rw [List.mem_singleton.mp hm]; decide
  · exact h t ht c hc
  · rw [signs_sep] at hm
    simp only [List.mem_cons, List.not_mem_nil, or_false] at hm
    omega
  · split at hm <;> (simp only [List.mem_cons, List.not_mem_nil, or_false] at hm; omega)
mutual
theorem sg_shown : ∀ d : D, d.em = true → d.sg → Sg (toPy d).shown
  | .non, _, _ => by
    simp only [toPy]; rw [PyData.shown_none]
    have e : (("None" : String) : Str).cps.toList = [78, 111, 110, 101] := by decide
    intro c hc; rw [e] at hc; simp only [List.mem_cons, List.not_mem_nil, or_false] at hc; omega
  | .bl b, _, _ => by
    simp only [toPy]; rw [PyData.shown_bool]
    cases b
    · have e : (Str.ofString "False").cps.toList = [70, 97, 108, 115, 101] := by decide
      intro c hc; change c ∈ (Str.ofString "False").cps.toList at hc; rw [e] at hc; simp only [List.mem_cons, List.not_mem_nil, or_false] at hc; omega
    · have e : (Str.ofString "True").cps.toList = [84, 114, 117, 101] := by decide
      intro c hc; change c ∈ (Str.ofString "True").cps.toList at hc; rw [e] at hc; simp only [List.mem_cons, List.not_mem_nil, or_false] at hc; omega
  | .int i, _, _ => by
    simp only [toPy]
    intro c hc
    refine Classical.byContradiction fun n => shown_int_free' (k := c) ?_ i hc
    have : 16 ^ 8 ≤ c := by omega
    have : 1000 ≤ c := Nat.le_trans (by decide) this
    omega
  | .str x, _, h => by
    simp only [toPy, PyData.shown]
    exact reprText_sg (by simpa only [D.sg] using h)
  | .lst xs, e, h => by
    simp only [toPy]; rw [PyData.shown_list]
    exact listSg (sg_shownA xs (by simpa only [D.em] using e) (by simpa only [D.sg] using h))
  | .tup xs, e, h => by
    simp only [toPy, PyData.shown]
    show Sg (tupleText _)
    exact tupSg (sg_shownA xs (by simpa only [D.em] using e) (by simpa only [D.sg] using h))
  | .dic ks, e, _ => by
    cases ks with
    | cons a b => simp [D.em] at e
    | nil =>
      simp only [toPy, PyData.shown, PyData.shownKv]
      have z : (dictText []).cps.toList = [123, 125] := by decide
      intro c hc; rw [z] at hc; simp only [List.mem_cons, List.not_mem_nil, or_false] at hc; omega
  | .ad _, e, _ => by simp [D.em] at e
theorem sg_shownA : ∀ ds : List D, D.emA ds = true → D.sgA ds → ∀ t ∈ PyData.shownAll (toPyA ds), Sg t
  | [], _, _, t, ht => by simp only [toPyA, PyData.shownAll] at ht; cases ht
  | d :: ds, e, h, t, ht => by
    have e' : d.em = true ∧ D.emA ds = true := by simpa only [D.emA, Bool.and_eq_true] using e
    have h' : d.sg ∧ D.sgA ds := by simpa only [D.sgA] using h
    simp only [toPyA, PyData.shownAll] at ht
    rcases List.mem_cons.mp ht with rfl | ht
    · exact sg_shown d e'.1 h'.1
    · exact sg_shownA ds e'.2 h'.2 t ht
end
/-- what can be shown, and shown again -/
structure Rs (d : D) (n k : Nat) : Prop where
  e : RkE d n k
  sg : d.sg
structure RsA (ds : List D) (n k : Nat) : Prop where
  e : RkEA ds n k
  sg : D.sgA ds
theorem Rs.le {d : D} {n m k j : Nat} (h : Rs d n k) (a : n ≤ m) (b : k ≤ j) : Rs d m j := ⟨h.e.le a b, h.sg⟩
theorem rs_non {k : Nat} : Rs .non 4 k := ⟨rk_non.e, by simp only [D.sg]⟩
theorem rs_bl {b : Bool} {k : Nat} : Rs (.bl b) 5 k := ⟨rk_bl.e, by simp only [D.sg]⟩
theorem rs_int {i : Int} {n k : Nat} (h : i.natAbs < 2 ^ n) (h0 : 0 < n) (hn : n ≤ 1900) : Rs (.int i) (n + 1) k := ⟨(rk_int h h0 hn).e, by simp only [D.sg]⟩
theorem rs_str {x : Str} {k : Nat} (h : Sg x) : Rs (.str x) (10 * x.length + 2) k := ⟨(rk_str h).e, by simpa only [D.sg] using h⟩
theorem rs_dic {k : Nat} : Rs (.dic []) 2 (k + 1) := ⟨rke_dic, by simp only [D.sg]⟩
theorem rsa_nil {k : Nat} : RsA [] 0 k := ⟨rkea_nil, by simp only [D.sgA]⟩
theorem rsa_cons {d : D} {ds : List D} {n m k : Nat} (h : Rs d n k) (r : RsA ds m k) : RsA (d :: ds) (n + 2 + m) k := ⟨rkea_cons h.e r.e, by simp only [D.sgA]; exact ⟨h.sg, r.sg⟩⟩
theorem sgA_all : ∀ {ds : List D}, (∀ d ∈ ds, d.sg) → D.sgA ds
  | [], _ => by simp only [D.sgA]
  | d :: ds, h => by simp only [D.sgA]; exact ⟨h d List.mem_cons_self, sgA_all fun x hx => h x (List.mem_cons_of_mem _ hx)⟩
theorem sgA_mem : ∀ {ds : List D}, D.sgA ds → ∀ d ∈ ds, d.sg
  | x :: ds, h, d, hd => by
    simp only [D.sgA] at h
    rcases List.mem_cons.mp hd with rfl | hd
    · exact h.1
    · exact sgA_mem h.2 d hd
theorem rsa_all {n k : Nat} {ds : List D} (h : ∀ d ∈ ds, Rs d n k) : RsA ds ((n + 2) * ds.length) k := ⟨rkea_all fun d hd => (h d hd).e, sgA_all fun d hd => (h d hd).sg⟩
theorem rs_lst {ds : List D} {n k : Nat} (r : RsA ds n k) : Rs (.lst ds) (n + 3) (k + 1) := ⟨rke_lst r.e, by simp only [D.sg]; exact r.sg⟩
theorem rs_tup {ds : List D} {n k : Nat} (r : RsA ds n k) : Rs (.tup ds) (n + 3) (k + 1) := ⟨rke_tup r.e, by simp only [D.sg]; exact r.sg⟩
theorem rs_lstN {ds : List D} {n k m : Nat} (h : ∀ d ∈ ds, Rs d n k) (hm : ds.length ≤ m) : Rs (.lst ds) ((n + 2) * m + 3) (k + 1) := (rs_lst (rsa_all h)).le (Nat.add_le_add_right (Nat.mul_le_mul_left _ hm) 3) (Nat.le_refl _)
theorem rs_tupN {ds : List D} {n k m : Nat} (h : ∀ d ∈ ds, Rs d n k) (hm : ds.length ≤ m) : Rs (.tup ds) ((n + 2) * m + 3) (k + 1) := (rs_tup (rsa_all h)).le (Nat.add_le_add_right (Nat.mul_le_mul_left _ hm) 3) (Nat.le_refl _)
theorem rs_shw {d : D} {n k j : Nat} (h : Rs d n k) : Rs (.str (shw d)) (10 * n + 2) j := (rs_str (sg_shown d h.e.em h.sg)).le (by
  have := h.e.ln
  show 10 * (toPy d).shown.length + 2 ≤ 10 * n + 2
  omega) (Nat.le_refl _)
theorem Rs.shown {d : D} {n k : Nat} (h : Rs d n k) (hn : n ≤ 16777216) (hk : k ≤ 60) : ShownE d := ⟨n, k, h.e, hn, hk⟩
end U
/-! W24: one's own list of any things != []. -/
namespace U
open PySem PySem.Spec PyProof.Rows L2
def rNeNil : R2 := fun x y H Q => ∃ a b xs, x = .ref a ∧ y = .ref b ∧ H a = some (.lst xs) ∧ H b = some (.lst []) ∧ Q (.bl (!xs.isEmpty)) H
theorem op_neNil {X : Cx} (hu : X.A.units < cLine) : OpR X (compareOp .NotEq) rNeNil := by
  intro pins s σ H x y v u Q I rx ry h
  obtain ⟨a, b, xs, rfl, rfl, ha, hb, q⟩ := h
  cases rx
  cases ry
  obtain ⟨its, r, pl, hz⟩ := I.list (sql_of ha)
  obtain ⟨jts, r2, pl2, hz2⟩ := I.list (sql_of hb)
  cases r2
  cases r with
  | nil => exact SeqAt.RcNeAt.lists (e := fun _ => true) pl.isList pl2.isList rfl hu (fun j h1 _ => absurd h1 (by simp)) _ _ _ _ ⟨.bl _, H, I, rfl, q⟩
  | cons r1 rt => exact SeqAt.RcNeAt.lists_lengths pl.isList pl2.isList (by simp) hu _ _ _ _ ⟨.bl _, H, I, rfl, q⟩
def oNeNil : OC := fun x y P => ∃ ds, x = .lst ds ∧ y = .lst [] ∧ P (!ds.isEmpty)
section
variable {c : Co} {k : Nat} {Γ : Ga} {a b e : Expr} {pos p : Pos} {wa wb : WE}
theorem vo_neNil {ds : List D} : Vo2 rNeNil (.lst ds) (.lst []) (.bl (!ds.isEmpty)) := fun M H v w _ g1 g2 Q q => by
  obtain ⟨a1, xs, rfl, h1, p1⟩ := g1.lst_
  obtain ⟨a2, ys, rfl, h2, p2⟩ := g2.lst_
  cases p2
  have e : xs.isEmpty = ds.isEmpty := by cases p1 <;> rfl
  exact ⟨a1, a2, xs, rfl, rfl, h1, h2, by rw [e]; exact q _ H (Grow.refl H) (.bl _)⟩
theorem st_neNil (bd : Bd c k) {x : Str} {npos : Pos} (i : Nat) (hN : c.X.N[i]? = some x) (hv : Vis c.X.env.scope x) (hb : SQ c b wb) (hm : behindInMarks .NotEq b = false := by first | exact nomark _ | rfl) (hdb : (x == ("__debug__" : Str)) = false := by decide) (hcd : (x == ("__classdict__" : Str)) = false := by decide) : ST c (.Compare (.Name x npos) [.NotEq] [b] pos) (wtCmpO oNeNil i wb) :=
  ⟨fun {Γ T} h => by
    unfold wtCmpO at h
    split at h
    · rename_i ds hd
      intro σ H er Q W tk xw q
      obtain ⟨a, xs, e, h1, _, p⟩ := er.own i ds hd
      refine outT (pt_cmpR (op_neNil (by have := bd.hr.units; omega)) (pe_var hN hv hdb hcd) selfE hm) ⟨_, e, hb.run h σ H er _ W tk xw fun w y Γ2 H2 g2 p2 ⟨hk, zs, hz, hy, hp⟩ => ?_⟩
      cases hz
      subst hy
      obtain ⟨a', xs', e', h1', _, p'⟩ := g2.er.own i ds hk
      rw [e] at e'
      cases e'
      refine vo_neNil (Mx c.M σ Γ2) H2 _ w g2.er.mx (.lst h1' p') p2 _ fun u H3 g3 p3 => ?_
      cases p3
      exact ⟨_, rfl, q _ Γ2 H3 (g2.grow g3) hp⟩
    · rename_i d hd
      exact tv_cmp (op_neNil (by have := bd.hr.units; omega)) (ev_var i hN hv hd (eq_mono (hb.run h) fun y Γ2 ⟨zs, hz, hy, hp⟩ => by
        subst hz hy
        exact ⟨_, vo_neNil, hp⟩) hdb hcd) hm
    · exact h.elim⟩
end
end U
/-! W25: dict(list of pairs); x *= e. -/
namespace U
open PySem PySem.Spec PyProof.Rows L2
def kD : L2.Key → D
  | .inl i => .int i
  | .inr x => .str x
def pairK (kv : L2.Key × D) : D := .tup [kD kv.1, kv.2]
def mergeD (m : List (L2.Key × D)) (kvs : List (L2.Key × D)) : List (L2.Key × D) := kvs.foldl (fun acc kv => putD acc kv.1 kv.2) m
theorem kD_of {M : Ex} {H : Hw} {v : V} {k : L2.Key} (r : Rp M H v (kD k)) : v = kV k := by
  cases k with
  | inl i => cases r; rfl
  | inr x => cases r; rfl
theorem RpK.merge {M : Ex} {H : Hw} : ∀ {vs2 : List (L2.Key × V)} {ks2 : List (L2.Key × D)} {vs : List (L2.Key × V)} {ks : List (L2.Key × D)}, RpK M H vs2 ks2 → RpK M H vs ks → RpK M H (mergeK vs vs2) (mergeD ks ks2)
  | [], [], _, _, .nil, h => h
  | (k, v) :: vs2, (_, d) :: ks2, vs, ks, .cons r rs, h => by
    have z : RpK M H (mergeK (putK vs k v) vs2) (mergeD (putD ks k d) ks2) := RpK.merge rs (RpK.put k r h)
    exact z
theorem pairs_rp {K : PySem.W.Frag} {M : Ex} {H : Hw} : ∀ {xs : List V} {kvs : List (L2.Key × D)}, RpA M H xs (kvs.map pairK) → ∃ (ps : List Addr) (ws : List (L2.Key × V)), xs = ps.map V.ref ∧ Paired (fun p kv => SqT K H p [kV kv.1, kv.2]) ps ws ∧ RpK M H ws kvs
  | [], [], _ => ⟨[], [], rfl, .nil, .nil⟩
  | [], kv :: kvs, h => by cases h
  | x :: xs, [], h => by cases h
  | x :: xs, (k, d) :: kvs, h => by
    cases h with
    | cons h1 h2 =>
      obtain ⟨ps, ws, rfl, hp, hk⟩ := pairs_rp (K := K) h2
      cases h1 with
      | tup e1 n1 r1 =>
        cases r1 with
        | cons a1 r2 =>
          cases r2 with
          | cons a2 r3 =>
            cases r3
            have z := kD_of a1
            subst z
            exact ⟨_ :: ps, (k, _) :: ws, rfl, .cons (sqt_of e1) hp, .cons a2 hk⟩
def oDictP : O1 := fun d P => ∃ kvs : List (L2.Key × D), d = .lst (kvs.map pairK) ∧ P (.dic (mergeD [] kvs))
def oMulI : O2
  | .int i, .int j, P => CMul i j ∧ P (.int (i * j))
  | _, _, _ => False
section
variable {c : Co} {k : Nat} {Γ : Ga} {a b e : Expr} {pos p : Pos} {wa wb : WE}
theorem vo_dictP {K : PySem.W.Frag} {kvs : List (L2.Key × D)} : Von (fun xs H Q => ∃ (a : Addr) (ps : List Addr) (ws : List (L2.Key × V)), xs = [.ref a] ∧ SqL K H a (ps.map V.ref) ∧ Paired (fun p kv => SqT K H p [kV kv.1, kv.2]) ps ws ∧ ∀ p, H p = none → Q (.ref p) (upd H p (.dK (mergeK [] ws)))) [.lst (kvs.map pairK)] (.dic (mergeD [] kvs)) := fun M H vs hk h1 Q q => by
  cases h1 with
  | cons h1 h2 =>
    cases h2
    obtain ⟨a, xs, rfl, e, r⟩ := h1.lst_
    obtain ⟨ps, ws, rfl, hp, hr⟩ := pairs_rp (K := K) r
    exact ⟨a, ps, ws, rfl, sql_of e, hp, fun p hp => q _ _ (Grow.new hp) (.dic upd_same (fun z => hk p z hp) (RpK.to (Grow.new hp).goes _ _ (RpK.merge hr .nil)))⟩
theorem se_dictP (bd : Bd c k) (hm : c.X.mg "dict" = none) (ha : SQ c a wa) (hg : Gl c.X "dict" := by rfl) (hs : starEach [a] c.X.env = (false, eval a c.X.env) :: starEach [] c.X.env := by rfl) (hpl : (backTo pos (starEach [] c.X.env)).any (·.1) = false := by rfl) : SE c (.Call (.Name "dict" p) [a] [] pos) (wOp1 oDictP wa) :=
  ⟨fun w => evn1 (fun ha => pe_callTy (call_dictP bd.calm) hg hm (by decide +kernel) ha (by decide) (by decide) hs hpl) (eq_mono (ha.run w) fun d Γ1 ⟨kvs, e, h⟩ => by
    subst e
    exact ⟨_, vo_dictP, h⟩) hs⟩
theorem ag_mul : AugOk c .Mult oMulI := ⟨fun x y H Q => rI CMul (fun i j => .int (i * j)) x y H Q, fun pins s σ H x y v u Q I r1 r2 h => iop_mul pins s σ H x y v u Q I r1 r2 h, fun h M H v w r1 r2 Q q => by
  unfold oMulI at h
  split at h
  · cases r1
    cases r2
    exact ⟨_, _, rfl, rfl, h.1, q _ _ (.int _) h.2⟩
  · exact h.elim⟩
end
end U
/-! W26: a list comprehension with two fors. -/
namespace U
open PySem PySem.Spec PyProof.Rows L2
def wpIX (X : Cx) (scope : Scope) (tg iter : Expr) : TI := fun σ H R => ∀ (s : Shared) (H0 : Hw) (C : Addr) (cl : List (Str × Addr)) (fp : List Addr), wpI (X.blk s H0 scope (compEnvC scope cl C X.env) fp) tg iter σ H R
theorem unset_sub {Γ : Ga} {vs1 vs : List Nat} (h : ∀ i ∈ vs1, i ∈ vs) : unset vs (unset vs1 Γ) = unset vs Γ := unset_ext (unset_len Γ vs1) fun i hi => unset_off fun z => hi (h i z)
theorem wipe_sub {σ : Sw} {vs1 vs : List Nat} (h : ∀ i ∈ vs1, i ∈ vs) : wipe (wipe σ vs1) vs = wipe σ vs := wipe_ext (wipe_length σ vs1) fun i hi => wipe_off fun z => hi (h i z)
section
variable {c : Co} {k : Nat} {Γ : Ga} {pos : Pos}
/-- a turn of the outer walk: what it asks of the inner one -/
def Inner (c : Co) (scope : Scope) (Dl : Addr) (vs1 : List Nat) (tg1 iter1 elt : Expr) (I1 : List D → Prop) (acc : List D) (Γ2 : Ga) : Prop :=
  ∀ (s : Shared) (H : Hw) (C : Addr) (cl : List (Str × Addr)) (fp : List Addr), Iv (c.inner s H scope C cl fp Dl) tg1 iter1 Γ2 fun ys Γ3 => Γ3 = Γ2 ∧ ∃ J : Nat → List D → Prop, J 0 acc ∧
    (∀ j y acc', ys[j]? = some y → J j acc' → acc'.length ≤ 16000000 ∧ ∀ (s : Shared) (H : Hw) (C : Addr) (cl : List (Str × Addr)) (fp : List Addr), Gw (c.inner s H scope C cl fp Dl) vs1 tg1 (unset vs1 Γ2) y fun Γ4 =>
      ∀ (s : Shared) (H : Hw) (C : Addr) (cl : List (Str × Addr)) (fp : List Addr), Ev (c.inner s H scope C cl fp Dl) elt Γ4 fun z Γ5 => Γ5 = Γ4 ∧ J (j + 1) (acc' ++ [z])) ∧
    ∀ acc', J ys.length acc' → I1 acc'
theorem lc2_data {elt tg tg1 iter1 : Expr} {scope : Scope} {vs vs1 : List Nat} (hv : ∀ i ∈ vs1, i ∈ vs) {σ : Sw} {Γ1 : Ga} {H1 : Hw} {J : It} {xs : List D} {I : Nat → List D → Prop} {Dl : Addr} {Qd : Hw → Prop} (er : ER c.U c.M H1 σ Γ1) (src : Src c σ Γ1 H1 J xs) (hD : H1 Dl = none) (h0 : I 0 [])
    (hs : ∀ i x acc, xs[i]? = some x → I i acc → ∀ (s : Shared) (H : Hw) (C : Addr) (cl : List (Str × Addr)) (fp : List Addr), Gw (c.inner s H scope C cl fp Dl) vs tg (unset vs Γ1) x fun Γ2 => Inner c scope Dl vs1 tg1 iter1 elt (I (i + 1)) acc Γ2)
    (hd : ∀ accV acc H2, Mid c σ Γ1 vs H1 Dl accV acc H2 → I xs.length acc → Qd H2) :
    ∃ W : Nat → Nat → Hw → Prop, (∃ m, W 0 m (upd H1 Dl (.lst []))) ∧ ∀ i m H, W i m H →
      (J.stop i H ∧ Qd H) ∨ (J.go i H ∧ ∃ Nx : Hw → Prop, (∀ H', Nx H' → ∃ m', m' < m ∧ W (i + 1) m' H') ∧ ∀ x H', J.yld i H x H' → wpGX c.X scope tg x (wipe σ vs) H' fun σ2 H2 => wipe σ2 vs = wipe σ vs ∧ wpFX c.X scope [] σ2 H2 fun b H3 =>
        if b = true then wpIX c.X scope tg1 iter1 σ2 H3 fun J1 H4 => ∃ W1 : Nat → Nat → Hw → Prop, (∃ m, W1 0 m H4) ∧ ∀ j k H, W1 j k H →
          (J1.stop j H ∧ Nx H) ∨ (J1.go j H ∧ ∃ Nx1 : Hw → Prop, (∀ H', Nx1 H' → ∃ k', k' < k ∧ W1 (j + 1) k' H') ∧ ∀ x H', J1.yld j H x H' → wpGX c.X scope tg1 x (wipe σ2 vs1) H' fun σ3 H5 => wipe σ3 vs1 = wipe σ2 vs1 ∧ wpFX c.X scope [] σ3 H5 fun b H6 =>
            if b = true then wpEX c.X scope elt σ3 H6 fun y H7 => ∃ acc, H7 Dl = some (.lst acc) ∧ acc.length < sizeLine ∧ Nx1 (upd H7 Dl (.lst (acc ++ [y]))) else Nx1 H6)
        else Nx H3) := by
  have npD : ¬ c.U.T Dl := fun t => er.kn Dl (er.tm Dl t) hD
  have hM : ∀ a, (c.M a ∨ a = Dl) → c.M a ∨ H1 a = none := fun a h => h.imp id fun z => by rw [z]; exact hD
  refine ⟨fun i m H2 => m = xs.length - i ∧ i ≤ xs.length ∧ ∃ accV acc, Mid c σ Γ1 vs H1 Dl accV acc H2 ∧ I i acc, ⟨xs.length, by simp, Nat.zero_le _, [], [], ⟨fun a o _ _ e => Grow.new hD a o e, (er.unset vs).apart hD, upd_same, .nil⟩, h0⟩, ?_⟩
  rintro i m H2 ⟨rfl, hi, accV, acc, md, hI⟩
  have st : Step c.U σ Γ1 H1 (wipe σ vs) (unset vs Γ1) H2 := ⟨md.pres, fun a z => .inl (ow_unset z)⟩
  by_cases hlt : i < xs.length
  · refine .inr ⟨src.go i _ _ _ H2 hM st.m md.er hlt, fun H' => ∃ accV acc, Mid c σ Γ1 vs H1 Dl accV acc H' ∧ I (i + 1) acc, fun H' z => ⟨xs.length - (i + 1), by omega, rfl, hlt, z⟩, fun v H3 y s H0 C cl fp => ?_⟩
    obtain ⟨gr, d, hd', rd⟩ := src.yld i _ _ _ H2 v H3 hM st.m md.er hlt y
    refine hs i d acc hd' hI s H0 C cl fp (wipe σ vs) H3 v (md.er.grow gr) rd _ (fun σ4 Γ4 e4 u4 s4 r4 hF => ⟨e4.trans (wipe_idem σ vs), fun s H0 C cl fp => .inl ⟨rfl, ?_⟩⟩)
    rw [unset_idem] at u4
    rw [wipe_idem] at e4
    show wpIX c.X scope tg1 iter1 σ4 H3 _
    intro s0 H0' C0 cl0 fp0
    have xw0 : ∀ (s : Shared) (H0 : Hw) (C : Addr) (cl : List (Str × Addr)) (fp : List Addr) {σ5 : Sw} {Γ5 : Ga} {H5 : Hw}, XW (c.inner s H0 scope C cl fp Dl) σ5 Γ5 H5 (fun _ _ _ _ => False) := fun _ _ _ _ _ _ _ _ _ _ _ _ _ _ _ _ _ e => e
    refine hF s0 H0' C0 cl0 fp0 σ4 H3 r4 _ (fun _ _ _ _ => False) takes0 (xw0 s0 H0' C0 cl0 fp0) fun J1 ys Γ5 H4 g5 src5 ⟨e5, Jd, j0, js, je⟩ => ?_
    subst e5
    have r5 : ER c.U (fun a => c.M a ∨ a = Dl) H4 σ4 Γ5 := g5.er
    have noD : ¬ Ow σ4 Γ5 Dl := fun z => (r5.own_ne z).1 (.inr rfl)
    have keep4 : ∀ a o, ¬ c.U.T a → ¬ Ow (wipe σ vs) (unset vs Γ1) a → H2 a = some o → H4 a = some o := fun a o t n e => g5.st.fr a o t (fun z => by
      rcases s4.og a z with z | z
      · exact n z
      · rw [gr a o e] at z; cases z) (gr a o e)
    have own4 : ∀ a o, H2 a = some o → Ow σ4 Γ5 a → Ow (wipe σ vs) (unset vs Γ1) a := fun a o e z => by
      rcases s4.og a z with z | z
      · exact z
      · rw [gr a o e] at z; cases z
    have dl4 : H4 Dl = some (.lst accV) := g5.st.fr Dl _ npD noD (gr _ _ md.dl)
    let In : List V → List D → Hw → Prop := fun aV a H => (∀ x o, ¬ c.U.T x → ¬ Ow σ4 Γ5 x → x ≠ Dl → H4 x = some o → H x = some o) ∧ ER c.U (fun a => c.M a ∨ a = Dl) H (wipe σ4 vs1) (unset vs1 Γ5) ∧ H Dl = some (.lst aV) ∧ RpA (Mx (fun a => c.M a ∨ a = Dl) (wipe σ4 vs1) (unset vs1 Γ5)) H aV a
    have start : In accV acc H4 := ⟨fun x o _ _ _ e => e, r5.unset vs1, dl4, RpA.to ⟨fun a o m e => ⟨keep4 a o (fun t => m (.inl (md.er.tm a t))) (fun z => m (.inr z)) e, fun z => by
      rcases z with z | z
      · exact m (.inl z)
      · exact m (.inr (own4 a o e (ow_unset z)))⟩⟩ _ _ md.ra⟩
    have done : ∀ {aV : List V} {a : List D} {H : Hw}, In aV a H → Mid c σ Γ1 vs H1 Dl aV a H := fun {aV a H} ⟨fr, re, dl, ra⟩ => by
      have we : wipe (wipe σ4 vs1) vs = wipe σ vs := by rw [wipe_sub hv, e4]
      have ue : unset vs (unset vs1 Γ5) = unset vs Γ1 := by rw [unset_sub hv, u4]
      refine ⟨fun b o t n e => ?_, ?_, dl, RpA.to ⟨fun b o m e => ⟨e, fun z => m ?_⟩⟩ _ _ ra⟩
      · have e2 := md.pres b o t n e
        have n2 : ¬ Ow (wipe σ vs) (unset vs Γ1) b := fun z => n (ow_unset z)
        exact fr b o t (fun z => n2 (own4 b o e2 z)) (ne_of_none e hD) (keep4 b o t n2 e2)
      · have z := re.unset vs
        rw [we, ue] at z
        exact z
      · rcases z with z | z
        · exact .inl z
        · rw [← we, ← ue] at z
          exact .inr (ow_unset z)
    refine ⟨fun j q H => q = ys.length - j ∧ j ≤ ys.length ∧ ∃ aV a, In aV a H ∧ Jd j a, ⟨ys.length, by simp, Nat.zero_le _, accV, acc, start, j0⟩, ?_⟩
    rintro j q H ⟨rfl, hj, aV, a, ⟨fr, re, dl, ra⟩, hJ⟩
    have stM : StepM (fun a => c.M a ∨ a = Dl) c.U σ4 Γ5 H4 (wipe σ4 vs1) (unset vs1 Γ5) H := ⟨fun b o t n m e => fr b o t n (fun z => m (.inr z)) e, fun b z => .inl (ow_unset z)⟩
    by_cases hjl : j < ys.length
    · refine .inr ⟨src5.go j _ _ _ H (fun _ h => .inl h) stM re hjl, fun H' => ∃ aV a, In aV a H' ∧ Jd (j + 1) a, fun H' z => ⟨ys.length - (j + 1), by omega, rfl, hjl, z⟩, fun v1 H5 y1 s H0 C cl fp => ?_⟩
      obtain ⟨gr5, d1, hd1, rd1⟩ := src5.yld j _ _ _ H v1 H5 (fun _ h => .inl h) stM re hjl y1
      obtain ⟨hal, hg⟩ := js j d1 a hd1 hJ
      refine hg s H0 C cl fp (wipe σ4 vs1) H5 v1 (re.grow gr5) rd1 _ (fun σ6 Γ6 e6 u6 s6 r6 hE => ⟨e6.trans (wipe_idem σ4 vs1), fun s H0 C cl fp => .inl ⟨rfl, ?_⟩⟩)
      rw [unset_idem] at u6
      rw [wipe_idem] at e6
      show wpEX c.X scope elt σ6 H5 _
      intro s9 H9 C9 cl9 fp9
      refine hE s9 H9 C9 cl9 fp9 σ6 H5 r6 _ (fun _ _ _ _ => False) takes0 (xw0 s9 H9 C9 cl9 fp9) fun w dz Γ7 H7 g7 p7 ⟨e7, hJ7⟩ => ?_
      subst e7
      have r7 : ER c.U (fun a => c.M a ∨ a = Dl) H7 σ6 Γ7 := g7.er
      have noD6 : ¬ Ow σ6 Γ7 Dl := fun z => (r7.own_ne z).1 (.inr rfl)
      have keep7 : ∀ b o, ¬ c.U.T b → ¬ Ow (wipe σ4 vs1) (unset vs1 Γ5) b → H b = some o → H7 b = some o := fun b o t n e => g7.st.fr b o t (fun z => by
        rcases s6.og b z with z | z
        · exact n z
        · rw [gr5 b o e] at z; cases z) (gr5 b o e)
      have dl7 : H7 Dl = some (.lst aV) := g7.st.fr Dl _ npD noD6 (gr5 _ _ dl)
      have er7 : ER c.U (fun a => c.M a ∨ a = Dl) H7 (wipe σ4 vs1) (unset vs1 Γ5) := by
        have z := r7.unset vs1
        rw [u6, e6] at z
        exact z
      refine ⟨aV, dl7, Nat.lt_of_lt_of_le (show aV.length < 16000001 by rw [ra.length]; omega) (by decide), _, _, ⟨fun b o t n ne e => ?_, er7.apartMut npD, upd_same, RpA.app (RpA.to ⟨fun b o m e => ⟨?_, m⟩⟩ _ _ ra) (RpA.to ⟨fun b o m e => ⟨?_, fun z => m ?_⟩⟩ _ _ (.cons p7 .nil))⟩, hJ7⟩
      · rw [upd_ne ne]
        exact keep7 b o t (fun z => n (ow_unset z)) (fr b o t n ne e)
      · rw [upd_ne fun z => m (.inl (.inr z))]
        exact keep7 b o (fun t => m (.inl (re.tm b t))) (fun z => m (.inr z)) e
      · rw [upd_ne fun z => m (.inl (.inr z))]
        exact e
      · rcases z with z | z
        · exact .inl z
        · rw [← e6, ← u6] at z
          exact .inr (ow_unset z)
    · have e : j = ys.length := by omega
      subst e
      exact .inl ⟨src5.stop _ _ _ H (fun _ h => .inl h) stM re, aV, a, done ⟨fr, re, dl, ra⟩, je a hJ⟩
  · have e : i = xs.length := by omega
    subst e
    exact .inl ⟨src.stop _ _ _ H2 hM st.m md.er, hd _ _ _ md hI⟩
/-- [elt for tg in iter for tg1 in iter1] -/
theorem lc2_reads {P : D → Ga → Prop} {elt tg iter tg1 iter1 : Expr} {scope : Scope} (own : List (Str × Nat)) (vs1 : List Nat) (hv : ∀ i ∈ vs1, i ∈ own.map (·.2))
    (h : Iv c tg iter Γ fun xs Γ1 => (∀ m ∈ own.map (·.2), ∀ s, Γ1[m]? = some s → s.mine = false) ∧ ∃ I : Nat → List D → Prop, I 0 [] ∧
      (∀ i x acc, xs[i]? = some x → I i acc → ∀ (Dl : Addr) (s : Shared) (H : Hw) (C : Addr) (cl : List (Str × Addr)) (fp : List Addr), Gw (c.inner s H scope C cl fp Dl) (own.map (·.2)) tg (unset (own.map (·.2)) Γ1) x fun Γ2 => Inner c scope Dl vs1 tg1 iter1 elt (I (i + 1)) acc Γ2) ∧
      ∀ acc, I xs.length acc → P (.lst acc) Γ1)
    {σ : Sw} {H : Hw} (er : ER c.U c.M H σ Γ) {Q : VK} {W : WX} (tk : Takes c.X W) (xw : XW c σ Γ H W) (q : ∀ v d Γ' H', Go c σ Γ H Γ' H' → Rp (Mx c.M σ Γ') H' v d → P d Γ' → Q v H') :
    tLc2 (wpI c.X tg iter) (wpGX c.X scope tg) (wpFX c.X scope []) (wpIX c.X scope tg1 iter1) (wpGX c.X scope tg1) (wpFX c.X scope []) (wpEX c.X scope elt) (own.map (·.2)) vs1 σ H Q := by
  refine h σ H er _ W tk xw fun J xs Γ1 H1 g src ⟨hm, I, h0, ht, hd⟩ Dl hD => ?_
  refine lc2_data hv g.er src hD h0 (fun i x acc hx hI => ht i x acc hx hI Dl) fun accV acc H2 md hI => ?_
  have st : Step c.U σ Γ1 H1 σ Γ1 H2 := ⟨md.pres, fun a z => .inl z⟩
  have ge : Goes (Mx c.M σ Γ1) (Mx c.M σ Γ1) H1 H2 := st.goes g.er
  have down : ∀ a, Ow σ Γ1 a → Ow (wipe σ (own.map (·.2))) (unset (own.map (·.2)) Γ1) a := fun a ⟨i, s, h1, h2, h3⟩ => by
    by_cases hi : i ∈ own.map (·.2)
    · rw [hm i hi s h1] at h2
      cases h2
    · exact ⟨i, s, by rw [unset_off hi]; exact h1, h2, by rw [wipe_off hi]; exact h3⟩
  have gd : Goes (Mx (fun a => c.M a ∨ a = Dl) (wipe σ (own.map (·.2))) (unset (own.map (·.2)) Γ1)) (Mx c.M σ Γ1) H2 H2 := ⟨fun a o m e => ⟨e, fun z => m (z.elim (fun y => .inl (.inl y)) fun y => .inr (down a y))⟩⟩
  have er2 : ER c.U c.M H2 σ Γ1 := by
    refine ER.of g.er.tm (fun a m => md.er.kn a (.inl m)) md.er.j g.er.len (fun i d h => ?_) (fun i s h m => ?_) g.er.sep
    · obtain ⟨v, h1, h2⟩ := g.er.dat i d h
      exact ⟨v, h1, Rp.to ge _ _ h2⟩
    · have hi : i ∉ own.map (·.2) := fun z => by rw [hm i z s h] at m; cases m
      obtain ⟨a, o, h1, h2, h3, h4⟩ := md.er.ob (i := i) (s := s) (by rw [unset_off hi]; exact h) m
      rw [wipe_off hi] at h1
      exact ⟨a, o, h1, h2, fun z => h3 (.inl z), h4.to gd⟩
  have nm : ¬ Mx c.M σ Γ1 Dl := fun z => g.er.mx Dl z hD
  exact q _ _ Γ1 H2 (g.trans ⟨st, rfl, er2⟩) (.lst md.dl nm (RpA.to gd _ _ md.ra)) (hd acc hI)
theorem ev_lc2 {P : D → Ga → Prop} {elt tg iter tg1 iter1 : Expr} {scope : Scope} (own : List (Str × Nat)) (vs1 : List Nat) (bd : Bd c k) (ok : BlkOk c.X.N c.X.env.scope scope own) (hv : ∀ i ∈ vs1, i ∈ own.map (·.2))
    (h : Iv c tg iter Γ fun xs Γ1 => (∀ m ∈ own.map (·.2), ∀ s, Γ1[m]? = some s → s.mine = false) ∧ ∃ I : Nat → List D → Prop, I 0 [] ∧
      (∀ i x acc, xs[i]? = some x → I i acc → ∀ (Dl : Addr) (s : Shared) (H : Hw) (C : Addr) (cl : List (Str × Addr)) (fp : List Addr), Gw (c.inner s H scope C cl fp Dl) (own.map (·.2)) tg (unset (own.map (·.2)) Γ1) x fun Γ2 => Inner c scope Dl vs1 tg1 iter1 elt (I (i + 1)) acc Γ2) ∧
      ∀ acc, I xs.length acc → P (.lst acc) Γ1)
    (hs : ∀ x, foldedSetIterable iter c.X.env x = pure x := by intro _; rfl) (hs1 : ∀ env x, foldedSetIterable iter1 env x = pure x := by intro _ _; rfl) : Ev c (.ListComp elt [⟨tg, iter, [], 0⟩, ⟨tg1, iter1, [], 0⟩] scope pos) Γ P := fun σ H er Q W tk xw q =>
  outE (pe_lc2 (own := own) (vs1 := vs1) (g := wpGX c.X scope tg) (tt := wpFX c.X scope []) (wi1 := wpIX c.X scope tg1 iter1) (g1 := wpGX c.X scope tg1) (tt1 := wpFX c.X scope []) (te := wpEX c.X scope elt) bd.calm bd.nd selfI ok hv (fun s H C cl fp => ⟨fun pins s' σ H' v u Q I r h => (h s H C cl fp).run pins s' u I r⟩)
    (fun s H C cl fp => ⟨fun pins s' σ H' Q I h => selfF.run pins s' σ H' Q I (h s H C cl fp)⟩) (fun s H C cl fp => ⟨fun pins s' σ H' Q I h => (h s H C cl fp).run pins s' I⟩) (fun s H C cl fp => ⟨fun pins s' σ H' v u Q I r h => (h s H C cl fp).run pins s' u I r⟩)
    (fun s H C cl fp => ⟨fun pins s' σ H' Q I h => selfF.run pins s' σ H' Q I (h s H C cl fp)⟩) (fun s H C cl fp => ⟨fun pins s' σ H' Q I h => (h s H C cl fp).run pins s' I⟩) hs hs1) (lc2_reads own vs1 hv h er tk xw q)
theorem s1_setLc2 {R : Oc} {elt tg iter tg1 iter1 : Expr} {scope : Scope} {y : Str} {py spos : Pos} (own : List (Str × Nat)) (vs1 : List Nat) (bd : Bd c k) (j : Nat) (hy : c.X.N[j]? = some y) (hyl : c.X.env.scope.names.lookup y = some .local) (hj : j < Γ.length) (ok : BlkOk c.X.N c.X.env.scope scope own) (hv : ∀ i ∈ vs1, i ∈ own.map (·.2))
    (h : Iv c tg iter Γ fun xs Γ1 => (∀ m ∈ own.map (·.2), ∀ s, Γ1[m]? = some s → s.mine = false) ∧ ∃ I : Nat → List D → Prop, I 0 [] ∧
      (∀ i x acc, xs[i]? = some x → I i acc → ∀ (Dl : Addr) (s : Shared) (H : Hw) (C : Addr) (cl : List (Str × Addr)) (fp : List Addr), Gw (c.inner s H scope C cl fp Dl) (own.map (·.2)) tg (unset (own.map (·.2)) Γ1) x fun Γ2 => Inner c scope Dl vs1 tg1 iter1 elt (I (i + 1)) acc Γ2) ∧
      ∀ acc, I xs.length acc → R.nx (Γ1.set j (.dat (.lst acc))))
    (hsw : swapsWith (.ListComp elt [⟨tg, iter, [], 0⟩, ⟨tg1, iter1, [], 0⟩] scope pos) (some (.Name y py)) spos.line c.X.env = pure true)
    (hs : ∀ x, foldedSetIterable iter c.X.env x = pure x := by intro _; rfl) (hs1 : ∀ env x, foldedSetIterable iter1 env x = pure x := by intro _ _; rfl) :
    S1 c (.Assign [.Name y py] (.ListComp elt [⟨tg, iter, [], 0⟩, ⟨tg1, iter1, [], 0⟩] scope pos) spos) Γ R := fun σ H er W Dd tk kk =>
  outS (ps_setLc2 (own := own) (vs1 := vs1) (g := wpGX c.X scope tg) (tt := wpFX c.X scope []) (wi1 := wpIX c.X scope tg1 iter1) (g1 := wpGX c.X scope tg1) (tt1 := wpFX c.X scope []) (te := wpEX c.X scope elt) bd.calm bd.nd hy hyl hsw selfI ok hv (fun s H C cl fp => ⟨fun pins s' σ H' v u Q I r h => (h s H C cl fp).run pins s' u I r⟩)
    (fun s H C cl fp => ⟨fun pins s' σ H' Q I h => selfF.run pins s' σ H' Q I (h s H C cl fp)⟩) (fun s H C cl fp => ⟨fun pins s' σ H' Q I h => (h s H C cl fp).run pins s' I⟩) (fun s H C cl fp => ⟨fun pins s' σ H' v u Q I r h => (h s H C cl fp).run pins s' u I r⟩)
    (fun s H C cl fp => ⟨fun pins s' σ H' Q I h => selfF.run pins s' σ H' Q I (h s H C cl fp)⟩) (fun s H C cl fp => ⟨fun pins s' σ H' Q I h => (h s H C cl fp).run pins s' I⟩) hs hs1)
    (lc2_reads (P := fun d Γ1 => R.nx (Γ1.set j (.dat d))) own vs1 hv h er tk kk.xw fun v d Γ1 H1 g p hp => kk.nx _ _ _ (g.st.trans g.er (step_set j)) (g.er.set j p (by rw [g.length]; exact hj)) hp)
variable {wl wl1 : WL} {wg wg1 : WG} {we : WE}
theorem sh_sub {vs vs' : List Nat} {tg : Expr} (h : SH c vs' tg wg) (hv : ∀ i ∈ vs', i ∈ vs) : SH c vs tg wg := ⟨fun w => fun σ H v er r Q q => (h.run w) σ H v er r Q fun σ' Γ' e1 e2 st er' hp => q σ' Γ' (by rw [← wipe_sub (σ := σ') hv, e1, wipe_sub hv]) (by rw [← unset_sub (Γ := Γ') hv, e2, unset_sub hv]) st er' hp⟩
def wLc2 (vs vs1 : List Nat) (i : WL) (g : WG) (i1 : WL) (g1 : WG) (e : WE) : WE := fun Γ P => i Γ fun xs Γ1 => calm vs Γ1 ∧ ∃ I : Nat → List D → Prop, I 0 [] ∧
  (∀ k x acc, xs[k]? = some x → I k acc → g (unset vs Γ1) x fun Γ2 => i1 Γ2 fun ys Γ3 => Γ3 = Γ2 ∧ ∃ J : Nat → List D → Prop, J 0 acc ∧
    (∀ j y acc', ys[j]? = some y → J j acc' → acc'.length ≤ 16000000 ∧ g1 (unset vs1 Γ2) y fun Γ4 => e Γ4 fun z Γ5 => Γ5 = Γ4 ∧ J (j + 1) (acc' ++ [z])) ∧ ∀ acc', J ys.length acc' → I (k + 1) acc') ∧
  ∀ acc, I xs.length acc → P (.lst acc) Γ1
theorem se_lc2 {tg iter tg1 iter1 : Expr} {elt : Expr} {scope : Scope} (own : List (Str × Nat)) (vs1 : List Nat) (bd : Bd c k) (ok : BlkOk c.X.N c.X.env.scope scope own) (hv : ∀ i ∈ vs1, i ∈ own.map (·.2)) (hi : SI c tg iter wl) (hg : ∀ (Dl : Addr) (s : Shared) (H : Hw) (C : Addr) (cl : List (Str × Addr)) (fp : List Addr), Bd (c.inner s H scope C cl fp Dl) k → SH (c.inner s H scope C cl fp Dl) (own.map (·.2)) tg wg)
    (hi1 : ∀ (Dl : Addr) (s : Shared) (H : Hw) (C : Addr) (cl : List (Str × Addr)) (fp : List Addr), Bd (c.inner s H scope C cl fp Dl) k → SI (c.inner s H scope C cl fp Dl) tg1 iter1 wl1)
    (hg1 : ∀ (Dl : Addr) (s : Shared) (H : Hw) (C : Addr) (cl : List (Str × Addr)) (fp : List Addr), Bd (c.inner s H scope C cl fp Dl) k → SH (c.inner s H scope C cl fp Dl) vs1 tg1 wg1)
    (he : ∀ (Dl : Addr) (s : Shared) (H : Hw) (C : Addr) (cl : List (Str × Addr)) (fp : List Addr), Bd (c.inner s H scope C cl fp Dl) k → SE (c.inner s H scope C cl fp Dl) elt we) (hs : ∀ x, foldedSetIterable iter c.X.env x = pure x := by intro _; rfl) (hs1 : ∀ env x, foldedSetIterable iter1 env x = pure x := by intro _ _; rfl) :
    SE c (.ListComp elt [⟨tg, iter, [], 0⟩, ⟨tg1, iter1, [], 0⟩] scope pos) (wLc2 (own.map (·.2)) vs1 wl wg wl1 wg1 we) :=
  ⟨fun w => ev_lc2 own vs1 bd ok hv (iv_mono (hi.run w) fun xs Γ1 ⟨hc, I, h0, h1, h2⟩ => ⟨calm_of hc, I, h0, fun i x acc hx hI Dl s H C cl fp => gw_mono ((hg Dl s H C cl fp (bd.inner s H scope C cl fp Dl)).run (h1 i x acc hx hI)) fun Γ2 w s2 H2 C2 cl2 fp2 =>
    iv_mono ((hi1 Dl s2 H2 C2 cl2 fp2 (bd.inner s2 H2 scope C2 cl2 fp2 Dl)).run w) fun ys Γ3 ⟨e3, J, j0, js, je⟩ => ⟨e3, J, j0, fun j y acc' hy hJ => ⟨(js j y acc' hy hJ).1, fun s3 H3 C3 cl3 fp3 => gw_mono ((hg1 Dl s3 H3 C3 cl3 fp3 (bd.inner s3 H3 scope C3 cl3 fp3 Dl)).run (js j y acc' hy hJ).2) fun Γ4 w s4 H4 C4 cl4 fp4 => (he Dl s4 H4 C4 cl4 fp4 (bd.inner s4 H4 scope C4 cl4 fp4 Dl)).run w⟩, je⟩, h2⟩) hs hs1⟩
theorem ss_setLc2 {tg iter tg1 iter1 : Expr} {elt : Expr} {scope : Scope} {y : Str} {py spos : Pos} (own : List (Str × Nat)) (vs1 : List Nat) (bd : Bd c k) (j : Nat) (hy : c.X.N[j]? = some y) (hyl : c.X.env.scope.names.lookup y = some .local) (ok : BlkOk c.X.N c.X.env.scope scope own) (hv : ∀ i ∈ vs1, i ∈ own.map (·.2)) (hi : SI c tg iter wl) (hg : ∀ (Dl : Addr) (s : Shared) (H : Hw) (C : Addr) (cl : List (Str × Addr)) (fp : List Addr), Bd (c.inner s H scope C cl fp Dl) k → SH (c.inner s H scope C cl fp Dl) (own.map (·.2)) tg wg)
    (hi1 : ∀ (Dl : Addr) (s : Shared) (H : Hw) (C : Addr) (cl : List (Str × Addr)) (fp : List Addr), Bd (c.inner s H scope C cl fp Dl) k → SI (c.inner s H scope C cl fp Dl) tg1 iter1 wl1)
    (hg1 : ∀ (Dl : Addr) (s : Shared) (H : Hw) (C : Addr) (cl : List (Str × Addr)) (fp : List Addr), Bd (c.inner s H scope C cl fp Dl) k → SH (c.inner s H scope C cl fp Dl) vs1 tg1 wg1)
    (he : ∀ (Dl : Addr) (s : Shared) (H : Hw) (C : Addr) (cl : List (Str × Addr)) (fp : List Addr), Bd (c.inner s H scope C cl fp Dl) k → SE (c.inner s H scope C cl fp Dl) elt we) (hsw : swapsWith (.ListComp elt [⟨tg, iter, [], 0⟩, ⟨tg1, iter1, [], 0⟩] scope pos) (some (.Name y py)) spos.line c.X.env = pure true := by rfl) (hs : ∀ x, foldedSetIterable iter c.X.env x = pure x := by intro _; rfl) (hs1 : ∀ env x, foldedSetIterable iter1 env x = pure x := by intro _ _; rfl) :
    SS c (.Assign [.Name y py] (.ListComp elt [⟨tg, iter, [], 0⟩, ⟨tg1, iter1, [], 0⟩] scope pos) spos) (wSet j (wLc2 (own.map (·.2)) vs1 wl wg wl1 wg1 we)) :=
  ⟨fun w => s1_setLc2 own vs1 bd j hy hyl w.1 ok hv (iv_mono (hi.run w.2) fun xs Γ1 ⟨hc, I, h0, h1, h2⟩ => ⟨calm_of hc, I, h0, fun i x acc hx hI Dl s H C cl fp => gw_mono ((hg Dl s H C cl fp (bd.inner s H scope C cl fp Dl)).run (h1 i x acc hx hI)) fun Γ2 w s2 H2 C2 cl2 fp2 =>
    iv_mono ((hi1 Dl s2 H2 C2 cl2 fp2 (bd.inner s2 H2 scope C2 cl2 fp2 Dl)).run w) fun ys Γ3 ⟨e3, J, j0, js, je⟩ => ⟨e3, J, j0, fun j y acc' hy hJ => ⟨(js j y acc' hy hJ).1, fun s3 H3 C3 cl3 fp3 => gw_mono ((hg1 Dl s3 H3 C3 cl3 fp3 (bd.inner s3 H3 scope C3 cl3 fp3 Dl)).run (js j y acc' hy hJ).2) fun Γ4 w s4 H4 C4 cl4 fp4 => (he Dl s4 H4 C4 cl4 fp4 (bd.inner s4 H4 scope C4 cl4 fp4 Dl)).run w⟩, je⟩, h2⟩) hsw hs hs1⟩
end
end U
/-! W27: t.count(i), t a tuple of ints. -/
namespace U
open PySem PySem.Spec PyProof.Rows L2
section
variable {c : Co} {k : Nat} {Γ : Ga} {P : D → Ga → Prop} {e o : Expr} {wa wb : WE}
theorem ev_tcount {name : Str} {apos cpos : Pos} (hn : name = "count") (h : Ev c o Γ fun x Γ1 => ∃ ns : List Int, x = .tup (ns.map D.int) ∧ Ev c e Γ1 fun d Γ2 => ∃ i : Int, d = .int i ∧ P (.int (ns.count i : Nat)) Γ2)
    (hfew : ((backTo cpos (starEach [e] c.X.env)).all (fun x => !x.1) && (backToKw cpos (keywordEach [] c.X.env)).all (fun x => x.1.isSome) && decide (([e] : List Expr).length + ([] : List Keyword).length + (if ([] : List Keyword).isEmpty then 0 else 1) < 30)) = true := by rfl)
    (hbase : attributeBase o "count" c.X.env (eval o c.X.env) = eval o c.X.env := by rfl) (hline : (apos.endLine == cpos.line) = true := by rfl) (hst : starEach [e] c.X.env = (false, eval e c.X.env) :: starEach [] c.X.env := by rfl) :
    Ev c (.Call (.Attribute o name apos) [e] [] cpos) Γ P := fun σ H er Q W tk xw q => by
  subst hn
  refine outE (pe_bmZ PySem.F.slot_tuple_count PySem.F.type_tuple_count mt_tcount selfE (pa_cons selfE pa_nil hst) hbase hfew hline hst (by rfl)) ?_
  refine h σ H er _ W tk xw fun v x Γ1 H1 g1 r1 ⟨ns, e1, h2⟩ => ?_
  subst e1
  cases r1 with
  | tup q1 q2 q3 =>
    obtain ⟨ob, z1, z2⟩ := q1
    refine ⟨⟨_, ob, _, rfl, z1, z2⟩, ?_⟩
    refine h2 σ H1 g1.er _ W tk (xw.on g1.er g1.st) fun w d Γ2 H2 g2 r2 ⟨i, e2, hp⟩ => ?_
    subst e2
    cases r2
    have z := Rp.to (g2.goes g1.er) _ _ (Rp.tup ⟨ob, z1, z2⟩ q2 q3)
    cases z with
    | tup z1 z2 z3 =>
      rw [z3.ints_] at z1
      exact ⟨_, ns, i, rfl, rfl, sqt_of z1, q _ _ Γ2 H2 (g1.trans g2) (.int _) hp⟩
def wCountT (o a : WE) : WE := fun Γ P => o Γ fun x Γ1 => ∃ ns : List Int, x = .tup (ns.map D.int) ∧ a Γ1 fun d Γ2 => ∃ i : Int, d = .int i ∧ P (.int (ns.count i : Nat)) Γ2
theorem se_countT {name : Str} {apos cpos : Pos} (hn : name = "count") (ho : SE c o wa) (ha : SE c e wb)
    (hfew : ((backTo cpos (starEach [e] c.X.env)).all (fun x => !x.1) && (backToKw cpos (keywordEach [] c.X.env)).all (fun x => x.1.isSome) && decide (([e] : List Expr).length + ([] : List Keyword).length + (if ([] : List Keyword).isEmpty then 0 else 1) < 30)) = true := by rfl)
    (hbase : attributeBase o "count" c.X.env (eval o c.X.env) = eval o c.X.env := by rfl) (hline : (apos.endLine == cpos.line) = true := by rfl) (hst : starEach [e] c.X.env = (false, eval e c.X.env) :: starEach [] c.X.env := by rfl) :
    SE c (.Call (.Attribute o name apos) [e] [] cpos) (wCountT wa wb) :=
  ⟨fun w => ev_tcount hn (ev_mono (ho.run w) fun x Γ1 ⟨ns, e, h⟩ => ⟨ns, e, ha.run h⟩) hfew hbase hline hst⟩
end
end U
/-! W28: sorted pairs of ints, in their order. -/
namespace U
open PySem PySem.Spec PyProof.Rows L2
def prD (p : Int × Int) : D := .tup [.int p.1, .int p.2]
def leP (p q : Int × Int) : Prop := p.1 < q.1 ∨ p.1 = q.1 ∧ p.2 ≤ q.2
def pkD : D → Int × Int
  | .tup [.int i, .int j] => (i, j)
  | _ => (0, 0)
def kH (H : Hw) : V → Int × Int
  | .ref t => match H t with
    | some (.frz _ (.tup [.int i, .int j])) => (i, j)
    | _ => (0, 0)
  | _ => (0, 0)
theorem leP_of {p q : Int × Int} (h : SrtO.lexB q p = false) : leP p q := by
  have h := SrtO.lexB_no.mp h
  unfold leP
  omega
theorem pairs_of_D {es : List D} (h : ∀ x ∈ es, ∃ i j, x = D.tup [.int i, .int j]) : es = (es.map pkD).map prD := by
  induction es with
  | nil => rfl
  | cons e es ih =>
    obtain ⟨i, j, rfl⟩ := h e List.mem_cons_self
    rw [List.map_cons, List.map_cons, ← ih fun x hx => h x (List.mem_cons_of_mem _ hx)]
    rfl
theorem kH_all {M : Ex} {H : Hw} : ∀ {ys : List V} {es : List D}, RpA M H ys es → (∀ x ∈ es, ∃ i j, x = D.tup [.int i, .int j]) → es.map pkD = ys.map (kH H)
  | [], [], _, _ => rfl
  | y :: ys, e :: es, .cons a b, h => by
    rw [List.map_cons, List.map_cons, kH_all b fun x hx => h x (List.mem_cons_of_mem _ hx)]
    obtain ⟨i, j, rfl⟩ := h e List.mem_cons_self
    cases a with
    | tup h1 h2 h3 =>
      cases h3 with
      | cons a b =>
        cases b with
        | cons b c =>
          cases c
          cases a
          cases b
          obtain ⟨o, e, _⟩ := h1
          simp only [kH, e, pkD]
def rSortedPZO (K : PySem.W.Frag) : List V → Hw → VK → Prop := fun vs H Q => ∃ a xs, vs = [V.ref a] ∧ SqL K H a xs ∧ (∀ x ∈ xs, ∃ t i j, x = V.ref t ∧ TupAt H t [.int i, .int j]) ∧ ∀ ys p, ys.Perm xs → SrtO.Srtd (ltP (kH H)) ys → H p = none → Q (.ref p) (upd H p (.lst ys))
theorem cr_sortedPZO {X : Cx} : CallR X (.builtin "sorted") (rSortedPZO X.K) := by
  intro pins s σ H vs us Q I r h
  obtain ⟨a, xs, rfl, hs, hx, q⟩ := h
  obtain ⟨its, rv, hl, hz⟩ := I.list hs
  obtain ⟨u, rfl, ru⟩ := vals1 r
  obtain rfl : u = Value.ref a := ru
  obtain ⟨e1, e2⟩ := refs_back rv fun x m => (hx x m).elim fun t h => h.elim fun _ h => h.elim fun _ h => ⟨t, h.1⟩
  refine SrtO.sorted_pairsO (k := fun v => kH H (backV v)) hl.isList (by rw [← rv.length]; exact hz) (fun v hv => ?_) fun h' d out hsr hst kp hd ⟨n, hn⟩ => ?_
  · obtain ⟨t, rfl⟩ := e2 v hv
    obtain ⟨t', i, j, e, ht⟩ := hx (V.ref t) (by rw [e1]; exact List.mem_map.mpr ⟨_, hv, rfl⟩)
    cases e
    obtain ⟨its2, r2, ⟨o, ho, hc, n, hd⟩, _⟩ := I.tuple (sqt_of ht)
    obtain ⟨u1, u2, rfl, ⟨t1, rfl⟩, ⟨t2, rfl⟩⟩ := vals2 r2
    obtain ⟨o2, e2, _⟩ := ht
    have ek : kH H (backV (Value.ref t)) = (i, j) := by
      show kH H (V.ref t) = _
      simp only [kH, e2]
    show Srt.IsPair _ _ (kH H (backV (Value.ref t))).1 (kH H (backV (Value.ref t))).2
    rw [ek]
    exact ⟨t, o, t1, t2, n, rfl, ho, hc, hd⟩
  · have hp := hst.perm
    have L := I.laid (t' := s.toks) (o := .lst (out.map backV)) kp hd ⟨by rw [List.length_map, hp.length_eq, ← rv.length]; exact hz, out, n, vals_back fun u hu => e2 u (hp.mem_iff.mp hu), hn⟩
    exact ⟨.ref d, _, L, rfl, q _ d (by rw [e1]; exact hp.map backV) (List.pairwise_map.mpr (hsr.imp fun h => h)) (I.hok.fresh hd)⟩
section
variable {c : Co} {k : Nat} {Γ : Ga} {P : D → Ga → Prop} {a e o : Expr} {pos p : Pos} {wa : WE}
theorem ev_sortedPO (hm : c.X.mg "sorted" = none) (h : EvQ c a Γ fun d Γ1 => ∃ ps : List (Int × Int), d = .lst (ps.map prD) ∧ ∀ qs : List (Int × Int), qs.Perm ps → qs.Pairwise leP → P (.lst (qs.map prD)) Γ1) (hg : Gl c.X "sorted") (hs : starEach [a] c.X.env = (false, eval a c.X.env) :: starEach [] c.X.env := by rfl) (hpl : (backTo pos (starEach [] c.X.env)).any (·.1) = false := by rfl) : Ev c (.Call (.Name "sorted" p) [a] [] pos) Γ P := fun σ H er Q W tk xw q => by
  refine outE (pe_callB cr_sortedPZO hg hm (by decide +kernel) (pa_cons selfE pa_nil hs) (by decide) (by decide) hs hpl) ?_
  refine h σ H er _ W tk xw fun v d Γ1 H1 g r ⟨ps, e, hp⟩ => ?_
  subst e
  obtain ⟨l, vs, rfl, e1, r1⟩ := r.lst_
  have hd : ∀ x ∈ ps.map prD, ∃ i j, x = D.tup [.int i, .int j] := fun x hx => by
    obtain ⟨q, _, rfl⟩ := List.mem_map.mp hx
    exact ⟨q.1, q.2, rfl⟩
  refine ⟨l, vs, rfl, sql_of e1, fun x hx => ?_, fun ys t hy hsr ht => ?_⟩
  · obtain ⟨d, hd', rd⟩ := r1.memv x hx
    obtain ⟨i, j, rfl⟩ := hd d hd'
    cases rd with
    | tup h1 h2 h3 =>
      cases h3 with
      | cons a b =>
        cases b with
        | cons b c =>
          cases c
          cases a
          cases b
          exact ⟨_, i, j, rfl, h1⟩
  · obtain ⟨es, hpm, re⟩ := r1.perm hy
    have hes : ∀ x ∈ es, ∃ i j, x = D.tup [.int i, .int j] := fun x hx => hd x (hpm.mem_iff.mp hx)
    have ee := pairs_of_D hes
    have ek := kH_all re hes
    have hpq : (es.map pkD).Perm ps := by
      have := hpm.map pkD
      rw [List.map_map, show pkD ∘ prD = id from rfl, List.map_id] at this
      exact this
    have hpw : (es.map pkD).Pairwise leP := by
      rw [ek]
      exact List.pairwise_map.mpr (hsr.imp fun h => leP_of h)
    have := hp (es.map pkD) hpq hpw
    rw [← ee] at this
    exact q _ _ Γ1 _ (g.grow (Grow.new ht)) (.lst upd_same (fun z => g.er.mx t z ht) (RpA.to (Grow.new ht).goes _ _ re)) this
def oSortedO : O1 := fun d P => ∃ ps : List (Int × Int), d = .lst (ps.map prD) ∧ ∀ qs : List (Int × Int), qs.Perm ps → qs.Pairwise leP → P (.lst (qs.map prD))
theorem se_sortedO (hm : c.X.mg "sorted" = none) (ha : SQ c a wa) (hg : Gl c.X "sorted" := by rfl) (hs : starEach [a] c.X.env = (false, eval a c.X.env) :: starEach [] c.X.env := by rfl) (hpl : (backTo pos (starEach [] c.X.env)).any (·.1) = false := by rfl) : SE c (.Call (.Name "sorted" p) [a] [] pos) (wOp1 oSortedO wa) :=
  ⟨fun w => ev_sortedPO hm (eq_mono (ha.run w) fun d _ h => h) hg hs hpl⟩
end
end U
/-! W29: zip of two lists. -/
namespace U
open PySem PySem.Spec PyProof.Rows L2
section
variable {c : Co} {k : Nat} {Γ : Ga} {a b e : Expr} {pos p : Pos} {wl : WL}
theorem oTwoL_of {ds : List D} {P : List D → List D → Prop} (h : oTwoL ds P) : ∃ xs ys, ds = [.lst xs, .lst ys] ∧ P xs ys := by
  unfold oTwoL at h
  split at h
  · exact ⟨_, _, rfl, h⟩
  · exact h.elim
theorem si_zipL (hm : c.X.mg "zip" = none) {elts : List Expr} {kk : Nat} {tpos : Pos} (ha : SA c [a, b] wl) (hg : Gl c.X "zip" := by rfl) (hs : starEach [a, b] c.X.env = (false, eval a c.X.env) :: starEach [b] c.X.env := by rfl) (hpl : (backTo pos (starEach [b] c.X.env)).any (·.1) = false := by rfl) : SI c (.Tuple elts kk tpos) (.Call (.Name "zip" p) [a, b] [] pos) (wiZipL wl) :=
  ⟨fun w => iv_zipL hm (av_mono (ha.run w) fun ds _ h => oTwoL_of h) hg hs hpl⟩
end
end U
/-! W30: a list of new lists of ints, each reached from there alone. -/
namespace U
open PySem PySem.Spec PyProof.Rows L2
def Co.mw (c : Co) (M : Ex) : Co := ⟨c.X, c.U, M, c.E⟩
theorem Bd.mw {c : Co} {k : Nat} (bd : Bd c k) (M : Ex) : Bd (c.mw M) k := ⟨bd.calm, bd.own, bd.nd, bd.hr, bd.gd⟩
/-- lists of ints at addresses -/
structure Lists (H : Hw) (as : List Addr) (nss : List (List Int)) : Prop where
  len : as.length = nss.length
  nd : as.Nodup
  at_ : ∀ (i : Nat) (a : Addr) (ns : List Int), as[i]? = some a → nss[i]? = some ns → H a = some (.lst (ns.map V.int))
theorem Lists.has {H : Hw} {as : List Addr} {nss : List (List Int)} (l : Lists H as nss) {a : Addr} (h : a ∈ as) : ∃ ns : List Int, H a = some (.lst (ns.map V.int)) := by
  obtain ⟨i, hi, e⟩ := List.getElem_of_mem h
  exact ⟨nss[i]'(by have := l.len; omega), l.at_ i a _ (by rw [List.getElem?_eq_getElem hi, e]) (List.getElem?_eq_getElem _)⟩
theorem Lists.to {H H' : Hw} {as : List Addr} {nss : List (List Int)} (l : Lists H as nss) (h : ∀ a ∈ as, ∀ o, H a = some o → H' a = some o) : Lists H' as nss :=
  ⟨l.len, l.nd, fun i a ns h1 h2 => h a (List.mem_of_getElem? h1) _ (l.at_ i a ns h1 h2)⟩
theorem Lists.snoc {H : Hw} {as : List Addr} {nss : List (List Int)} {p : Addr} {ns : List Int} (l : Lists H as nss) (hp : p ∉ as) (h : H p = some (.lst (ns.map V.int))) : Lists H (as ++ [p]) (nss ++ [ns]) := by
  refine ⟨by rw [List.length_append, List.length_append, l.len]; rfl, ?_, fun i a ms h1 h2 => ?_⟩
  · refine List.nodup_append.mpr ⟨l.nd, by simp, fun a ha b hb e => ?_⟩
    have hb : b = p := by simpa using hb
    exact hp (by rw [← hb, ← e]; exact ha)
  · by_cases c : i < as.length
    · rw [List.getElem?_append_left c] at h1
      rw [List.getElem?_append_left (by rw [← l.len]; exact c)] at h2
      exact l.at_ i a ms h1 h2
    · rw [List.getElem?_append_right (by omega)] at h1
      rw [List.getElem?_append_right (by rw [← l.len]; omega), ← l.len] at h2
      have e : i - as.length = 0 := by
        have := (List.getElem?_eq_some_iff.mp h1).1
        simp at this
        omega
      rw [e] at h1 h2
      simp at h1 h2
      rw [← h1, ← h2]
      exact h
/-- the turns of a comprehension of new lists -/
structure MidN (c : Co) (σ : Sw) (Γ1 : Ga) (vs : List Nat) (H1 : Hw) (Dl : Addr) (as : List Addr) (nss : List (List Int)) (H2 : Hw) : Prop where
  pres : ∀ a o, ¬ c.U.T a → ¬ Ow σ Γ1 a → H1 a = some o → H2 a = some o
  er : ER c.U (fun a => (c.M a ∨ a ∈ as) ∨ a = Dl) H2 (wipe σ vs) (unset vs Γ1)
  dl : H2 Dl = some (.lst (as.map V.ref))
  fr : ∀ a ∈ as, H1 a = none ∧ a ≠ Dl
  ls : Lists H2 as nss
section
variable {c : Co} {k : Nat} {Γ : Ga} {pos : Pos}
theorem lc_new {elt tg : Expr} {scope : Scope} {vs : List Nat} {σ : Sw} {Γ1 : Ga} {H1 : Hw} {J : It} {xs : List D} {I : Nat → List (List Int) → Prop} {Dl : Addr} {Qd : Hw → Prop} (er : ER c.U c.M H1 σ Γ1) (src : Src c σ Γ1 H1 J xs) (hD : H1 Dl = none) (h0 : I 0 []) (hl : xs.length ≤ 1000000)
    (calm : ∀ m ∈ vs, ∀ s, Γ1[m]? = some s → s.mine = false)
    (hs : ∀ i x acc, xs[i]? = some x → I i acc → acc.length = i →
      ∀ (M : Ex) (s : Shared) (H : Hw) (C : Addr) (cl : List (Str × Addr)) (fp : List Addr), Gw ((c.mw M).inner s H scope C cl fp Dl) vs tg (unset vs Γ1) x fun Γ2 =>
          ∀ (s : Shared) (H : Hw) (C : Addr) (cl : List (Str × Addr)) (fp : List Addr), Nv ((c.mw M).inner s H scope C cl fp Dl) elt Γ2 fun y Γ4 => Γ4 = Γ2 ∧ ∃ ns : List Int, y = .own (ns.map D.int) ∧ I (i + 1) (acc ++ [ns]))
    (hd : ∀ as nss H2, MidN c σ Γ1 vs H1 Dl as nss H2 → I xs.length nss → Qd H2) :
    ∃ W : Nat → Nat → Hw → Prop, (∃ m, W 0 m (upd H1 Dl (.lst []))) ∧ ∀ i m H, W i m H →
      (J.stop i H ∧ Qd H) ∨ (J.go i H ∧ ∃ Nx : Hw → Prop, (∀ H', Nx H' → ∃ m', m' < m ∧ W (i + 1) m' H') ∧ ∀ x H', J.yld i H x H' → wpGX c.X scope tg x (wipe σ vs) H' fun σ2 H2 => wipe σ2 vs = wipe σ vs ∧ wpFX c.X scope [] σ2 H2 fun b H3 =>
        if b = true then wpEX c.X scope elt σ2 H3 fun y H4 => ∃ acc, H4 Dl = some (.lst acc) ∧ acc.length < sizeLine ∧ Nx (upd H4 Dl (.lst (acc ++ [y]))) else Nx H3) := by
  have npD : ¬ c.U.T Dl := fun t => er.kn Dl (er.tm Dl t) hD
  refine ⟨fun i m H2 => m = xs.length - i ∧ i ≤ xs.length ∧ ∃ as nss, MidN c σ Γ1 vs H1 Dl as nss H2 ∧ nss.length = i ∧ I i nss, ⟨xs.length, by simp, Nat.zero_le _, [], [], ⟨fun a o _ _ e => Grow.new hD a o e, ?_, upd_same, by simp, ⟨rfl, by simp, by simp⟩⟩, rfl, h0⟩, ?_⟩
  · have e : (fun a => (c.M a ∨ a ∈ ([] : List Addr)) ∨ a = Dl) = fun a => c.M a ∨ a = Dl := by funext a; simp
    rw [e]
    exact (er.unset vs).apart hD
  rintro i m H2 ⟨rfl, hi, as, nss, md, al, hI⟩
  have hM : ∀ a, ((c.M a ∨ a ∈ as) ∨ a = Dl) → c.M a ∨ H1 a = none := fun a h => by
    rcases h with (h | h) | h
    · exact .inl h
    · exact .inr (md.fr a h).1
    · exact .inr (by rw [h]; exact hD)
  have st : Step c.U σ Γ1 H1 (wipe σ vs) (unset vs Γ1) H2 := ⟨md.pres, fun a z => .inl (ow_unset z)⟩
  have npA : ∀ a ∈ as, ¬ c.U.T a := fun a ha t => er.kn a (er.tm a t) (md.fr a ha).1
  by_cases hlt : i < xs.length
  · refine .inr ⟨src.go i _ _ _ H2 hM st.m md.er hlt, fun H' => ∃ as nss, MidN c σ Γ1 vs H1 Dl as nss H' ∧ nss.length = i + 1 ∧ I (i + 1) nss, fun H' z => ⟨xs.length - (i + 1), by omega, rfl, hlt, z⟩, fun v H3 y s H0 C cl fp => ?_⟩
    obtain ⟨gr, d, hd', rd⟩ := src.yld i _ _ _ H2 v H3 hM st.m md.er hlt y
    refine hs i d nss hd' hI al (fun a => c.M a ∨ a ∈ as) s H0 C cl fp (wipe σ vs) H3 v (md.er.grow gr) rd _ (fun σ4 Γ4 e4 u4 s4 r4 hF => ⟨e4.trans (wipe_idem σ vs), fun s H0 C cl fp => .inl ⟨rfl, ?_⟩⟩)
    rw [unset_idem] at u4
    rw [wipe_idem] at e4
    show wpEX c.X scope elt σ4 H3 _
    intro s H0 C cl fp
    refine hF s H0 C cl fp σ4 H3 r4 _ (fun _ _ _ _ => False) takes0 (fun _ _ _ _ _ _ _ _ _ e => e) fun p o z Γ5 H5 st5 sh5 hp er5 e5 ob ⟨eΓ, ns, ez, hI5⟩ => ?_
    subst eΓ
    subst ez
    have r4' : ER c.U (fun a => (c.M a ∨ a ∈ as) ∨ a = Dl) H3 σ4 Γ5 := r4
    have noD : ¬ Ow σ4 Γ5 Dl := fun z => (r4'.own_ne z).1 (.inr rfl)
    have noA : ∀ a ∈ as, ¬ Ow σ4 Γ5 a := fun a ha z => (r4'.own_ne z).1 (.inl (.inr ha))
    have keep : ∀ a o, ¬ c.U.T a → ¬ Ow (wipe σ vs) (unset vs Γ1) a → H2 a = some o → H5 a = some o := fun a o t n e => st5.fr a o t (fun z => by
      rcases s4.og a z with z | z
      · exact n z
      · rw [gr a o e] at z; cases z) (gr a o e)
    have atD : H5 Dl = some (.lst (as.map V.ref)) := st5.fr Dl _ npD noD (gr _ _ md.dl)
    have hp2 : H2 p = none := by
      cases q : H2 p with
      | none => rfl
      | some o2 => rw [gr p o2 q] at hp; cases hp
    have pD : p ≠ Dl := fun z => by rw [z, md.dl] at hp2; cases hp2
    have pA : p ∉ as := fun z => by
      obtain ⟨n2, e2⟩ := md.ls.has z
      rw [e2] at hp2
      cases hp2
    have hp1 : H1 p = none := by
      cases q : H1 p with
      | none => rfl
      | some o1 =>
        by_cases t : c.U.T p
        · exact absurd hp2 (md.er.kn p (.inl (.inl (er.tm p t))))
        · by_cases ow : Ow σ Γ1 p
          · obtain ⟨j, sj, h1, h2, h3⟩ := ow
            have hj : j ∉ vs := fun z => by rw [calm j z sj h1] at h2; cases h2
            have ow2 : Ow (wipe σ vs) (unset vs Γ1) p := ⟨j, sj, by rw [unset_off hj]; exact h1, h2, by rw [wipe_off hj]; exact h3⟩
            exact absurd hp2 (md.er.own_ne ow2).2
          · rw [md.pres p o1 t ow q] at hp2
            cases hp2
    have eo : o = .lst (ns.map V.int) := by
      cases ob with
      | lst r => rw [r.ints_]
    subst eo
    refine ⟨as.map V.ref, atD, ?_, as ++ [p], nss ++ [ns], ⟨fun a o t n e => ?_, ?_, by rw [upd_same, List.map_append]; rfl, fun a ha => ?_, ?_⟩, by rw [List.length_append, al]; rfl, hI5⟩
    · rw [List.length_map, md.ls.len, al]
      exact Nat.lt_of_lt_of_le (show i < 1000001 by omega) (by decide)
    · rw [upd_ne (ne_of_none e hD)]
      exact keep a o t (fun z => n (ow_unset z)) (md.pres a o t n e)
    · have e6 : (fun a => (c.M a ∨ a ∈ as ++ [p]) ∨ a = Dl) = fun a => ((c.M a ∨ a ∈ as) ∨ a = Dl) ∨ a = p := by
        funext a
        simp only [List.mem_append, List.mem_singleton, eq_iff_iff]
        constructor
        · rintro ((h | h | h) | h)
          · exact .inl (.inl (.inl h))
          · exact .inl (.inl (.inr h))
          · exact .inr h
          · exact .inl (.inr h)
        · rintro (((h | h) | h) | h)
          · exact .inl (.inl h)
          · exact .inl (.inr (.inl h))
          · exact .inr h
          · exact .inl (.inr (.inr h))
      have e7 : ER c.U (fun a => (c.M a ∨ a ∈ as ++ [p]) ∨ a = Dl) H5 σ4 Γ5 := by rw [e6]; exact er5
      have z := e7.unset vs
      rw [u4, e4] at z
      exact z.apartMut npD
    · rcases List.mem_append.mp ha with ha | ha
      · exact md.fr a ha
      · rw [List.mem_singleton.mp ha]; exact ⟨hp1, pD⟩
    · refine Lists.snoc ?_ pA (by rw [upd_ne pD]; exact e5)
      exact md.ls.to fun a ha o e => by
        rw [upd_ne (md.fr a ha).2]
        exact st5.fr a o (npA a ha) (noA a ha) (gr a o e)
  · have e : i = xs.length := by omega
    subst e
    exact .inl ⟨src.stop _ _ _ H2 hM st.m md.er, hd _ _ _ md hI⟩
end
end U
/-! W31: x, y = [new list of ints for ..], []; while some own in x isn't empty: each own's items taken out to y. -/
namespace U
open PySem PySem.Spec PyProof.Rows L2
section
variable {c : Co} {k : Nat} {Γ : Ga} {pos : Pos}
theorem ev_lcN {P : List (List Int) → Ga → Prop} {elt tg iter : Expr} {scope : Scope} (own : List (Str × Nat)) (bd : Bd c k) (ok : BlkOk c.X.N c.X.env.scope scope own)
    (h : Iv c tg iter Γ fun xs Γ1 => ∃ I : Nat → List (List Int) → Prop, I 0 [] ∧ xs.length ≤ 1000000 ∧ (∀ m ∈ own.map (·.2), ∀ s, Γ1[m]? = some s → s.mine = false) ∧
      (∀ i x acc, xs[i]? = some x → I i acc → acc.length = i → ∀ (Dl : Addr) (M : Ex) (s : Shared) (H : Hw) (C : Addr) (cl : List (Str × Addr)) (fp : List Addr), Gw ((c.mw M).inner s H scope C cl fp Dl) (own.map (·.2)) tg (unset (own.map (·.2)) Γ1) x fun Γ2 =>
          ∀ (s : Shared) (H : Hw) (C : Addr) (cl : List (Str × Addr)) (fp : List Addr), Nv ((c.mw M).inner s H scope C cl fp Dl) elt Γ2 fun y Γ4 => Γ4 = Γ2 ∧ ∃ ns : List Int, y = .own (ns.map D.int) ∧ I (i + 1) (acc ++ [ns])) ∧
      ∀ nss, I xs.length nss → P nss Γ1)
    (hs : ∀ x, foldedSetIterable iter c.X.env x = pure x := by intro _; rfl) : ∀ (σ : Sw) (H : Hw), ER c.U c.M H σ Γ → ∀ (Q : VK) (W : WX), Takes c.X W → XW c σ Γ H W →
      (∀ (Dl : Addr) (as : List Addr) (nss : List (List Int)) (Γ1 : Ga) (H2 : Hw), Go c σ Γ H Γ1 H2 → H Dl = none → (∀ a ∈ as, H a = none ∧ a ≠ Dl) → H2 Dl = some (.lst (as.map V.ref)) → Lists H2 as nss → P nss Γ1 → Q (.ref Dl) H2) → wpE c.X (.ListComp elt [⟨tg, iter, [], 0⟩] scope pos) σ H Q := fun σ H er Q W tk xw q => by
  refine outE (pe_lc (own := own) (g := wpGX c.X scope tg) (tt := wpFX c.X scope []) (te := wpEX c.X scope elt) bd.calm bd.nd selfI ok (fun s H C cl fp => ⟨fun pins s' σ H' v u Q I r h => (h s H C cl fp).run pins s' u I r⟩)
    (fun s H C cl fp => ⟨fun pins s' σ H' Q I h => selfF.run pins s' σ H' Q I (h s H C cl fp)⟩) (fun s H C cl fp => ⟨fun pins s' σ H' Q I h => (h s H C cl fp).run pins s' I⟩) hs) ?_
  refine h σ H er _ W tk xw fun J xs Γ1 H1 g src ⟨I, h0, hl, hm, ht, hd⟩ Dl hD => ?_
  refine lc_new g.er src hD h0 hl hm (fun i x acc hx hI al M s H C cl fp => ht i x acc hx hI al Dl M s H C cl fp) fun as nss H2 md hI => ?_
  have st : Step c.U σ Γ1 H1 σ Γ1 H2 := ⟨md.pres, fun a z => .inl z⟩
  have ge : Goes (Mx c.M σ Γ1) (Mx c.M σ Γ1) H1 H2 := st.goes g.er
  have down : ∀ a, Ow σ Γ1 a → Ow (wipe σ (own.map (·.2))) (unset (own.map (·.2)) Γ1) a := fun a ⟨i, s, h1, h2, h3⟩ => by
    by_cases hi : i ∈ own.map (·.2)
    · rw [hm i hi s h1] at h2
      cases h2
    · exact ⟨i, s, by rw [unset_off hi]; exact h1, h2, by rw [wipe_off hi]; exact h3⟩
  have gd : Goes (Mx (fun a => (c.M a ∨ a ∈ as) ∨ a = Dl) (wipe σ (own.map (·.2))) (unset (own.map (·.2)) Γ1)) (Mx c.M σ Γ1) H2 H2 := ⟨fun a o m e => ⟨e, fun z => m (z.elim (fun y => .inl (.inl (.inl y))) fun y => .inr (down a y))⟩⟩
  have er2 : ER c.U c.M H2 σ Γ1 := by
    refine ER.of g.er.tm (fun a m => md.er.kn a (.inl (.inl m))) md.er.j g.er.len (fun i d h => ?_) (fun i s h m => ?_) g.er.sep
    · obtain ⟨v, h1, h2⟩ := g.er.dat i d h
      exact ⟨v, h1, Rp.to ge _ _ h2⟩
    · have hi : i ∉ own.map (·.2) := fun z => by rw [hm i z s h] at m; cases m
      obtain ⟨a, o, h1, h2, h3, h4⟩ := md.er.ob (i := i) (s := s) (by rw [unset_off hi]; exact h) m
      rw [wipe_off hi] at h1
      exact ⟨a, o, h1, h2, fun z => h3 (.inl (.inl z)), h4.to gd⟩
  exact q Dl as nss Γ1 H2 (g.trans ⟨st, rfl, er2⟩) (gone g.er g.st g.sh hD) (fun a ha => ⟨gone g.er g.st g.sh (md.fr a ha).1, (md.fr a ha).2⟩) md.dl md.ls (hd nss hI)
end
/-! ### slots that tell nothing -/
section
variable {U : Vol} {M : Ex} {H : Hw} {σ : Sw} {Γ : Ga}
theorem ER.quiet (r : ER U M H σ Γ) {i : Nat} (h : Γ[i]? = some .un) (v : Option V) : ER U M H (σ.set i v) Γ ∧ ∀ a, Ow (σ.set i v) Γ a → Ow σ Γ a := by
  have ow : ∀ a, Ow (σ.set i v) Γ a → Ow σ Γ a := fun a ⟨j, s, h1, h2, h3⟩ => by
    by_cases e : j = i
    · rw [e, h] at h1
      cases h1
      cases h2
    · exact ⟨j, s, h1, h2, by rw [set_off e] at h3; exact h3⟩
  have g : Goes (Mx M σ Γ) (Mx M (σ.set i v) Γ) H H := ⟨fun a o m e => ⟨e, fun z => m (z.imp id (ow a))⟩⟩
  refine ⟨ER.of r.tm r.kn r.j (by rw [List.length_set, r.len]) (fun j d e => ?_) (fun j s e m => ?_) (fun j k s t a h1 h2 m1 m2 h3 h4 => ?_), ow⟩
  · have ne : j ≠ i := fun z => by rw [z, h] at e; cases e
    obtain ⟨w, q1, q2⟩ := r.dat j d e
    exact ⟨w, (set_off ne).trans q1, Rp.to g _ _ q2⟩
  · have ne : j ≠ i := fun z => by rw [z, h] at e; cases e; cases m
    obtain ⟨a, o, q1, q2, q3, q4⟩ := r.ob e m
    exact ⟨a, o, (set_off ne).trans q1, q2, q3, q4.to g⟩
  · have n1 : j ≠ i := fun z => by rw [z, h] at h1; cases h1; cases m1
    have n2 : k ≠ i := fun z => by rw [z, h] at h2; cases h2; cases m2
    rw [set_off n1] at h3
    rw [set_off n2] at h4
    exact r.sep j k s t a h1 h2 m1 m2 h3 h4
theorem ER.hush (r : ER U M H σ Γ) {i : Nat} (h : ∀ s, Γ[i]? = some s → s.mine = false) : ER U M H σ (Γ.set i .un) ∧ ∀ a, Ow σ (Γ.set i .un) a ↔ Ow σ Γ a := by
  have ow : ∀ a, Ow σ (Γ.set i .un) a ↔ Ow σ Γ a := fun a => by
    constructor
    · rintro ⟨j, s, h1, h2, h3⟩
      rcases at_set h1 with ⟨e, e2, _⟩ | ⟨e, h1⟩
      · rw [e2] at h2; cases h2
      · exact ⟨j, s, h1, h2, h3⟩
    · rintro ⟨j, s, h1, h2, h3⟩
      have ne : j ≠ i := fun z => by rw [z] at h1; rw [h s h1] at h2; cases h2
      exact ⟨j, s, by rw [set_off ne]; exact h1, h2, h3⟩
  have g : Goes (Mx M σ Γ) (Mx M σ (Γ.set i .un)) H H := ⟨fun a o m e => ⟨e, fun z => m (z.imp id (ow a).mp)⟩⟩
  refine ⟨ER.of r.tm r.kn r.j (by rw [List.length_set, r.len]) (fun j d e => ?_) (fun j s e m => ?_) (fun j k s t a h1 h2 m1 m2 h3 h4 => ?_), ow⟩
  · rcases at_set e with ⟨_, e2, _⟩ | ⟨_, e⟩
    · cases e2
    · obtain ⟨w, q1, q2⟩ := r.dat j d e
      exact ⟨w, q1, Rp.to g _ _ q2⟩
  · rcases at_set e with ⟨_, e2, _⟩ | ⟨_, e⟩
    · rw [e2] at m; cases m
    · obtain ⟨a, o, q1, q2, q3, q4⟩ := r.ob e m
      exact ⟨a, o, q1, q2, q3, q4.to g⟩
  · rcases at_set h1 with ⟨_, e2, _⟩ | ⟨_, h1⟩
    · rw [e2] at m1; cases m1
    · rcases at_set h2 with ⟨_, e2, _⟩ | ⟨_, h2⟩
      · rw [e2] at m2; cases m2
      · exact r.sep j k s t a h1 h2 m1 m2 h3 h4
theorem ER.tell (r : ER U M H σ Γ) {i : Nat} (h : Γ[i]? = some .un) {v : V} {d : D} (hv : σ[i]? = some (some v)) (p : Rp (Mx M σ Γ) H v d) : ER U M H σ (Γ.set i (.dat d)) ∧ ∀ a, Ow σ (Γ.set i (.dat d)) a ↔ Ow σ Γ a := by
  have hi := (List.getElem?_eq_some_iff.mp h).1
  have e : σ.set i (some v) = σ := by
    refine List.ext_getElem? fun j => ?_
    by_cases q : j = i
    · rw [q, set_at (by rw [r.len]; exact hi), hv]
    · rw [set_off q]
  have z := r.set i p hi
  rw [e] at z
  refine ⟨z, fun a => ?_⟩
  constructor
  · rintro ⟨j, s, h1, h2, h3⟩
    rcases at_set h1 with ⟨e, e2, _⟩ | ⟨e, h1⟩
    · rw [e2] at h2; cases h2
    · exact ⟨j, s, h1, h2, h3⟩
  · rintro ⟨j, s, h1, h2, h3⟩
    have ne : j ≠ i := fun z => by rw [z, h] at h1; cases h1; cases h2
    exact ⟨j, s, by rw [set_off ne]; exact h1, h2, h3⟩
end
end U
/-! W32: while some own in x isn't empty: each own's items taken out, half of them at a time. -/
namespace U
open PySem PySem.Spec PyProof.Rows L2
def listsD (nss : List (List Int)) : List D := nss.map fun ns => .lst (ns.map D.int)
def Calm (Γ : Ga) : Prop := ∀ (i : Nat) (s : Sl), Γ[i]? = some s → s.mine = false
theorem Calm.ow {σ : Sw} {Γ : Ga} (h : Calm Γ) {a : Addr} : ¬ Ow σ Γ a := fun ⟨i, s, h1, h2, _⟩ => by rw [h i s h1] at h2; cases h2
theorem Calm.set {Γ : Ga} (h : Calm Γ) (i : Nat) (d : D) : Calm (Γ.set i (.dat d)) := fun j s e => by
  rcases at_set e with ⟨_, e2, _⟩ | ⟨_, e⟩
  · rw [e2]; rfl
  · exact h j s e
theorem Lists.rpa {M : Ex} {H : Hw} : ∀ {as : List Addr} {nss : List (List Int)}, as.length = nss.length → (∀ (i : Nat) (a : Addr) (ns : List Int), as[i]? = some a → nss[i]? = some ns → H a = some (.lst (ns.map V.int))) → (∀ a ∈ as, ¬ M a) → RpA M H (as.map V.ref) (listsD nss)
  | [], [], _, _, _ => .nil
  | [], _ :: _, h, _, _ => by simp at h
  | _ :: _, [], h, _, _ => by simp at h
  | a :: as, ns :: nss, h, h2, h3 => by
    refine .cons (.lst (h2 0 a ns rfl rfl) (h3 a List.mem_cons_self) (RpA.ints _)) (Lists.rpa (by simpa using h) (fun i a ns e1 e2 => h2 (i + 1) a ns e1 e2) fun a ha => h3 a (List.mem_cons_of_mem _ ha))
structure Spr (c : Co) (σ0 : Sw) (H0 : Hw) (iR iC iO : Nat) (T : Nat) (ok : Int → Nat) (as : List Addr) (r : Addr) (σ : Sw) (H : Hw) (nss : List (List Int)) (cc : Addr) (ms : List Int) : Prop where
  keep : ∀ a o, ¬ c.U.T a → H0 a = some o → H a = some o
  j : c.U.J H
  ln : σ.length = σ0.length
  sl : ∀ i, i ≠ iR → i ≠ iC → i ≠ iO → σ[i]? = σ0[i]?
  sr : σ[iR]? = some (some (.ref r))
  sc : σ[iC]? = some (some (.ref cc))
  hr : H r = some (.lst (as.map V.ref))
  hc : H cc = some (.lst (ms.map V.int))
  ls : Lists H as nss
  fa : ∀ a ∈ as, H0 a = none
  fr : H0 r = none
  fc : H0 cc = none
  nr : r ∉ as
  nc : cc ∉ as
  ncr : cc ≠ r
  cnt : ∀ v, ms.count v + (nss.map (List.count v)).sum = ok v
  tot : ms.length + (nss.map List.length).sum = T
section
variable {c : Co} {k : Nat} {Γ0 Γu : Ga} {σ0 σ : Sw} {H0 H H' : Hw} {iR iC iO iA T : Nat} {ok : Int → Nat} {as : List Addr} {r cc : Addr} {nss : List (List Int)} {ms : List Int}
theorem Spr.er (s : Spr c σ0 H0 iR iC iO T ok as r σ H nss cc ms) (er0 : ER c.U c.M H0 σ0 Γu) (cm : Calm Γu) (uR : Γu[iR]? = some .un) (uC : Γu[iC]? = some .un) (uO : Γu[iO]? = some .un) : ER c.U c.M H σ Γu := by
  refine ER.of er0.tm (fun a m => ?_) s.j (by rw [s.ln, er0.len]) (fun i d e => ?_) (fun i t e m => by rw [cm i t e] at m; cases m) (fun i j t t' a h1 _ m1 => by rw [cm i t h1] at m1; cases m1)
  · by_cases t : c.U.T a
    · exact c.U.known s.j t
    · obtain ⟨o, e⟩ := Option.ne_none_iff_exists'.mp (er0.kn a m)
      rw [s.keep a o t e]
      simp
  · obtain ⟨v, h1, h2⟩ := er0.dat i d e
    refine ⟨v, (s.sl i ?_ ?_ ?_).trans h1, Rp.to ⟨fun a o m e => ⟨s.keep a o (fun t => m (.inl (er0.tm a t))) e, fun z => m (z.elim .inl fun y => absurd y cm.ow)⟩⟩ _ _ h2⟩
    · intro z; rw [z, uR] at e; cases e
    · intro z; rw [z, uC] at e; cases e
    · intro z; rw [z, uO] at e; cases e
theorem new_notM (er0 : ER c.U c.M H0 σ0 Γu) {a : Addr} (h : H0 a = none) : ¬ c.M a ∧ ¬ c.U.T a := ⟨fun m => er0.kn a m h, fun t => er0.kn a (er0.tm a t) h⟩
theorem Spr.on (s : Spr c σ0 H0 iR iC iO T ok as r σ H nss cc ms) (er0 : ER c.U c.M H0 σ0 Γu) (h : ∀ a o, ¬ c.U.T a → H a = some o → H' a = some o) (j : c.U.J H') : Spr c σ0 H0 iR iC iO T ok as r σ H' nss cc ms :=
  { s with
    keep := fun a o t e => h a o t (s.keep a o t e)
    j := j
    hr := h r _ (new_notM er0 s.fr).2 s.hr
    hc := h cc _ (new_notM er0 s.fc).2 s.hc
    ls := s.ls.to fun a ha o e => h a o (new_notM er0 (s.fa a ha)).2 e }
theorem Spr.set (s : Spr c σ0 H0 iR iC iO T ok as r σ H nss cc ms) (n1 : iO ≠ iR) (n2 : iO ≠ iC) (v : Option V) : Spr c σ0 H0 iR iC iO T ok as r (σ.set iO v) H nss cc ms :=
  { s with
    ln := by rw [List.length_set, s.ln]
    sl := fun i h1 h2 h3 => by rw [set_off h3, s.sl i h1 h2 h3]
    sr := by rw [set_off fun z => n1 z.symm, s.sr]
    sc := by rw [set_off fun z => n2 z.symm, s.sc] }
theorem sum_set : ∀ {nss : List (List Int)} {i : Nat} {ns ns' : List Int}, nss[i]? = some ns → ((nss.set i ns').map List.length).sum + ns.length = (nss.map List.length).sum + ns'.length
  | [], i, ns, ns', h => by simp at h
  | m :: nss, 0, ns, ns', h => by
    rw [List.getElem?_cons_zero] at h
    injection h with h
    rw [List.set_cons_zero, List.map_cons, List.map_cons, List.sum_cons, List.sum_cons, h]
    omega
  | m :: nss, i + 1, ns, ns', h => by
    have := sum_set (nss := nss) (i := i) (ns' := ns') h
    rw [List.set_cons_succ, List.map_cons, List.map_cons, List.sum_cons, List.sum_cons]
    omega
theorem sumc_set {v : Int} : ∀ {nss : List (List Int)} {i : Nat} {ns ns' : List Int}, nss[i]? = some ns → ((nss.set i ns').map (List.count v)).sum + ns.count v = (nss.map (List.count v)).sum + ns'.count v
  | [], i, ns, ns', h => by simp at h
  | m :: nss, 0, ns, ns', h => by
    rw [List.getElem?_cons_zero] at h
    injection h with h
    rw [List.set_cons_zero, List.map_cons, List.map_cons, List.sum_cons, List.sum_cons, h]
    omega
  | m :: nss, i + 1, ns, ns', h => by
    have := sumc_set (v := v) (nss := nss) (i := i) (ns' := ns') h
    rw [List.set_cons_succ, List.map_cons, List.map_cons, List.sum_cons, List.sum_cons]
    omega
/-- one own's turn -/
theorem spread_step {wA : WL} {arg : Expr} {scope2 : Scope} {c1 c2 c3 c4 a1 r1 r2 p1 ap cp pe : Pos} {W : WX} {Dd : Ends} {own cells again : Str} (bd : Bd c k) (er0 : ER c.U c.M H0 σ0 Γu) (cm : Calm Γu) (uR : Γu[iR]? = some .un) (uC : Γu[iC]? = some .un) (uO : Γu[iO]? = some .un)
    (nOR : iO ≠ iR) (nOC : iO ≠ iC) (nRC : iR ≠ iC) (nOA : iO ≠ iA) (tk : Takes c.X W) (xw : XW c σ0 Γ0 H0 W) (hT : T ≤ 100000)
    (hA : SA c [arg] wA) (hAw : ∀ (ns : List Int) (P : List D → Ga → Prop), ns.length ≤ T → P [.int (((ns.length : Int) + 1) / 2)] (Γu.set iO (.dat (.lst (ns.map D.int)))) → wA (Γu.set iO (.dat (.lst (ns.map D.int)))) P)
    (hNC : c.X.N[iC]? = some cells) (hVC : Vis c.X.env.scope cells) (hLC : Loc c.X.env.scope cells) (hfC : c.X.fn cells = true ∨ c.X.env.scope.names.lookup cells = some .local)
    (hNO : c.X.N[iO]? = some own) (hNA : c.X.N[iA]? = some again)
    (hdC : (cells == ("__debug__" : Str)) = false) (hcC : (cells == ("__classdict__" : Str)) = false) (hdO : (own == ("__debug__" : Str)) = false) (hcO : (own == ("__classdict__" : Str)) = false)
    (hgr : Gl c.X "range") (hmr : c.X.mg "range" = none) (hsr : starEach [arg] c.X.env = [(false, eval arg c.X.env)])
    (ok2 : BlkOk c.X.N c.X.env.scope scope2 [(again, iA)])
    (hV2 : ∀ (s : Shared) (H : Hw) (C : Addr) (cl : List (Str × Addr)) (fp : List Addr), Vis (c.X.blk s H scope2 (compEnvC scope2 cl C c.X.env) fp).env.scope own)
    (hL2 : ∀ (s : Shared) (H : Hw) (C : Addr) (cl : List (Str × Addr)) (fp : List Addr), Loc (c.X.blk s H scope2 (compEnvC scope2 cl C c.X.env) fp).env.scope again)
    (hf2 : ∀ (s : Shared) (H : Hw) (C : Addr) (cl : List (Str × Addr)) (fp : List Addr), (c.X.blk s H scope2 (compEnvC scope2 cl C c.X.env) fp).fn again = true ∨ (c.X.blk s H scope2 (compEnvC scope2 cl C c.X.env) fp).env.scope.names.lookup again = some .local)
    (hsw : swapsWith (.BinOp (.Name cells c2) .Add (.ListComp (.Call (.Attribute (.Name own p1) "pop" ap) [] [] cp) [⟨.Name again a1, .Call (.Name "range" r1) [arg] [] r2, [], 0⟩] scope2 pe) c3) (some (.Name cells c1)) c4.line c.X.env = pure false)
    (hfs : ∀ x, foldedSetIterable (.Call (.Name "range" r1) [arg] [] r2) c.X.env x = pure x) (hlin : (ap.endLine == cp.line) = true)
    {i : Nat} {a : Addr} {ns : List Int} (sp : Spr c σ0 H0 iR iC iO T ok as r σ H nss cc ms) (ha : as[i]? = some a) (hns : nss[i]? = some ns) (sO : σ[iO]? = some (some (.ref a)))
    (hD : ∀ σ' H' cc' ms', Spr c σ0 H0 iR iC iO T ok as r σ' H' (nss.set i (ns.take (ns.length - (ns.length + 1) / 2))) cc' ms' → Dd.nx σ' H') :
    wpB c.X [.Assign [.Name cells c1] (.BinOp (.Name cells c2) .Add (.ListComp (.Call (.Attribute (.Name own p1) "pop" ap) [] [] cp) [⟨.Name again a1, .Call (.Name "range" r1) [arg] [] r2, [], 0⟩] scope2 pe) c3) c4] Dd σ H := by
  refine outB (pss_one (ps_set bd.nd hNC hLC (pe_op op_cat (pv iC hNC hVC hdC hcC) (pe_lc (own := [(again, iA)]) (g := gName iA) (tt := tYes) (te := tBM0 c.X.K "list" rPop (tVar iO)) bd.calm bd.nd (pi_range1 hgr hmr selfA hsr) ok2 (fun s H C cl fp => pg_name (X := c.X.blk s H scope2 (compEnvC scope2 cl C c.X.env) fp) bd.nd hNA (hL2 s H C cl fp) (hf2 s H C cl fp)) (fun s H C cl fp => pts_nil)
    (fun s H C cl fp => pe_bm0 (X := c.X.blk s H scope2 (compEnvC scope2 cl C c.X.env) fp) PySem.F.plainAttrs_list PySem.F.slot_list_pop PySem.F.type_list_pop mt_pop (pv iO hNO (hV2 s H C cl fp) hdO hcO) rfl hlin) hfs)) hsw hfC)) ?_
  refine ⟨.ref cc, sp.sc, ?_⟩
  have ham := List.mem_of_getElem? ha
  have hnm := List.mem_of_getElem? hns
  have er1 := sp.er er0 cm uR uC uO
  have hH := sp.ls.at_ i a ns ha hns
  have nM := new_notM er0 (sp.fa a ham)
  have nMx : ¬ Mx c.M σ Γu a := fun z => z.elim nM.1 fun y => absurd y cm.ow
  obtain ⟨er2, _⟩ := er1.tell uO sO (.lst hH nMx (RpA.ints _))
  have cm2 := cm.set iO (.lst (ns.map D.int))
  have st0 : Step c.U σ0 Γ0 H0 σ (Γu.set iO (.dat (.lst (ns.map D.int)))) H := ⟨fun a o t _ e => sp.keep a o t e, fun a z => absurd z cm2.ow⟩
  have hlen : ns.length ≤ T := by
    have := sum_set (ns' := []) hns
    have t := sp.tot
    simp at this
    omega
  refine hA.run (hAw ns (fun ds Γ' => Γ' = Γu.set iO (.dat (.lst (ns.map D.int))) ∧ ds = [.int (((ns.length : Int) + 1) / 2)]) hlen ⟨rfl, rfl⟩) σ H er2 _ W tk (xw.on er2 st0) fun vs ds Γ' H1 g ra ⟨eΓ, eds⟩ => ?_
  subst eΓ
  subst eds
  cases ra with
  | cons ra rb =>
  cases rb
  cases ra
  have sp1 := sp.on er0 (fun a o t e => g.st.fr a o t cm2.ow e) g.er.j
  have hH1 := sp1.ls.at_ i a ns ha hns
  refine ⟨_, rfl, by omega, by omega, fun Dl hDl => ?_⟩
  have aD : a ≠ Dl := fun z => by rw [z, hDl] at hH1; cases hH1
  have eN : (((ns.length : Int) + 1) / 2).toNat = (ns.length + 1) / 2 := by omega
  rw [eN]
  generalize hn : (ns.length + 1) / 2 = n
  have hnL : n ≤ ns.length := by omega
  refine ⟨fun j m H2 => m = n - j ∧ j ≤ n ∧ ∃ ps : List Int, ps.length = j ∧ (∀ v, ps.count v + (ns.take (ns.length - j)).count v = ns.count v) ∧ H2 Dl = some (.lst (ps.map V.int)) ∧ H2 a = some (.lst ((ns.take (ns.length - j)).map V.int)) ∧ ∀ x o, x ≠ a → x ≠ Dl → H1 x = some o → H2 x = some o,
    ⟨n, by simp, Nat.zero_le _, [], rfl, fun v => by rw [Nat.sub_zero, List.take_length, List.count_nil, Nat.zero_add], upd_same, by rw [upd_ne aD, Nat.sub_zero, List.take_length]; exact hH1, fun x o _ h2 e => by rw [upd_ne h2]; exact e⟩, ?_⟩
  rintro j m H2 ⟨rfl, hj, ps, hpl, hps, hd2, ha2, hk2⟩
  by_cases hlt : j < n
  · refine .inr ⟨hlt, fun H3 => ∃ ps : List Int, ps.length = j + 1 ∧ (∀ v, ps.count v + (ns.take (ns.length - (j + 1))).count v = ns.count v) ∧ H3 Dl = some (.lst (ps.map V.int)) ∧ H3 a = some (.lst ((ns.take (ns.length - (j + 1))).map V.int)) ∧ ∀ x o, x ≠ a → x ≠ Dl → H1 x = some o → H3 x = some o, fun H3 z => ⟨n - (j + 1), by omega, rfl, hlt, z⟩, fun x H3 ⟨eH, ex⟩ => ?_⟩
    subst eH
    subst ex
    refine ⟨?_, ?_⟩
    · exact wipe_ext (by rw [List.length_set, wipe_length]) fun q hq => by
        have hq : q ≠ iA := by simpa using hq
        rw [set_off hq, wipe_off (by simpa using hq)]
    · simp only [tYes, eq_self, if_true]
      have sO2 : ((wipe σ [iA]).set iA (some (V.int (0 + (j : Int)))))[iO]? = some (some (.ref a)) := by
        rw [set_off nOA, wipe_off (by simpa using nOA)]
        exact sO
      have hlast : (ns.take (ns.length - j)).length = ns.length - j := by rw [List.length_take]; omega
      obtain ⟨m, hm⟩ : ∃ m, ns.length - j = m + 1 := ⟨ns.length - j - 1, by omega⟩
      have hmn : m < ns.length := by omega
      have et : ns.take (m + 1) = ns.take m ++ [ns[m]] := by rw [List.take_succ, List.getElem?_eq_getElem hmn]; rfl
      have hlm : (ns.take m).length = m := by rw [List.length_take]; omega
      rw [hm, et, List.map_append] at ha2
      refine ⟨.ref a, sO2, .inl ⟨rfl, _, sql_of ha2⟩, a, _, V.int ns[m], rfl, rfl, ha2, ?_, ?_⟩
      · have l1 : ((ns.take m).map V.int).length = m := by rw [List.length_map, hlm]
        have l2 : ((ns.take m).map V.int ++ [V.int ns[m]]).length - 1 = m := by rw [List.length_append, l1]; rfl
        show ((ns.take m).map V.int ++ [V.int ns[m]])[((ns.take m).map V.int ++ [V.int ns[m]]).length - 1]? = _
        rw [l2, List.getElem?_append_right (by rw [l1]; exact Nat.le_refl _), l1, Nat.sub_self]
        rfl
      · have hd3 : (upd H3 a (.lst ((ns.take m).map V.int ++ [V.int ns[m]]).dropLast)) Dl = some (.lst (ps.map V.int)) := by rw [upd_ne aD.symm]; exact hd2
        refine ⟨_, hd3, by rw [List.length_map]; exact Nat.lt_of_lt_of_le (show ps.length < 1000001 by omega) (by decide), ps ++ [ns[m]], by rw [List.length_append, hpl]; rfl, fun v => ?_, by rw [upd_same, List.map_append]; rfl, ?_, fun x o h1 h2 e => ?_⟩
        · have h := hps v
          have e3 : ns.length - (j + 1) = m := by omega
          rw [hm, et, List.count_append] at h
          rw [e3, List.count_append]
          omega
        · rw [upd_ne aD]
          have e3 : ns.length - (j + 1) = m := by omega
          rw [e3]
          show upd H3 a _ a = _
          rw [upd_same]
          show some (HO.lst ((ns.take m).map V.int ++ [V.int ns[m]]).dropLast) = _
          rw [List.dropLast_concat]
        · rw [upd_ne h2, upd_ne h1]
          exact hk2 x o h1 h2 e
  · have e : j = n := by omega
    subst e
    refine .inl ⟨Nat.le_refl _, ?_⟩
    have ccA : cc ≠ a := fun z => sp.nc (z ▸ ham)
    have ccD : cc ≠ Dl := fun z => by have := sp1.hc; rw [z, hDl] at this; cases this
    refine ⟨cc, Dl, _, _, rfl, rfl, hk2 cc _ ccA ccD sp1.hc, hd2, ?_, fun p hp => ?_⟩
    · have t := sp.tot
      rw [List.length_map, List.length_map]
      exact Nat.le_trans (show ms.length + ps.length ≤ 1000000 by omega) (by decide)
    · have pnew : ∀ x o, H2 x = some o → x ≠ p := fun x o e z => by rw [z, hp] at e; cases e
      have pa := pnew a _ ha2
      have up : ∀ x o, H2 x = some o → (upd H2 p (.lst (ms.map V.int ++ ps.map V.int))) x = some o := fun x o e => by rw [upd_ne (pnew x o e)]; exact e
      have toH : ∀ x o, x ≠ a → H1 x = some o → (upd H2 p (.lst (ms.map V.int ++ ps.map V.int))) x = some o := fun x o h1 e => up x o (hk2 x o h1 (fun z => by rw [z, hDl] at e; cases e) e)
      have h0p : H0 p = none := by
        cases q : H0 p with
        | none => rfl
        | some o =>
          by_cases t : c.U.T p
          · have := c.U.known sp1.j t
            obtain ⟨o1, e1⟩ := Option.ne_none_iff_exists'.mp this
            have := hk2 p o1 (fun z => nM.2 (z ▸ t)) (fun z => by rw [z, hDl] at e1; cases e1) e1
            rw [hp] at this; cases this
          · have e1 := sp1.keep p o t q
            have pA : p ≠ a := fun z => by rw [z, sp.fa a ham] at q; cases q
            have := hk2 p o pA (fun z => by rw [z, hDl] at e1; cases e1) e1
            rw [hp] at this; cases this
      have pas : p ∉ as := fun z => by
        obtain ⟨n2, e2⟩ := sp1.ls.has z
        by_cases q : p = a
        · exact pa q.symm
        · have := toH p _ q e2
          have h3 := hk2 p _ q (fun z => by rw [z, hDl] at e2; cases e2) e2
          rw [hp] at h3; cases h3
      have rA : r ≠ a := fun z => sp.nr (z ▸ ham)
      refine hD _ _ p (ms ++ ps) ⟨fun x o t e => ?_, ?_, by rw [List.length_set, sp.ln], fun q h1 h2 h3 => by rw [set_off h2, sp.sl q h1 h2 h3], by rw [set_off nRC, sp.sr], ?_, toH r _ rA sp1.hr, by rw [upd_same, List.map_append], ⟨?_, sp.ls.nd, fun q b bs h1 h2 => ?_⟩, sp.fa, sp.fr, h0p, sp.nr, pas, ?_, ?_, ?_⟩
      · refine toH x o (fun z => ?_) (sp1.keep x o t e)
        rw [z, sp.fa a ham] at e; cases e
      · refine c.U.keep sp1.j fun x t => ?_
        obtain ⟨o, e⟩ := Option.ne_none_iff_exists'.mp (c.U.known sp1.j t)
        rw [e]
        exact toH x o (fun z => nM.2 (z ▸ t)) e
      · exact set_at (by rw [sp.ln, er0.len]; exact (List.getElem?_eq_some_iff.mp uC).1)
      · rw [List.length_set, sp.ls.len]
      · by_cases q2 : q = i
        · subst q2
          rw [ha] at h1
          injection h1 with h1
          subst h1
          rw [List.getElem?_set_self (List.getElem?_eq_some_iff.mp hns).1] at h2
          injection h2 with h2
          subst h2
          rw [hn]
          exact up a _ ha2
        · rw [List.getElem?_set_ne (Ne.symm q2)] at h2
          refine toH b _ (fun z => q2 ?_) (sp1.ls.at_ q b bs h1 h2)
          subst z
          have i1 := (List.getElem?_eq_some_iff.mp h1).1
          exact (List.getElem?_inj i1 sp.ls.nd).mp (h1.trans ha.symm)
      · exact fun z => (pnew r _ (hk2 r _ rA (fun y => by have := sp1.hr; rw [y, hDl] at this; cases this) sp1.hr)) z.symm
      · intro v
        have h1 := sp.cnt v
        have h2 := hps v
        have h3 := sumc_set (v := v) (ns' := ns.take (ns.length - (ns.length + 1) / 2)) hns
        rw [hn] at h3 ⊢
        rw [List.count_append]
        omega
      · have t := sp.tot
        have s2 := sum_set (ns' := ns.take (ns.length - (ns.length + 1) / 2)) hns
        rw [List.length_take] at s2
        rw [List.length_append, hpl]
        omega
end
end U
/-! W33: the two statements together. -/
namespace U
open PySem PySem.Spec PyProof.Rows L2
theorem calm_all {Γ : Ga} (h : Calm Γ) : ∀ vs : List Nat, calm vs Γ
  | [] => trivial
  | i :: vs => by
    have ih := calm_all h vs
    unfold calm
    refine ⟨?_, ih⟩
    cases e : Γ[i]? with
    | none => trivial
    | some s =>
      have := h i s e
      cases s with
      | un => trivial
      | dat d => trivial
      | own ds => cases this
      | ownD ds => cases this
def wTestS (iR iO : Nat) : WT := wtCmp oNeNil (wLcF [iO] (wiLst (wVar iR)) (wgName iO) (wtCmp oNeNil (wVar iO) (wLst waNil)) (wVar iO)) (wLst waNil)
def wArgS (iO : Nat) : WL := waCons (wOp oDiv (wOp oAdd (wOp1 oLen (wVarQ iO)) (wC (.int 1))) (wC (.int 2))) waNil
section
variable {c : Co} {k : Nat} {Γ : Ga} {a b : Expr} {pos : Pos} {wa wb : WE}
theorem st_neNilE (bd : Bd c k) (ha : SE c a wa) (hb : SQ c b wb) (hm : behindInMarks .NotEq b = false := by first | exact nomark _ | rfl) : ST c (.Compare a [.NotEq] [b] pos) (wtCmp oNeNil wa wb) :=
  ⟨fun w => tv_cmp (op_neNil (by have := bd.hr.units; omega)) (ev_mono (ha.run w) fun x Γ1 h => eq_mono (hb.run h) fun y Γ2 ⟨ds, e1, e2, hp⟩ => by
    subst e1 e2
    exact ⟨_, vo_neNil, hp⟩) hm⟩
theorem test_run {iR iO : Nat} {nss : List (List Int)} {P : Bool → Ga → Prop} (cm : Calm Γ) (hR : Γ[iR]? = some (.dat (.lst (listsD nss)))) (hO : iO < Γ.length) (hl : nss.length ≤ 1000000) (h : P (decide (∃ ns ∈ nss, ns ≠ [])) Γ) : wTestS iR iO Γ P := by
  unfold wTestS wtCmp wLcF wiLst wVar
  simp only [hR]
  refine ⟨by rw [listsD, List.length_map]; exact hl, calm_all cm _, fun j acc => (acc.isEmpty = true ↔ ∀ ns ∈ nss.take j, ns = []), by simp, ?_, ?_⟩
  · intro j x acc hx hI _
    unfold listsD at hx
    rw [List.getElem?_map] at hx
    obtain ⟨ns, hns, rfl⟩ := Option.map_eq_some_iff.mp hx
    have et : nss.take (j + 1) = nss.take j ++ [ns] := by rw [List.take_succ, hns]; rfl
    have hO2 : iO < (unset [iO] Γ).length := by rw [unset_len]; exact hO
    have at0 : ((unset [iO] Γ).set iO (.dat (.lst (ns.map D.int))))[iO]? = some (.dat (.lst (ns.map D.int))) := by rw [List.getElem?_set_self hO2]
    refine ⟨hO2, ?_⟩
    simp only [at0]
    refine ⟨by decide, _, rfl, rfl, rfl, fun hb => ⟨trivial, ?_⟩, fun hb => ?_⟩
    · have hne : ns ≠ [] := by intro z; subst z; cases hb
      rw [et]
      constructor
      · intro z; simp at z
      · intro z; exact absurd (z ns (by simp)) hne
    · have hne : ns = [] := by
        cases ns with
        | nil => rfl
        | cons n ns => cases hb
      rw [et, hne]
      constructor
      · intro z ns hns
        rcases List.mem_append.mp hns with h | h
        · exact hI.mp z ns h
        · exact List.mem_singleton.mp h
      · intro z
        exact hI.mpr fun ns hns => z ns (List.mem_append_left _ hns)
  · intro acc hI
    rw [listsD, List.length_map, List.take_length] at hI
    refine ⟨by decide, acc, rfl, rfl, ?_⟩
    have e : (!acc.isEmpty) = decide (∃ ns ∈ nss, ns ≠ []) := by
      cases q : acc.isEmpty with
      | true =>
        have z := hI.mp q
        symm
        exact decide_eq_false fun ⟨ns, h1, h2⟩ => h2 (z ns h1)
      | false =>
        symm
        refine decide_eq_true (Classical.byContradiction fun n => ?_)
        have : acc.isEmpty = true := hI.mpr fun ns hns => Classical.byContradiction fun y => n ⟨ns, hns, y⟩
        rw [q] at this
        cases this
    rw [e]
    exact h
theorem arg_run {iO : Nat} {ns : List Int} {P : List D → Ga → Prop} (hO : Γ[iO]? = some (.dat (.lst (ns.map D.int)))) (h : P [.int (((ns.length : Int) + 1) / 2)] Γ) : wArgS iO Γ P := by
  unfold wArgS waCons wOp wOp1 wVarQ waNil wC oDiv oAdd oLen
  simp only [hO]
  rw [List.length_map]
  exact ⟨by decide, by decide, h⟩
/-- what both statements ask of the slots, and what they leave -/
def wSpread (vs : List Nat) (i : WL) (g : WG) (e : WN) (iR iC iO : Nat) : WS := fun Γ R => i Γ fun xs Γ1 => Γ1 = Γ ∧ xs.length ≤ 1000000 ∧ Calm Γ1 ∧ iR < Γ1.length ∧ iC < Γ1.length ∧ iO < Γ1.length ∧ ∃ I : Nat → List (List Int) → Prop, I 0 [] ∧
  (∀ i x acc, xs[i]? = some x → I i acc → acc.length = i → g (unset vs Γ1) x fun Γ2 => e Γ2 fun y Γ4 => Γ4 = Γ2 ∧ ∃ ns : List Int, y = .own (ns.map D.int) ∧ I (i + 1) (acc ++ [ns])) ∧
  ∀ nss, I xs.length nss → nss.length ≤ 1000 ∧ (nss.map List.length).sum ≤ 100000 ∧ ∀ ms : List Int, ms.Perm nss.flatten → R.nx ((((Γ1.set iR .un).set iC .un).set iO .un).set iC (.dat (.lst (ms.map D.int))))
end
section
variable {c : Co} {k : Nat} {Γ0 Γu : Ga} {σ0 σ : Sw} {H0 H H' : Hw} {iR iC iO iA T : Nat} {ok : Int → Nat} {as : List Addr} {r cc : Addr} {nss : List (List Int)} {ms : List Int}
/-- while some own isn't empty -/
theorem spread_while {test arg : Expr} {scope2 : Scope} {c1 c2 c3 c4 a1 r1 r2 p1 ap cp pe o1 o2 pf pw : Pos} {W : WX} {Dd : Ends} {own cells again rest : Str} (bd : Bd c k) (er0 : ER c.U c.M H0 σ0 Γu) (cm : Calm Γu) (uR : Γu[iR]? = some .un) (uC : Γu[iC]? = some .un) (uO : Γu[iO]? = some .un)
    (nOR : iO ≠ iR) (nOC : iO ≠ iC) (nRC : iR ≠ iC) (nOA : iO ≠ iA) (tk : Takes c.X W) (xw : XW c σ0 Γ0 H0 W) (hT : T ≤ 100000) (hnl : nss.length ≤ 1000)
    (hTs : ST c test (wTestS iR iO)) (hA : SA c [arg] (wArgS iO))
    (hNR : c.X.N[iR]? = some rest) (hVR : Vis c.X.env.scope rest) (hdR : (rest == ("__debug__" : Str)) = false) (hcR : (rest == ("__classdict__" : Str)) = false)
    (hNC : c.X.N[iC]? = some cells) (hVC : Vis c.X.env.scope cells) (hLC : Loc c.X.env.scope cells) (hfC : c.X.fn cells = true ∨ c.X.env.scope.names.lookup cells = some .local)
    (hNO : c.X.N[iO]? = some own) (hLO : Loc c.X.env.scope own) (hfO : c.X.fn own = true ∨ c.X.env.scope.names.lookup own = some .local) (hNA : c.X.N[iA]? = some again)
    (hdC : (cells == ("__debug__" : Str)) = false) (hcC : (cells == ("__classdict__" : Str)) = false) (hdO : (own == ("__debug__" : Str)) = false) (hcO : (own == ("__classdict__" : Str)) = false)
    (hgr : Gl c.X "range") (hmr : c.X.mg "range" = none) (hsr : starEach [arg] c.X.env = [(false, eval arg c.X.env)])
    (ok2 : BlkOk c.X.N c.X.env.scope scope2 [(again, iA)])
    (hV2 : ∀ (s : Shared) (H : Hw) (C : Addr) (cl : List (Str × Addr)) (fp : List Addr), Vis (c.X.blk s H scope2 (compEnvC scope2 cl C c.X.env) fp).env.scope own)
    (hL2 : ∀ (s : Shared) (H : Hw) (C : Addr) (cl : List (Str × Addr)) (fp : List Addr), Loc (c.X.blk s H scope2 (compEnvC scope2 cl C c.X.env) fp).env.scope again)
    (hf2 : ∀ (s : Shared) (H : Hw) (C : Addr) (cl : List (Str × Addr)) (fp : List Addr), (c.X.blk s H scope2 (compEnvC scope2 cl C c.X.env) fp).fn again = true ∨ (c.X.blk s H scope2 (compEnvC scope2 cl C c.X.env) fp).env.scope.names.lookup again = some .local)
    (hsw : swapsWith (.BinOp (.Name cells c2) .Add (.ListComp (.Call (.Attribute (.Name own p1) "pop" ap) [] [] cp) [⟨.Name again a1, .Call (.Name "range" r1) [arg] [] r2, [], 0⟩] scope2 pe) c3) (some (.Name cells c1)) c4.line c.X.env = pure false)
    (hfs : ∀ x, foldedSetIterable (.Call (.Name "range" r1) [arg] [] r2) c.X.env x = pure x) (hfr : ∀ x, foldedSetIterable (.Name rest o2) c.X.env x = pure x) (hlin : (ap.endLine == cp.line) = true)
    (sp : Spr c σ0 H0 iR iC iO T ok as r σ H nss cc ms)
    (hD : ∀ σ' H' nss' cc' ms', Spr c σ0 H0 iR iC iO T ok as r σ' H' nss' cc' ms' → (∀ ns ∈ nss', ns = []) → Dd.nx σ' H') :
    wpS c.X (.While test [.For (.Name own o1) (.Name rest o2) [.Assign [.Name cells c1] (.BinOp (.Name cells c2) .Add (.ListComp (.Call (.Attribute (.Name own p1) "pop" ap) [] [] cp) [⟨.Name again a1, .Call (.Name "range" r1) [arg] [] r2, [], 0⟩] scope2 pe) c3) c4] [] pf] [] pw) Dd σ H := by
  have hal : as.length ≤ 1000 := by rw [sp.ls.len]; exact hnl
  refine outS (ps_while bd.own selfT selfB) ⟨fun m σ1 H1 => ∃ nss cc ms, m = (nss.map List.length).sum ∧ Spr c σ0 H0 iR iC iO T ok as r σ1 H1 nss cc ms, ⟨_, nss, cc, ms, rfl, sp⟩, ?_⟩
  clear sp hnl
  rintro m σ1 H1 ⟨nss, cc, ms, rfl, sp⟩
  have er1 := sp.er er0 cm uR uC uO
  have notMx : ∀ {a}, H0 a = none → ¬ Mx c.M σ1 Γu a := fun h z => z.elim (new_notM er0 h).1 fun y => absurd y cm.ow
  have rp : Rp (Mx c.M σ1 Γu) H1 (.ref r) (.lst (listsD nss)) := .lst sp.hr (notMx sp.fr) (Lists.rpa sp.ls.len sp.ls.at_ fun a ha => notMx (sp.fa a ha))
  obtain ⟨er2, _⟩ := er1.tell uR sp.sr rp
  have cm2 := cm.set iR (.lst (listsD nss))
  have hiO : iO < (Γu.set iR (.dat (.lst (listsD nss)))).length := by rw [List.length_set]; exact (List.getElem?_eq_some_iff.mp uO).1
  have hiR := (List.getElem?_eq_some_iff.mp uR).1
  have st0 : Step c.U σ0 Γ0 H0 σ1 (Γu.set iR (.dat (.lst (listsD nss)))) H1 := ⟨fun a o t _ e => sp.keep a o t e, fun a z => absurd z cm2.ow⟩
  have hle : nss.length ≤ 1000000 := by
    have a1 := sp.ls.len
    omega
  refine hTs.run (test_run cm2 (List.getElem?_set_self hiR) hiO hle (P := fun b Γ' => b = decide (∃ ns ∈ nss, ns ≠ []) ∧ Γ' = Γu.set iR (.dat (.lst (listsD nss)))) ⟨rfl, rfl⟩) σ1 H1 er2 _ W tk (xw.on er2 st0) fun b Γ2 H2 g ⟨eb, e⟩ => ?_
  subst e
  have sp2 := sp.on er0 (fun a o t e => g.st.fr a o t cm2.ow e) g.er.j
  cases b with
  | false =>
    refine hD σ1 H2 nss cc ms sp2 fun ns hns => Classical.byContradiction fun n => ?_
    exact absurd (decide_eq_true (⟨ns, hns, n⟩ : ∃ ns ∈ nss, ns ≠ [])) (by rw [← eb]; decide)
  | true =>
    obtain ⟨n0, hn0, hn1⟩ := of_decide_eq_true eb.symm
    refine iteT ⟨fun σ3 H3 => ∃ m', m' < (nss.map List.length).sum ∧ ∃ nss' cc' ms', m' = (nss'.map List.length).sum ∧ Spr c σ0 H0 iR iC iO T ok as r σ3 H3 nss' cc' ms', fun σ3 H3 z => z, ?_⟩
    refine outB (pss_one (ps_for bd.own bd.calm (pi_list (pv iR hNR hVR hdR hcR)) (pg_name bd.nd hNO hLO hfO) selfB hfr)) ?_
    refine ⟨.ref r, sp2.sr, r, rfl, ⟨_, sql_of sp2.hr⟩, ?_⟩
    refine ⟨fun i m σ3 H3 => m = as.length - i ∧ i ≤ as.length ∧ ∃ nss' cc' ms', Spr c σ0 H0 iR iC iO T ok as r σ3 H3 nss' cc' ms' ∧ (∀ j, i ≤ j → nss'[j]? = nss[j]?) ∧ (nss'.map List.length).sum ≤ (nss.map List.length).sum ∧ ((∃ j, j < i ∧ ∃ ns, nss[j]? = some ns ∧ ns ≠ []) → (nss'.map List.length).sum < (nss.map List.length).sum),
      ⟨as.length, by simp, Nat.zero_le _, nss, cc, ms, sp2, fun _ _ => rfl, Nat.le_refl _, by rintro ⟨j, h, _⟩; omega⟩, ?_⟩
    rintro i m σ3 H3 ⟨rfl, hi, nss', cc', ms', sp3, hj, hle2, hlt⟩
    by_cases hl : i < as.length
    · have ha : as[i]? = some as[i] := List.getElem?_eq_getElem hl
      have hn : i < nss'.length := by rw [← sp3.ls.len]; exact hl
      have hns : nss'[i]? = some nss'[i] := List.getElem?_eq_getElem hn
      refine .inr ⟨⟨as.map V.ref, .ref as[i], sql_of sp3.hr, by rw [List.getElem?_map, ha]; rfl⟩, fun σ' H' => ∃ nss' cc' ms', Spr c σ0 H0 iR iC iO T ok as r σ' H' nss' cc' ms' ∧ (∀ j, i + 1 ≤ j → nss'[j]? = nss[j]?) ∧ (nss'.map List.length).sum ≤ (nss.map List.length).sum ∧ ((∃ j, j < i + 1 ∧ ∃ ns, nss[j]? = some ns ∧ ns ≠ []) → (nss'.map List.length).sum < (nss.map List.length).sum), fun σ' H' z => ⟨as.length - (i + 1), by omega, rfl, hl, z⟩, fun x H4 ⟨eH, hx⟩ => ?_⟩
      subst eH
      have ex : x = .ref as[i] := by
        have := hx _ (sql_of sp3.hr)
        rw [List.getElem?_map, ha] at this
        injection this with this
        exact this.symm
      subst ex
      have hiO2 : iO < σ3.length := by rw [sp3.ln, er0.len]; exact (List.getElem?_eq_some_iff.mp uO).1
      refine spread_step (Γ0 := Γ0) bd er0 cm uR uC uO nOR nOC nRC nOA tk xw hT hA (fun ns P _ hp => arg_run (List.getElem?_set_self (List.getElem?_eq_some_iff.mp uO).1) hp) hNC hVC hLC hfC hNO hNA hdC hcC hdO hcO hgr hmr hsr ok2 hV2 hL2 hf2 hsw hfs hlin (sp3.set nOR nOC (some (.ref as[i]))) ha hns (set_at hiO2) fun σ' H' cc2 ms2 sp4 => ⟨_, cc2, ms2, sp4, fun j h => ?_, ?_, ?_⟩
      · rw [List.getElem?_set_ne (by omega)]
        exact hj j (by omega)
      · have := sum_set (ns' := nss'[i].take (nss'[i].length - (nss'[i].length + 1) / 2)) hns
        rw [List.length_take] at this
        omega
      · rintro ⟨j, hji, ns, h1, h2⟩
        have s2 := sum_set (ns' := nss'[i].take (nss'[i].length - (nss'[i].length + 1) / 2)) hns
        rw [List.length_take] at s2
        by_cases q : j < i
        · have := hlt ⟨j, q, ns, h1, h2⟩
          omega
        · have e : j = i := by omega
          subst e
          have e2 := hj j (Nat.le_refl _)
          rw [h1, hns] at e2
          injection e2 with e2
          have : 0 < nss'[j].length := by rw [e2]; exact List.length_pos_iff.mpr h2
          omega
    · have e : i = as.length := by omega
      subst e
      refine .inl ⟨⟨_, sql_of sp3.hr, by rw [List.length_map]; exact Nat.le_refl _⟩, _, hlt ?_, nss', cc', ms', rfl, sp3⟩
      obtain ⟨j, hj2, ej⟩ := List.getElem_of_mem hn0
      exact ⟨j, by rw [sp.ls.len]; exact hj2, n0, by rw [List.getElem?_eq_getElem hj2, ej], hn1⟩
end
end U
/-! W34: x, y = [new list of ints for ..], []; while some own in x isn't empty: each own's items taken out to y: both statements. -/
namespace U
open PySem PySem.Spec PyProof.Rows L2
theorem ER.hush3 {U : Vol} {M : Ex} {H : Hw} {σ : Sw} {Γ : Ga} (r : ER U M H σ Γ) (cm : Calm Γ) (i j l : Nat) : ER U M H σ (((Γ.set i .un).set j .un).set l .un) ∧ Calm (((Γ.set i .un).set j .un).set l .un) := by
  have un : ∀ {Γ : Ga} (i : Nat), Calm Γ → Calm (Γ.set i .un) := fun {Γ} i h j s e => by
    rcases at_set e with ⟨_, e2, _⟩ | ⟨_, e⟩
    · rw [e2]; rfl
    · exact h j s e
  have c1 := un i cm
  have c2 := un j c1
  exact ⟨(((r.hush (i := i) fun s e => cm i s e).1.hush (i := j) fun s e => c1 j s e).1.hush (i := l) fun s e => c2 l s e).1, un l c2⟩
section
variable {c : Co} {k : Nat}
theorem sb_spread {tg1 iter1 elt1 test arg : Expr} {scope1 scope2 : Scope} {pr pc p1 ap cp pe pe1 lp c1 c2 c3 c4 a1 r1 r2 o1 o2 pf pw pt2 pt pos : Pos} {kt k2 : Nat} {own cells again rest : Str} {wi : WL} {wg : WG} {we : WN} (own1 : List (Str × Nat)) (iR iC iO iA : Nat) (bd : Bd c k)
    (ok1 : BlkOk c.X.N c.X.env.scope scope1 own1) (ok2 : BlkOk c.X.N c.X.env.scope scope2 [(again, iA)])
    (hne : iO ≠ iR ∧ iO ≠ iC ∧ iR ≠ iC ∧ iO ≠ iA)
    (hN : c.X.N[iR]? = some rest ∧ c.X.N[iC]? = some cells ∧ c.X.N[iO]? = some own ∧ c.X.N[iA]? = some again)
    (hloc : c.X.env.scope.names.lookup rest = some .local ∧ c.X.env.scope.names.lookup cells = some .local)
    (hVR : Vis c.X.env.scope rest) (hVC : Vis c.X.env.scope cells) (hLC : Loc c.X.env.scope cells) (hLO : Loc c.X.env.scope own) (hfO : c.X.fn own = true ∨ c.X.env.scope.names.lookup own = some .local)
    (hdb : ((rest == ("__debug__" : Str)) || (rest == ("__classdict__" : Str)) || (cells == ("__debug__" : Str)) || (cells == ("__classdict__" : Str)) || (own == ("__debug__" : Str)) || (own == ("__classdict__" : Str))) = false)
    (hgr : Gl c.X "range") (hmr : c.X.mg "range" = none)
    (hV2 : ∀ (s : Shared) (H : Hw) (C : Addr) (cl : List (Str × Addr)) (fp : List Addr), Vis (c.X.blk s H scope2 (compEnvC scope2 cl C c.X.env) fp).env.scope own)
    (hL2 : ∀ (s : Shared) (H : Hw) (C : Addr) (cl : List (Str × Addr)) (fp : List Addr), Loc (c.X.blk s H scope2 (compEnvC scope2 cl C c.X.env) fp).env.scope again)
    (hf2 : ∀ (s : Shared) (H : Hw) (C : Addr) (cl : List (Str × Addr)) (fp : List Addr), (c.X.blk s H scope2 (compEnvC scope2 cl C c.X.env) fp).fn again = true ∨ (c.X.blk s H scope2 (compEnvC scope2 cl C c.X.env) fp).env.scope.names.lookup again = some .local)
    (hi : SI c tg1 iter1 wi)
    (hg : ∀ (M : Ex) (Dl : Addr) (s : Shared) (H : Hw) (C : Addr) (cl : List (Str × Addr)) (fp : List Addr), Bd ((c.mw M).inner s H scope1 C cl fp Dl) k → SH ((c.mw M).inner s H scope1 C cl fp Dl) (own1.map (·.2)) tg1 wg)
    (he : ∀ (M : Ex) (Dl : Addr) (s : Shared) (H : Hw) (C : Addr) (cl : List (Str × Addr)) (fp : List Addr), Bd ((c.mw M).inner s H scope1 C cl fp Dl) k → SN ((c.mw M).inner s H scope1 C cl fp Dl) elt1 we)
    (hTs : ST c test (wTestS iR iO)) (hA : SA c [arg] (wArgS iO))
    (hw : swappedStores [.Tuple [.Name rest pr, .Name cells pc] kt pt] (.Tuple [.ListComp elt1 [⟨tg1, iter1, [], 0⟩] scope1 pe1, .List [] lp] k2 pt2) c.X.env = pure (some [rest, cells]) := by rfl)
    (hs : swapsWithSole [.Tuple [.Name rest pr, .Name cells pc] kt pt] (.Tuple [.ListComp elt1 [⟨tg1, iter1, [], 0⟩] scope1 pe1, .List [] lp] k2 pt2) pos.line c.X.env = pure false := by rfl)
    (hs2 : starEach [.ListComp elt1 [⟨tg1, iter1, [], 0⟩] scope1 pe1, .List [] lp] c.X.env = (false, eval (.ListComp elt1 [⟨tg1, iter1, [], 0⟩] scope1 pe1) c.X.env) :: starEach [.List [] lp] c.X.env := by rfl) (hs3 : starEach [.List [] lp] c.X.env = (false, eval (.List [] lp) c.X.env) :: starEach [] c.X.env := by rfl)
    (hsr : starEach [arg] c.X.env = [(false, eval arg c.X.env)] := by rfl)
    (hsw : swapsWith (.BinOp (.Name cells c2) .Add (.ListComp (.Call (.Attribute (.Name own p1) "pop" ap) [] [] cp) [⟨.Name again a1, .Call (.Name "range" r1) [arg] [] r2, [], 0⟩] scope2 pe) c3) (some (.Name cells c1)) c4.line c.X.env = pure false := by rfl)
    (hfs1 : ∀ x, foldedSetIterable iter1 c.X.env x = pure x := by intro _; rfl) (hfs : ∀ x, foldedSetIterable (.Call (.Name "range" r1) [arg] [] r2) c.X.env x = pure x := by intro _; rfl) (hfr : ∀ x, foldedSetIterable (.Name rest o2) c.X.env x = pure x := by intro _; rfl) (hlin : (ap.endLine == cp.line) = true := by rfl) :
    SB c [.Assign [.Tuple [.Name rest pr, .Name cells pc] kt pt] (.Tuple [.ListComp elt1 [⟨tg1, iter1, [], 0⟩] scope1 pe1, .List [] lp] k2 pt2) pos,
      .While test [.For (.Name own o1) (.Name rest o2) [.Assign [.Name cells c1] (.BinOp (.Name cells c2) .Add (.ListComp (.Call (.Attribute (.Name own p1) "pop" ap) [] [] cp) [⟨.Name again a1, .Call (.Name "range" r1) [arg] [] r2, [], 0⟩] scope2 pe) c3) c4] [] pf] [] pw] (wSpread (own1.map (·.2)) wi wg we iR iC iO) := by
  obtain ⟨nOR, nOC, nRC, nOA⟩ := hne
  obtain ⟨hNR, hNC, hNO, hNA⟩ := hN
  simp only [Bool.or_eq_false_iff] at hdb
  obtain ⟨⟨⟨⟨⟨d1, d2⟩, d3⟩, d4⟩, d5⟩, d6⟩ := hdb
  refine ⟨fun {Γ R} w => fun σ H er W Dd tk kk => ?_⟩
  refine outB (pss_cons (ps_par bd.calm bd.nd hNR hNC nRC hloc.1 hloc.2 (pa_cons selfE (pa_cons (pe_lst pa_nil) pa_nil hs3) hs2) hw hs) (pss_one selfS)) ?_
  refine ev_lcN (P := fun nss Γ1 => Γ1 = Γ ∧ Calm Γ ∧ iR < Γ.length ∧ iC < Γ.length ∧ iO < Γ.length ∧ nss.length ≤ 1000 ∧ (nss.map List.length).sum ≤ 100000 ∧ ∀ ms : List Int, ms.Perm nss.flatten → R.nx ((((Γ.set iR .un).set iC .un).set iO .un).set iC (.dat (.lst (ms.map D.int))))) own1 bd ok1 (iv_mono (hi.run w) fun xs Γ1 ⟨eΓ, hl, cm, l1, l2, l3, I, h0, h1, h2⟩ => ?_) hfs1 σ H er _ W tk kk.xw fun Dl as nss Γ1 H2 g hDl has hdl hls ⟨eΓ, cm, l1, l2, l3, hnl, hnT, hfin⟩ => ?_
  · subst eΓ
    exact ⟨I, h0, hl, fun m _ s e => cm m s e, fun i x acc hx hI al Dl M s H C cl fp => gw_mono ((hg M Dl s H C cl fp ((bd.mw M).inner s H scope1 C cl fp Dl)).run (h1 i x acc hx hI al)) fun Γ2 w s2 H2 C2 cl2 fp2 => (he M Dl s2 H2 C2 cl2 fp2 ((bd.mw M).inner s2 H2 scope1 C2 cl2 fp2 Dl)).run w, fun nss hI => ⟨rfl, cm, l1, l2, l3, h2 nss hI⟩⟩
  subst eΓ
  refine ⟨by decide, fun t ht => ⟨_, _, rfl, ?_⟩⟩
  obtain ⟨er0, cmu⟩ := er.hush3 cm iR iC iO
  have uO : (((Γ1.set iR .un).set iC .un).set iO .un)[iO]? = some .un := List.getElem?_set_self (by rw [List.length_set, List.length_set]; exact l3)
  have uC : (((Γ1.set iR .un).set iC .un).set iO .un)[iC]? = some .un := by
    rw [List.getElem?_set_ne nOC]
    exact List.getElem?_set_self (by rw [List.length_set]; exact l2)
  have uR : (((Γ1.set iR .un).set iC .un).set iO .un)[iR]? = some .un := by
    rw [List.getElem?_set_ne nOR, List.getElem?_set_ne nRC.symm]
    exact List.getElem?_set_self l1
  have tD : t ≠ Dl := fun z => by rw [z, hdl] at ht; cases ht
  have up : ∀ x o, H2 x = some o → (upd H2 t (.lst [])) x = some o := fun x o e => by
    rw [upd_ne (ne_of_none e ht)]
    exact e
  have sl := er.len
  have sp : Spr c σ H iR iC iO (nss.map List.length).sum (fun v => (nss.map (List.count v)).sum) as Dl ((σ.set iR (some (.ref Dl))).set iC (some (.ref t))) (upd H2 t (.lst [])) nss t [] := by
    refine ⟨fun a o tt e => up a o (g.st.fr a o tt cm.ow e), c.U.keep g.er.j fun a tt => ?_, by rw [List.length_set, List.length_set], fun i h1 h2 _ => by rw [set_off h2, set_off h1], ?_, set_at (by rw [List.length_set, sl]; exact l2), up Dl _ hdl, upd_same, hls.to fun a _ o e => up a o e, fun a ha => (has a ha).1, hDl, gone g.er g.st g.sh ht, fun z => (has Dl z).2 rfl, fun z => ?_, tD, fun v => by simp, by simp⟩
    · obtain ⟨o, e⟩ := Option.ne_none_iff_exists'.mp (c.U.known g.er.j tt)
      rw [e]
      exact up a o e
    · rw [set_off nRC, set_at (by rw [sl]; exact l1)]
    · obtain ⟨n2, e2⟩ := hls.has z
      rw [ht] at e2
      cases e2
  refine spread_while (Γ0 := Γ1) bd er0 cmu uR uC uO nOR nOC nRC nOA tk kk.xw hnT hnl hTs hA hNR hVR d1 d2 hNC hVC hLC (.inr hloc.2) hNO hLO hfO hNA d3 d4 d5 d6 hgr hmr hsr ok2 hV2 hL2 hf2 hsw hfs hfr hlin sp fun σ' H' nss' cc' ms' sp' hem => ?_
  have er' := sp'.er er0 cmu uR uC uO
  have nMx : ¬ Mx c.M σ' (((Γ1.set iR .un).set iC .un).set iO .un) cc' := fun z => z.elim (new_notM er0 sp'.fc).1 fun y => absurd y cmu.ow
  obtain ⟨er2, _⟩ := er'.tell uC sp'.sc (.lst sp'.hc nMx (RpA.ints _))
  have s0 : (nss'.map List.length).sum = 0 := by
    clear sp' er' er2
    induction nss' with
    | nil => rfl
    | cons ns nss' ih =>
      rw [List.map_cons, List.sum_cons, ih fun z hz => hem z (List.mem_cons_of_mem _ hz), hem ns List.mem_cons_self]
      rfl
  have tt := sp'.tot
  refine kk.nx σ' _ H' ⟨fun a o t _ e => sp'.keep a o t e, fun a z => absurd z (cmu.set iC _).ow⟩ er2 (hfin ms' (List.perm_iff_count.mpr fun v => ?_))
  have h1 := sp'.cnt v
  have h2 : ∀ q : List (List Int), (∀ ns ∈ q, ns = []) → (q.map (List.count v)).sum = 0 := fun q => by
    induction q with
    | nil => intro _; rfl
    | cons a q ih =>
      intro h
      rw [List.map_cons, List.sum_cons, ih fun z hz => h z (List.mem_cons_of_mem _ hz), h a List.mem_cons_self]
      rfl
  rw [h2 nss' hem, Nat.add_zero] at h1
  rw [h1, List.count_flatten]
end
end U
/-! W35: a dict of three texts with what stands behind each. -/
namespace U
open PySem PySem.Spec PyProof.Rows L2
def wDisp3 (k1 k2 k3 : Str) (a b d : WE) : WE := fun Γ P => a Γ fun x Γ1 => b Γ1 fun y Γ2 => d Γ2 fun z Γ3 => P (.dic [(.inr k1, x), (.inr k2, y), (.inr k3, z)]) Γ3
section
variable {c : Co} {k : Nat} {e1 e2 e3 : Expr} {w1 w2 w3 : WE} {pos : Pos}
theorem merge3 {k1 k2 k3 : Str} {v1 v2 v3 : V} (n12 : k1 ≠ k2) (n13 : k1 ≠ k3) (n23 : k2 ≠ k3) : mergeK [] [((.inr k1 : L2.Key), v1), (.inr k2, v2), (.inr k3, v3)] = [(.inr k1, v1), (.inr k2, v2), (.inr k3, v3)] := by
  have i12 : ¬ ((.inr k1 : L2.Key) = .inr k2) := fun z => n12 (by injection z)
  have i13 : ¬ ((.inr k1 : L2.Key) = .inr k3) := fun z => n13 (by injection z)
  have i23 : ¬ ((.inr k2 : L2.Key) = .inr k3) := fun z => n23 (by injection z)
  show putK (putK (putK [] (Sum.inr k1) v1) (Sum.inr k2) v2) (Sum.inr k3) v3 = _
  have a : putK ([] : List (L2.Key × V)) (.inr k1) v1 = [(.inr k1, v1)] := rfl
  have b : putK [((.inr k1 : L2.Key), v1)] (.inr k2) v2 = [(.inr k1, v1), (.inr k2, v2)] := by
    unfold putK
    rw [if_neg (by simpa using i12)]
    rfl
  have d : putK [((.inr k1 : L2.Key), v1), (.inr k2, v2)] (.inr k3) v3 = [(.inr k1, v1), (.inr k2, v2), (.inr k3, v3)] := by
    unfold putK
    rw [if_neg (by
      simp only [List.any_cons, List.any_nil, Bool.or_false, Bool.or_eq_true, decide_eq_true_eq, beq_iff_eq]
      exact fun z => z.elim i13 i23)]
    rfl
  rw [a, b, d]
theorem se_disp3 {k1 k2 k3 : Str} {p1 p2 p3 : Pos} {q1 q2 q3 : Nat} (bd : Bd c k) (hk : (k1 != k2 && k1 != k3 && k2 != k3) = true)
    (h1 : ∀ p, Bd (c.apart p) k → SE (c.apart p) e1 w1) (h2 : ∀ p, Bd (c.apart p) k → SE (c.apart p) e2 w2) (h3 : ∀ p, Bd (c.apart p) k → SE (c.apart p) e3 w3) :
    SE c (.Dict [some (.Constant (.str k1) q1 p1), some (.Constant (.str k2) q2 p2), some (.Constant (.str k3) q3 p3)] [e1, e2, e3] pos) (wDisp3 k1 k2 k3 w1 w2 w3) := ⟨fun {Γ P} w σ H er Q W tk xw q => by
  simp only [Bool.and_eq_true, bne_iff_ne, ne_eq] at hk
  obtain ⟨⟨n12, n13⟩, n23⟩ := hk
  refine outE (pe_disp (pps_cons pe_str selfE (pps_cons pe_str selfE (pps_cons pe_str selfE pps_nil))) rfl rfl (fun z => by cases z) (by simp)) fun p hp => ?_
  have er1 : ER c.U (c.apart p).M (upd H p (.dK [])) σ Γ := er.apart hp
  have gr : Grow H (upd H p (.dK [])) := Grow.new hp
  have xw1 : XW (c.apart p) σ Γ (upd H p (.dK [])) W := (xw.on (er.grow gr) ⟨fun a o _ _ e => gr a o e, fun a z => .inl z⟩).apart er.tm p
  refine (h1 p (bd.apart p)).run w σ _ er1 _ W tk xw1 fun v1 d1 Γ1 H1 g1 r1 wb => ?_
  refine (h2 p (bd.apart p)).run wb σ _ g1.er _ W tk (xw1.on g1.er g1.st) fun v2 d2 Γ2 H2 g2 r2 wc => ?_
  refine (h3 p (bd.apart p)).run wc σ _ g2.er _ W tk ((xw1.on g1.er g1.st).on g2.er g2.st) fun v3 d3 Γ3 H3 g3 r3 hP => ?_
  have g := (g1.trans g2).trans g3
  have npT : ¬ c.U.T p := fun t => er.kn p (er.tm p t) hp
  have npO : ¬ Ow σ Γ p := fun z => (er.own_ne z).2 hp
  have hp3 : H3 p = some (.dK []) := g.st.fr p _ npT npO upd_same
  refine ⟨hp3, [(.inr k1, v1), (.inr k2, v2), (.inr k3, v3)], rfl, by simp, ?_⟩
  rw [merge3 n12 n13 n23]
  have er3 : ER c.U (fun a => c.M a ∨ a = p) H3 σ Γ3 := g.er
  have er4 : ER c.U c.M (upd H3 p (.dK [(.inr k1, v1), (.inr k2, v2), (.inr k3, v3)])) σ Γ3 := (er3.apartMut npT).subM er.tm fun a m => .inl m
  have ge : Goes (Mx (c.apart p).M σ Γ3) (Mx c.M σ Γ3) H3 (upd H3 p (.dK [(.inr k1, v1), (.inr k2, v2), (.inr k3, v3)])) := ⟨fun a o m e => ⟨by rw [upd_ne fun z => m (.inl (.inr z))]; exact e, fun z => m (z.imp .inl id)⟩⟩
  have r1' := Rp.to ((g2.trans g3).goes g1.er) _ _ r1
  have r2' := Rp.to (g3.goes g2.er) _ _ r2
  refine q _ _ Γ3 _ ⟨⟨fun a o t n e => ?_, fun a z => ?_⟩, g.sh, er4⟩ (.dic upd_same (fun z => ?_) (.cons (Rp.to ge _ _ r1') (.cons (Rp.to ge _ _ r2') (.cons (Rp.to ge _ _ r3) .nil)))) hP
  · rw [upd_ne (ne_of_none e hp)]
    exact g.st.fr a o t n (gr a o e)
  · rcases g.st.og a z with y | y
    · exact .inl y
    · refine .inr ?_
      by_cases e : a = p
      · rw [e]; exact hp
      · rw [upd_ne e] at y; exact y
  · rcases z with z | z
    · exact er.kn p z hp
    · exact (er3.own_ne z).1 (.inr rfl)⟩
end
end U
/-! W36: sep.join(xs). -/
namespace U
open PySem PySem.Spec PyProof.Rows L2
theorem RpA.strs_ {M : Ex} {H : Hw} : ∀ {ys : List Str} {vs : List V}, RpA M H vs (ys.map D.str) → vs = ys.map V.str
  | [], _, .nil => rfl
  | y :: ys, _, .cons a b => by
    cases a
    rw [RpA.strs_ b]
    rfl
def wJoin (a b : WE) : WE := fun Γ P => a Γ fun x Γ1 => ∃ s : Str, x = .str s ∧ b Γ1 fun y Γ2 => ∃ ys : List Str, y = .lst (ys.map D.str) ∧ (ys.map (fun z => z.length)).sum + ys.length * s.length ≤ 16777216 ∧ P (.str (Txt.join s ys)) Γ2
section
variable {c : Co} {k : Nat} {o e : Expr} {wa wb : WE}
theorem se_join {name : Str} {apos cpos : Pos} (hn : name = "join") (ha : SE c o wa) (hb : SE c e wb)
    (hfew : ((backTo cpos (starEach [e] c.X.env)).all (fun x => !x.1) && (backToKw cpos (keywordEach [] c.X.env)).all (fun x => x.1.isSome) && decide (([e] : List Expr).length + ([] : List Keyword).length + (if ([] : List Keyword).isEmpty then 0 else 1) < 30)) = true := by rfl)
    (hbase : attributeBase o "join" c.X.env (eval o c.X.env) = eval o c.X.env := by rfl) (hline : (apos.endLine == cpos.line) = true := by rfl) (hst : starEach [e] c.X.env = (false, eval e c.X.env) :: starEach [] c.X.env := by rfl) :
    SE c (.Call (.Attribute o name apos) [e] [] cpos) (wJoin wa wb) := ⟨fun {Γ P} h σ H er Q W tk xw q => by
  subst hn
  refine outE (pe_bm PySem.F.plainAttrs_str PySem.F.slot_str_join PySem.F.type_str_join mt_join selfE (pa_cons selfE pa_nil hst) hbase hfew hline hst (by rfl)) ?_
  refine ha.run h σ H er _ W tk xw fun v d Γ1 H1 g r ⟨s, e1, hb2⟩ => ?_
  subst e1
  cases r
  refine ⟨rfl, hb.run hb2 σ H1 g.er _ W tk (xw.on g.er g.st) fun w d2 Γ2 H2 g2 r2 ⟨ys, e2, hl, hp⟩ => ?_⟩
  subst e2
  cases r2 with
  | lst h1 h2 h3 =>
    have ev := RpA.strs_ h3
    subst ev
    exact ⟨s, _, ys, rfl, rfl, .inl (sql_of h1), hl, q _ _ Γ2 H2 (g.trans g2) (.str _) hp⟩⟩
end
end U
/-! W37: x, y = a list of two; w, x, y, z = a tuple of four. -/
namespace U
open PySem PySem.Spec PyProof.Rows L2
def wgTwoL (i j : Nat) : WG := fun Γ d P => i < Γ.length ∧ j < Γ.length ∧ ∃ x y, d = .lst [x, y] ∧ P ((Γ.set i (.dat x)).set j (.dat y))
def wgFour (i j l m : Nat) : WG := fun Γ d P => i < Γ.length ∧ j < Γ.length ∧ l < Γ.length ∧ m < Γ.length ∧ ∃ x y z w, d = .tup [x, y, z, w] ∧ P ((((Γ.set i (.dat x)).set j (.dat y)).set l (.dat z)).set m (.dat w))
section
variable {c : Co} {k : Nat} {pos : Pos}
theorem sg_twoL {x y : Str} {p1 p2 : Pos} {ctx : Nat} (bd : Bd c k) (i j : Nat) (hi : c.X.N[i]? = some x) (hj : c.X.N[j]? = some y) (hx : Loc c.X.env.scope x) (hy : Loc c.X.env.scope y)
    (hf : c.X.fn x = true ∨ c.X.env.scope.names.lookup x = some .local := by first | exact .inl rfl | exact .inr rfl) (hf2 : c.X.fn y = true ∨ c.X.env.scope.names.lookup y = some .local := by first | exact .inl rfl | exact .inr rfl) : SG c (.Tuple [.Name x p1, .Name y p2] ctx pos) (wgTwoL i j) := ⟨fun {Γ d P} w => by
  obtain ⟨h1, h2, d1, d2, rfl, w⟩ := w
  intro σ H v er p Q q
  cases p with
  | @lst a vs _ g1 g2 r2 =>
    cases r2 with
    | @cons v1 _ _ _ q1 r2 =>
      cases r2 with
      | @cons v2 _ _ _ q2 r2 =>
        cases r2
        have e1 := er.set i q1 h1
        have s1 : Step c.U σ Γ H (σ.set i (some v1)) (Γ.set i (.dat d1)) H := step_set i
        have e2 := e1.set j (Rp.to (s1.goes er) _ _ q2) (by rw [List.length_set]; exact h2)
        exact outG (pg_unl bd.calm (pgs_cons (pg_name bd.nd hi hx hf) (pgs_cons (pg_name bd.nd hj hy hf2) pgs_nil))) ⟨a, [v1, v2], rfl, sql_of g1, rfl, v1, [v2], rfl, v2, [], rfl, rfl, q _ _ _ (s1.trans e1 (step_set j)) e2 w⟩⟩
theorem sg_four {x y z t : Str} {p1 p2 p3 p4 : Pos} {ctx : Nat} (bd : Bd c k) (i j l m : Nat) (hi : c.X.N[i]? = some x) (hj : c.X.N[j]? = some y) (hl : c.X.N[l]? = some z) (hm : c.X.N[m]? = some t) (hx : Loc c.X.env.scope x) (hy : Loc c.X.env.scope y) (hz : Loc c.X.env.scope z) (ht : Loc c.X.env.scope t)
    (hf : c.X.fn x = true ∨ c.X.env.scope.names.lookup x = some .local := by first | exact .inl rfl | exact .inr rfl) (hf2 : c.X.fn y = true ∨ c.X.env.scope.names.lookup y = some .local := by first | exact .inl rfl | exact .inr rfl) (hf3 : c.X.fn z = true ∨ c.X.env.scope.names.lookup z = some .local := by first | exact .inl rfl | exact .inr rfl) (hf4 : c.X.fn t = true ∨ c.X.env.scope.names.lookup t = some .local := by first | exact .inl rfl | exact .inr rfl) : SG c (.Tuple [.Name x p1, .Name y p2, .Name z p3, .Name t p4] ctx pos) (wgFour i j l m) := ⟨fun {Γ d P} w => by
  obtain ⟨h1, h2, h3, h4, d1, d2, d3, d4, rfl, w⟩ := w
  intro σ H v er p Q q
  cases p with
  | @tup a vs _ g1 g2 r2 =>
    cases r2 with
    | @cons v1 _ _ _ q1 r2 =>
      cases r2 with
      | @cons v2 _ _ _ q2 r2 =>
        cases r2 with
        | @cons v3 _ _ _ q3 r2 =>
          cases r2 with
          | @cons v4 _ _ _ q4 r2 =>
            cases r2
            have e1 := er.set i q1 h1
            have s1 : Step c.U σ Γ H (σ.set i (some v1)) (Γ.set i (.dat d1)) H := step_set i
            have e2 := e1.set j (Rp.to (s1.goes er) _ _ q2) (by rw [List.length_set]; exact h2)
            have s2 : Step c.U σ Γ H ((σ.set i (some v1)).set j (some v2)) ((Γ.set i (.dat d1)).set j (.dat d2)) H := s1.trans e1 (step_set j)
            have e3 := e2.set l (Rp.to (s2.goes er) _ _ q3) (by rw [List.length_set, List.length_set]; exact h3)
            have s3 : Step c.U σ Γ H (((σ.set i (some v1)).set j (some v2)).set l (some v3)) (((Γ.set i (.dat d1)).set j (.dat d2)).set l (.dat d3)) H := s2.trans e2 (step_set l)
            have e4 := e3.set m (Rp.to (s3.goes er) _ _ q4) (by rw [List.length_set, List.length_set, List.length_set]; exact h4)
            exact outG (pg_tup bd.calm (pgs_cons (pg_name bd.nd hi hx hf) (pgs_cons (pg_name bd.nd hj hy hf2) (pgs_cons (pg_name bd.nd hl hz hf3) (pgs_cons (pg_name bd.nd hm ht hf4) pgs_nil))))) ⟨a, [v1, v2, v3, v4], rfl, sqt_of g1, rfl, v1, [v2, v3, v4], rfl, v2, [v3, v4], rfl, v3, [v4], rfl, v4, [], rfl, rfl, q _ _ _ (s3.trans e3 (step_set m)) e4 w⟩⟩
end
end U
/-! W38: raise C(), an own error with nothing in it. -/
namespace PySem
namespace ErrX
open PySem.W PySem.Calls PyProof.Rows
/-- an own error class with no __init__ of its own, under ValueError -/
structure ErrO (K : Frag) (mg : Str → Option Value) (nx : Str) (C : Addr) : Prop where
  gC : mg nx = some (.ref C)
  q : excIn K C [.type "ValueError", .type "Exception", .type "BaseException", .type "object"] "ValueError.__new__" = true
  kC : keepIn K (.ref C) = true
  exC : subIn K (.ref C) (.type "BaseException") = some true
  tyC : typeIn K (.ref C) = some (.type "type")
theorem erro_mk {K : Frag} {h : Heap} {mg : Str → Option Value} {nx : Str} {C : Addr} (X : K.In h) (G : h.Ns mainGlobals mg) (aC : nsIn K mainGlobals nx = some (some (.ref C)))
    (q : excIn K C [.type "ValueError", .type "Exception", .type "BaseException", .type "object"] "ValueError.__new__" = true) (kC : keepIn K (.ref C) = true) (eC : subIn K (.ref C) (.type "BaseException") = some true) (tC : typeIn K (.ref C) = some (.type "type")) : ErrO K mg nx C := ⟨mg_of X G aC, q, kC, eC, tC⟩
theorem exm_not {K : Frag} {S T : Addr} (h1 : subIn K (.ref T) (.type "BaseException") = some true) (h2 : isClsIn K T = true) (h3 : typeIn K (.ref T) = some (.type "type")) (h4 : subIn K (.ref S) (.ref T) = some false) : exmOne K (.ref S) (.ref T) = some false := by
  have e1 : (subIn K (.ref T) (.type "BaseException") == some true) = true := by rw [h1] <;> rfl
  have e2 : ((clsIn K T).isSome && typeIn K (.ref T) == some (.type "type")) = true := by
    have h2' : (clsIn K T).isSome = true := h2
    rw [h2', h3] <;> rfl
  show (if (subIn K (.ref T) (.type "BaseException") == some true) = true then (if ((clsIn K T).isSome && typeIn K (.ref T) == some (.type "type")) = true then subIn K (.ref S) (.ref T) else none) else none) = some false
  rw [if_pos e1, if_pos e2]
  exact h4
end ErrX
end PySem
namespace L2
open PySem PySem.Spec PyProof.Rows
theorem pmk_own0 {X : Cx} {C : Addr} {bmB : List Value} {B newId initId : String} {x : Str} {p pos : Pos} (F : ExcBaseFacts B newId initId bmB) (q : PySem.W.excIn X.K C bmB newId = true) (gC : X.mg x = some (.ref C))
    (kC : PySem.W.keepIn X.K (.ref C) = true) (r : Raises X (.ref C)) (hg : Gl X x) (hdb : (x == ("__debug__" : Str)) = false := by decide) :
    PMk X (.Call (.Name x p) [] [] pos) (fun _ H Q => Q (.ref C) none H) := by
  intro pins s σ H Q I h
  refine wpAny_Call_Name_kw (ld_glob I hg gC ?_ hdb)
  refine PySem.W.callWith_K0 I.kIn kC ?_
  show wpAny _ _ (call (.ref C) []) _ _ _
  obtain ⟨bm, N, nm, qn, bs, hdct, sn, sub, ab, col, dd, k0, k1, k2, k3, k5, mN, hC, hN, hni, T⟩ := exc_obj I.kIn q
  refine wpAny_call_exc_subT F T hC hN hni (fun h' e hm => ?_) (Nat.zero_le _)
  exact mk_of I hm r h (I.hok.gone hm.new)
end L2
namespace U
open PySem PySem.Spec PyProof.Rows L2 PySem.ErrX
section
variable {c : Co} {k : Nat} {Γ : Ga} {R : Oc} {e : Expr} {pos p pos2 : Pos} {C : Addr} {nx : Str}
/-- raise C() -/
def wRaise0 (C : Addr) (E : Addr → Option (Str × D) → Ga → Prop) : WS := fun Γ _ => E C none Γ
theorem ss_raise0 (T : ErrO c.X.K c.X.mg nx C) (bd : Bd c k) (hg : Gl c.X nx := by rfl) (hdb : (nx == ("__debug__" : Str)) = false := by decide) : SS c (.Raise (some (.Call (.Name nx p) [] [] pos)) none pos2) (wRaise0 C c.E) := ⟨fun {Γ R} w => fun σ H er W Dd tk kk =>
  outS (ps_raise bd.calm tk (pmk_own0 PySem.F.excBase_ValueError T.q T.gC T.kC (raises_own T.exC T.tyC) hg hdb)) (kk.xw C none none σ Γ H .refl er (fun f x e => by cases e) w)⟩
end
end U
/-! W39: list(d), d a dict: its keys. -/
namespace U
open PySem PySem.Spec PyProof.Rows L2
def keysD (ks : List (L2.Key × D)) : List D := ks.map fun kv => kD kv.1
section
variable {X : Cx} {c : Co} {k : Nat} {e a b : Expr} {es : List Expr} {pos p : Pos} {wa wb we : WE}
theorem rpA_keys {M : Ex} {H : Hw} : ∀ {vs : List (L2.Key × V)} {ds : List (L2.Key × D)}, RpK M H vs ds → RpA M H (vs.map fun kv => kV kv.1) (keysD ds)
  | [], [], .nil => .nil
  | (a, v) :: vs, (_, d) :: ds, .cons h r => by
    unfold keysD
    rw [List.map_cons, List.map_cons]
    refine .cons ?_ (rpA_keys r)
    cases a with
    | inl i => exact .int i
    | inr s => exact .str s
theorem vo_listD {ks : List (L2.Key × D)} : Von (fun xs H Q => ∃ (a : Addr) (kvs : List (L2.Key × V)), xs = [.ref a] ∧ Rd H a (.dK kvs) ∧ ∀ p, H p = none → Q (.ref p) (upd H p (.lst (kvs.map fun kv => kV kv.1)))) [.dic ks] (.lst (keysD ks)) := fun M H vs hk h1 Q q => by
  cases h1 with
  | cons h1 h2 =>
    cases h2
    have go : ∀ {a : Addr} {kvs : List (L2.Key × V)}, H a = some (.dK kvs) → RpK M H kvs ks → _ := fun {a kvs} e r => (⟨a, kvs, rfl, Rd.of e, fun p hp => q _ _ (Grow.new hp) (.lst upd_same (fun z => hk p z hp) (RpA.to (Grow.new hp).goes _ _ (rpA_keys r)))⟩ : ∃ (a' : Addr) (kvs : List (L2.Key × V)), [V.ref a] = [.ref a'] ∧ Rd H a' (.dK kvs) ∧ ∀ p, H p = none → Q (.ref p) (upd H p (.lst (kvs.map fun kv => kV kv.1))))
    cases h1 with
    | of h =>
      cases h with
      | dic e m r => exact go e r
    | dic e r => exact go e r
def oListD : O1
  | .dic ks, P => P (.lst (keysD ks))
  | _, _ => False
theorem se_listD (bd : Bd c k) (hm : c.X.mg "list" = none) (ha : SQ c a wa) (hg : Gl c.X "list" := by rfl) (hs : starEach [a] c.X.env = (false, eval a c.X.env) :: starEach [] c.X.env := by rfl) (hpl : (backTo pos (starEach [] c.X.env)).any (·.1) = false := by rfl) : SE c (.Call (.Name "list" p) [a] [] pos) (wOp1 oListD wa) :=
  ⟨fun w => evn1 (fun ha => pe_callTy (call_listD bd.calm) hg hm (by decide +kernel) ha (by decide) (by decide) hs hpl) (eq_mono (ha.run w) fun d Γ1 h => by
    cases d with
    | dic ks => exact ⟨_, vo_listD, h⟩
    | _ => exact h.elim) hs⟩
end
end U
/-! W40: x.insert(i, d), one's own list. -/
namespace U
open PySem PySem.Spec PyProof.Rows L2
section
variable {c : Co} {k : Nat} {Γ : Ga} {R : Oc} {e a b : Expr} {es : List Expr} {pos p : Pos} {wa wb we : WE}
theorem rpA_take {M : Ex} {H : Hw} : ∀ {vs : List V} {ds : List D} (n : Nat), RpA M H vs ds → RpA M H (vs.take n) (ds.take n)
  | _, _, 0, _ => .nil
  | [], [], n + 1, .nil => .nil
  | _ :: _, _ :: _, n + 1, .cons h r => .cons h (rpA_take n r)
theorem rpA_drop {M : Ex} {H : Hw} : ∀ {vs : List V} {ds : List D} (n : Nat), RpA M H vs ds → RpA M H (vs.drop n) (ds.drop n)
  | _, _, 0, h => h
  | [], [], n + 1, .nil => .nil
  | _ :: _, _ :: _, n + 1, .cons h r => rpA_drop n r
def wInsert (i : Nat) (a b : WE) : WS := fun Γ R => isOwn i Γ ∧ a Γ fun d Γ1 => oInt d fun n => b Γ1 fun d2 Γ2 => match Γ2[i]? with
  | some (.own ds) => ds.length < 16777216 ∧ 0 ≤ n ∧ n < 9223372036854775808 ∧ R.nx (Γ2.set i (.own (ds.take n.toNat ++ [d2] ++ ds.drop n.toNat)))
  | _ => False
theorem s1_insert {x name : Str} {apos cpos npos : Pos} (i : Nat) (hN : c.X.N[i]? = some x) (hv : Vis c.X.env.scope x) (hn : name = "insert") {s0 : List D} (hs0 : Γ[i]? = some (.own s0)) (h : Ev c a Γ fun d Γ1 => ∃ n, d = .int n ∧ Ev c b Γ1 fun d2 Γ2 => ∃ ds, Γ2[i]? = some (.own ds) ∧ ds.length < 16777216 ∧ 0 ≤ n ∧ n < 9223372036854775808 ∧ R.nx (Γ2.set i (.own (ds.take n.toNat ++ [d2] ++ ds.drop n.toNat))))
    (hdb : (x == ("__debug__" : Str)) = false := by decide) (hcd : (x == ("__classdict__" : Str)) = false := by decide)
    (hfew : ((backTo cpos (starEach [a, b] c.X.env)).all (fun x => !x.1) && (backToKw cpos (keywordEach [] c.X.env)).all (fun x => x.1.isSome) && decide (([a, b] : List Expr).length + ([] : List Keyword).length + (if ([] : List Keyword).isEmpty then 0 else 1) < 30)) = true := by rfl)
    (hbase : attributeBase (.Name x npos) "insert" c.X.env (eval (.Name x npos) c.X.env) = eval (.Name x npos) c.X.env := by rfl)
    (hline : (apos.endLine == cpos.line) = true := by rfl) (hst : starEach [a, b] c.X.env = (false, eval a c.X.env) :: starEach [b] c.X.env := by rfl) (hst2 : starEach [b] c.X.env = (false, eval b c.X.env) :: starEach [] c.X.env := by rfl) (hpl : (backTo cpos (starEach [b] c.X.env)).any (·.1) = false := by rfl)
    (hs : swapsWith (.Call (.Attribute (.Name x npos) "insert" apos) [a, b] [] cpos) none pos.line c.X.env = pure false := by rfl) :
    S1 c (.Expr (.Call (.Attribute (.Name x npos) name apos) [a, b] [] cpos) pos) Γ R := fun σ H er W Dd tk k => by
  subst hn
  obtain ⟨a0, xs0, f1, f2, f3, f4⟩ := er.own i s0 hs0
  refine outS (ps_expr (pe_bm PySem.F.plainAttrs_list PySem.F.slot_list_insert PySem.F.type_list_insert mt_insert (pe_var hN hv hdb hcd) (pa_cons selfE (pa_cons selfE pa_nil hst2) hst) hbase hfew hline hst hpl) hs) ⟨_, f1, .inl ⟨rfl, _, .inl (.inl f2)⟩, ?_⟩
  refine h σ H er _ W tk k.xw fun v d Γ1 H1 g p ⟨n, en, h⟩ => ?_
  subst en
  cases p
  refine h σ H1 g.er _ W tk (k.xw.on g.er g.st) fun v2 d2 Γ2 H2 g2 p2 ⟨ds, h1, h2, n0, n1, h3⟩ => ?_
  obtain ⟨a1, xs1, q1, q2, q3, q4⟩ := g2.er.own i ds h1
  have e1 := q1.symm.trans f1
  cases e1
  obtain ⟨r2, s2, _⟩ := g2.er.mut i h1 rfl q1 (.lst (RpA.app (RpA.app (rpA_take n.toNat q4) (.cons p2 .nil)) (rpA_drop n.toNat q4)))
  exact ⟨_, xs1, n, v2, rfl, rfl, q2, by rw [q4.length]; exact h2, n0, n1, k.nx _ _ _ ((g.trans g2).st.trans g2.er s2) r2 h3⟩
theorem ss_insert {x name : Str} {apos cpos npos : Pos} (i : Nat) (hN : c.X.N[i]? = some x) (hv : Vis c.X.env.scope x) (hn : name = "insert") (ha : SE c a wa) (hb : SE c b wb)
    (hdb : (x == ("__debug__" : Str)) = false := by decide) (hcd : (x == ("__classdict__" : Str)) = false := by decide)
    (hfew : ((backTo cpos (starEach [a, b] c.X.env)).all (fun x => !x.1) && (backToKw cpos (keywordEach [] c.X.env)).all (fun x => x.1.isSome) && decide (([a, b] : List Expr).length + ([] : List Keyword).length + (if ([] : List Keyword).isEmpty then 0 else 1) < 30)) = true := by rfl)
    (hbase : attributeBase (.Name x npos) "insert" c.X.env (eval (.Name x npos) c.X.env) = eval (.Name x npos) c.X.env := by rfl)
    (hline : (apos.endLine == cpos.line) = true := by rfl) (hst : starEach [a, b] c.X.env = (false, eval a c.X.env) :: starEach [b] c.X.env := by rfl) (hst2 : starEach [b] c.X.env = (false, eval b c.X.env) :: starEach [] c.X.env := by rfl) (hpl : (backTo cpos (starEach [b] c.X.env)).any (·.1) = false := by rfl)
    (hs : swapsWith (.Call (.Attribute (.Name x npos) "insert" apos) [a, b] [] cpos) none pos.line c.X.env = pure false := by rfl) :
    SS c (.Expr (.Call (.Attribute (.Name x npos) name apos) [a, b] [] cpos) pos) (wInsert i wa wb) := ⟨fun {Γ R} w => by
  obtain ⟨w0, w⟩ := w
  unfold isOwn at w0
  split at w0
  · rename_i ds0 hd0
    refine s1_insert i hN hv hn hd0 (ev_mono (ha.run w) fun d Γ1 w => ?_) hdb hcd hfew hbase hline hst hst2 hpl hs
    obtain ⟨n, rfl, w⟩ := oInt_of w
    refine ⟨n, rfl, ev_mono (hb.run w) fun d2 Γ2 w => ?_⟩
    split at w
    · rename_i ds hd
      exact ⟨ds, hd, w⟩
    · exact w.elim
  · exact w0.elim⟩
end
end U
/-! W41: repr of data in which dicts stand, with what is in them. -/
namespace U
open PySem PySem.Spec PyProof.Rows L2
def keyP : L2.Key → PyData
  | .inl i => .int i
  | .inr x => .str x
mutual
def toPyF : D → PyData
  | .non => .none
  | .bl b => .bool b
  | .int i => .int i
  | .str x => .str x
  | .lst xs => .list (toPyFA xs)
  | .tup xs => .tuple (toPyFA xs)
  | .dic ks => .dict (toPyFK ks)
  | .ad _ => .none
def toPyFA : List D → List PyData
  | [] => []
  | x :: xs => toPyF x :: toPyFA xs
def toPyFK : List (L2.Key × D) → List (PyData × PyData)
  | [] => []
  | (k, x) :: xs => (keyP k, toPyF x) :: toPyFK xs
end
mutual
/-- no address -/
def D.fm : D → Bool
  | .lst xs => D.fmA xs
  | .tup xs => D.fmA xs
  | .dic ks => D.fmK ks
  | .ad _ => false
  | _ => true
def D.fmA : List D → Bool
  | [] => true
  | x :: xs => x.fm && D.fmA xs
def D.fmK : List (L2.Key × D) → Bool
  | [] => true
  | (_, x) :: xs => x.fm && D.fmK xs
end
def shwF (d : D) : Str := (toPyF d).shown
section
variable {X : Cx} {pins : List (Addr × Obj)} {σ : Sw} {H : Hw} {M : Ex} {s : Shared}
theorem readsKeys {P : Program} {w : World} {h : Heap} : ∀ (ks : List (L2.Key × D)) {es : List DictEntry} {vs : List (L2.Key × Value)} {kvs : List (L2.Key × V)}, Pairs (mixKind P w) es vs → KV kvs vs → RpK M H kvs ks → ReadsAll h (es.map (·.key)) ((toPyFK ks).map (·.1)) []
  | [], _, _, _, hp, hk, hr => by
    cases hr
    cases hk
    cases hp
    simp only [toPyFK]
    exact .nil
  | (k, d) :: ks, _, _, _, hp, hk, hr => by
    cases hr with
    | cons r1 r2 =>
      cases hk with
      | cons k1 k2 =>
        cases hp with
        | cons p1 p2 p3 =>
          have ih := readsKeys (h := h) ks p3 k2 r2
          simp only [toPyFK, List.map_cons]
          obtain ⟨e1, _⟩ := k1
          have p1 : keyIs _ _ = true := p1
          rw [← e1] at p1
          rcases keyIs_shape p1 with ⟨i, t, e, e2⟩ | ⟨i, t, e, e2⟩
          · have e : k = .inl i := e
            subst e
            rw [e2]
            exact .cons (as := []) (.int i t) ih
          · have e : k = .inr i := e
            subst e
            rw [e2]
            exact .cons (as := []) (.str i t) ih
mutual
theorem Rp.readsF (I : Inv X pins σ H s) : ∀ (d : D) (v : V) (u : Value), d.fm = true → Rp M H v d → RelV v u → ∃ as, Reads s.heap u (toPyF d) as ∧ ∀ a ∈ as, H a ≠ none
  | .non, _, _, _, h, r => by cases h; cases r; simp only [toPyF]; exact ⟨_, .none, fun _ h => by cases h⟩
  | .bl b, _, _, _, h, r => by cases h; cases r; simp only [toPyF]; exact ⟨_, .bool b, fun _ h => by cases h⟩
  | .int i, _, _, _, h, r => by cases h; obtain ⟨t, rfl⟩ := r; simp only [toPyF]; exact ⟨_, .int i t, fun _ h => by cases h⟩
  | .str x, _, _, _, h, r => by cases h; obtain ⟨t, rfl⟩ := r; simp only [toPyF]; exact ⟨_, .str x t, fun _ h => by cases h⟩
  | .lst ds, _, _, e, h, r => by
    cases h with
    | lst ha nm hr =>
      cases r
      obtain ⟨its, rv, ⟨o, n, ho, hc, _, hd⟩, _⟩ := I.list (sql_of ha)
      obtain ⟨as, q, hq⟩ := RpA.readsF I ds _ its (by simpa only [D.fm] using e) hr rv
      simp only [toPyF]
      exact ⟨_, .list ho hc hd q, fun b hb => (List.mem_cons.mp hb).elim (fun z => by rw [z, ha]; simp) (hq b)⟩
  | .tup ds, _, _, e, h, r => by
    cases h with
    | tup ha nm hr =>
      cases r
      obtain ⟨its, rv, ⟨o, ho, hc, n, hd⟩, _⟩ := I.tuple (sqt_of ha)
      obtain ⟨as, q, hq⟩ := RpA.readsF I ds _ its (by simpa only [D.fm] using e) hr rv
      simp only [toPyF]
      exact ⟨_, .tuple ho hc hd q, hq⟩
  | .dic ks, _, _, e, h, r => by
    cases h with
    | dic ha nm hr =>
      cases r
      obtain ⟨_, _, vs, kv, o, es, ep, ho, hx, hd, _, hps, _⟩ := dk_of I.hok ha
      obtain ⟨as, q, hq⟩ := RpK.readsF I ks _ vs _ (by simpa only [D.fm] using e) hr kv hps
      simp only [toPyF]
      refine ⟨_, .dict ho hx.1 hd (readsKeys ks hps kv hr) q, fun b hb => ?_⟩
      simp only [List.append_nil, List.cons_append, List.nil_append, List.mem_cons] at hb
      rcases hb with z | z
      · rw [z, ha]; simp
      · exact hq b z
  | .ad _, _, _, e, _, _ => by simp [D.fm] at e
theorem RpA.readsF (I : Inv X pins σ H s) : ∀ (ds : List D) (vs : List V) (us : List Value), D.fmA ds = true → RpA M H vs ds → Vals vs us → ∃ as, ReadsAll s.heap us (toPyFA ds) as ∧ ∀ a ∈ as, H a ≠ none
  | [], _, _, _, h, r => by cases h; cases r; simp only [toPyFA]; exact ⟨_, .nil, fun _ h => by cases h⟩
  | d :: ds, _, _, e, h, r => by
    have e' : d.fm = true ∧ D.fmA ds = true := by simpa only [D.fmA, Bool.and_eq_true] using e
    cases h with
    | cons h1 h2 =>
      cases r with
      | cons r1 r2 =>
        obtain ⟨as, q1, k1⟩ := Rp.readsF I d _ _ e'.1 h1 r1
        obtain ⟨bs, q2, k2⟩ := RpA.readsF I ds _ _ e'.2 h2 r2
        simp only [toPyFA]
        exact ⟨_, .cons q1 q2, fun a ha => (List.mem_append.mp ha).elim (k1 a) (k2 a)⟩
theorem RpK.readsF (I : Inv X pins σ H s) {P : Program} {w : World} : ∀ (ks : List (L2.Key × D)) (kvs : List (L2.Key × V)) (vs : List (L2.Key × Value)) (es : List DictEntry), D.fmK ks = true → RpK M H kvs ks → KV kvs vs → Pairs (mixKind P w) es vs → ∃ as, ReadsAll s.heap (es.map (·.val)) ((toPyFK ks).map (·.2)) as ∧ ∀ a ∈ as, H a ≠ none
  | [], _, _, _, _, hr, hk, hp => by
    cases hr
    cases hk
    cases hp
    simp only [toPyFK]
    exact ⟨_, .nil, fun _ h => by cases h⟩
  | (k, d) :: ks, _, _, _, e, hr, hk, hp => by
    have e' : d.fm = true ∧ D.fmK ks = true := by simpa only [D.fmK, Bool.and_eq_true] using e
    cases hr with
    | cons r1 r2 =>
      cases hk with
      | cons k1 k2 =>
        cases hp with
        | cons p1 p2 p3 =>
          obtain ⟨as, q1, h1⟩ := Rp.readsF I d _ _ e'.1 r1 k1.2
          obtain ⟨bs, q2, h2⟩ := RpK.readsF I ks _ _ _ e'.2 r2 k2 p3
          simp only [toPyFK, List.map_cons]
          rw [p2]
          exact ⟨_, .cons q1 q2, fun a ha => (List.mem_append.mp ha).elim (h1 a) (h2 a)⟩
end
theorem Rq.readsF (I : Inv X pins σ H s) {d : D} {v : V} {u : Value} (e : d.fm = true) (h : Rq M H v d) (r : RelV v u) : ∃ as, Reads s.heap u (toPyF d) as ∧ ∀ a ∈ as, H a ≠ none := by
  cases h with
  | of h => exact Rp.readsF I d v u e h r
  | lst a c =>
    cases r
    obtain ⟨its, rv, ⟨o, n, ho, hc, _, hd⟩, _⟩ := I.list (sql_of a)
    obtain ⟨as, q, hq⟩ := RpA.readsF I _ _ its (by simpa only [D.fm] using e) c rv
    simp only [toPyF]
    exact ⟨_, .list ho hc hd q, fun b hb => (List.mem_cons.mp hb).elim (fun z => by rw [z, a]; simp) (hq b)⟩
  | dic a c =>
    cases r
    obtain ⟨_, _, vs, kv, o, es, ep, ho, hx, hd, _, hps, _⟩ := dk_of I.hok a
    obtain ⟨as, q, hq⟩ := RpK.readsF I _ _ vs _ (by simpa only [D.fm] using e) c kv hps
    simp only [toPyF]
    refine ⟨_, .dict ho hx.1 hd (readsKeys _ hps kv c) q, fun b hb => ?_⟩
    simp only [List.append_nil, List.cons_append, List.nil_append, List.mem_cons] at hb
    rcases hb with z | z
    · rw [z, a]; simp
    · exact hq b z
end
mutual
theorem toPyF_pl : ∀ d : D, d.pl = true → toPyF d = toPy d ∧ d.fm = true
  | .non, _ => by simp [toPyF, toPy, D.fm]
  | .bl _, _ => by simp [toPyF, toPy, D.fm]
  | .int _, _ => by simp [toPyF, toPy, D.fm]
  | .str _, _ => by simp [toPyF, toPy, D.fm]
  | .lst xs, h => by
    have := toPyFA_pl xs (by simpa only [D.pl] using h)
    simp [toPyF, toPy, D.fm, this.1, this.2]
  | .tup xs, h => by
    have := toPyFA_pl xs (by simpa only [D.pl] using h)
    simp [toPyF, toPy, D.fm, this.1, this.2]
  | .dic _, h => by simp [D.pl] at h
  | .ad _, h => by simp [D.pl] at h
theorem toPyFA_pl : ∀ ds : List D, D.plA ds = true → toPyFA ds = toPyA ds ∧ D.fmA ds = true
  | [], _ => by simp [toPyFA, toPyA, D.fmA]
  | d :: ds, h => by
    have e : d.pl = true ∧ D.plA ds = true := by simpa only [D.plA, Bool.and_eq_true] using h
    have a := toPyF_pl d e.1
    have b := toPyFA_pl ds e.2
    simp [toPyFA, toPyA, D.fmA, a.1, a.2, b.1, b.2]
end
/-! ### how long, how deep -/
structure RkF (d : D) (n k : Nat) : Prop where
  em : d.fm = true
  sh : (toPyF d).showable = true
  ln : (toPyF d).shown.length ≤ n
  dp : (toPyF d).depth ≤ k
structure RkFA (ds : List D) (n k : Nat) : Prop where
  em : D.fmA ds = true
  sh : PyData.showableAll (toPyFA ds) = true
  ln : ((PyData.shownAll (toPyFA ds)).map (·.length)).sum + 2 * (toPyFA ds).length ≤ n
  dp : PyData.depthAll (toPyFA ds) ≤ k
theorem RkF.le {d : D} {n m k j : Nat} (h : RkF d n k) (a : n ≤ m) (b : k ≤ j) : RkF d m j := ⟨h.em, h.sh, Nat.le_trans h.ln a, Nat.le_trans h.dp b⟩
theorem Rk.f {d : D} {n k : Nat} (h : Rk d n k) : RkF d n k := by
  obtain ⟨e, f⟩ := toPyF_pl d h.pl
  exact ⟨f, by rw [e]; exact h.sh, by rw [e]; exact h.ln, by rw [e]; exact h.dp⟩
/-- {i: j} -/
theorem rkf_one {i j : Int} {n m k : Nat} (hi : Rk (.int i) n k) (hj : Rk (.int j) m k) : RkF (.dic [(.inl i, .int j)]) (n + m + 4) (k + 1) := by
  have a := hi.ln
  have b := hj.ln
  have a2 := hi.sh
  have b2 := hj.sh
  have a3 := hi.dp
  have b3 := hj.dp
  refine ⟨by simp [D.fm, D.fmK], ?_, ?_, ?_⟩
  · simp only [toPyF, toPyFK, keyP, PyData.showable, PyData.showableKv, toPy] at a2 b2 ⊢
    simp [a2, b2]
  · simp only [toPyF, toPyFK, keyP, PyData.shown, PyData.shownKv, toPy] at a b ⊢
    have e : ∀ x : Str, (dictText [x]).length = 1 + x.length + 1 := fun x => by
      unfold dictText
      rw [strLen_append, strLen_append]
      rfl
    rw [e, strLen_append, strLen_append]
    have e2 : (": " : Str).length = 2 := rfl
    rw [e2]
    omega
  · simp only [toPyF, toPyFK, keyP, PyData.depth, PyData.depthKv, toPy] at a3 b3 ⊢
    omega
theorem rkfa_nil {k : Nat} : RkFA [] 0 k := ⟨rfl, by simp [toPyFA, PyData.showableAll], by simp [toPyFA, PyData.shownAll], by simp [toPyFA, PyData.depthAll]⟩
theorem rkfa_cons {d : D} {ds : List D} {n m k : Nat} (h : RkF d n k) (r : RkFA ds m k) : RkFA (d :: ds) (n + 2 + m) k := by
  refine ⟨by simp [D.fmA, h.em, r.em], by simp [toPyFA, PyData.showableAll, h.sh, r.sh], ?_, ?_⟩
  · have a := h.ln
    have b := r.ln
    simp only [toPyFA, PyData.shownAll, List.map_cons, List.sum_cons, List.length_cons]
    omega
  · have a := h.dp
    have b := r.dp
    simp only [toPyFA, PyData.depthAll]
    omega
theorem rkf_lst {ds : List D} {n k : Nat} (r : RkFA ds n k) : RkF (.lst ds) (n + 3) (k + 1) := by
  refine ⟨by simp only [D.fm]; exact r.em, by simp only [toPyF, PyData.showable]; exact r.sh, ?_, ?_⟩
  · have a := listText_len_le (PyData.shownAll (toPyFA ds))
    have b := r.ln
    rw [shownAll_len] at a
    simp only [toPyF, PyData.shown]
    omega
  · have b := r.dp
    simp only [toPyF, PyData.depth]
    omega
theorem rkf_tup {ds : List D} {n k : Nat} (r : RkFA ds n k) : RkF (.tup ds) (n + 3) (k + 1) := by
  refine ⟨by simp only [D.fm]; exact r.em, by simp only [toPyF, PyData.showable]; exact r.sh, ?_, ?_⟩
  · have a := tupleText_len_le (PyData.shownAll (toPyFA ds))
    have b := r.ln
    rw [shownAll_len] at a
    simp only [toPyF, PyData.shown]
    omega
  · have b := r.dp
    simp only [toPyF, PyData.depth]
    omega
theorem rkfa_all {n k : Nat} : ∀ {ds : List D}, (∀ d ∈ ds, RkF d n k) → RkFA ds ((n + 2) * ds.length) k
  | [], _ => by simpa using rkfa_nil
  | d :: ds, h => by
    have a := rkfa_cons (h d List.mem_cons_self) (rkfa_all fun x hx => h x (List.mem_cons_of_mem _ hx))
    have e : n + 2 + (n + 2) * ds.length = (n + 2) * (d :: ds).length := by rw [List.length_cons, Nat.mul_succ]; omega
    rw [← e]
    exact a
def ShownF (d : D) : Prop := ∃ n j, RkF d n j ∧ n ≤ 16777216 ∧ j ≤ 60
section
variable {c : Co} {k : Nat} {Γ : Ga} {P : D → Ga → Prop} {a b e : Expr} {es : List Expr} {pos p : Pos} {X : Cx} {wa : WE}
theorem call_reprF (gd : X.A.guards = some []) (hu : X.A.units + 64 < cLine) (hS : ∃ mm, X.base.Ns sysModules mm) {M : Ex} {H : Hw} {v : V} {d : D} {n j : Nat} (r : Rq M H v d) (h : RkF d n j) (hn : n ≤ 16777216) (hj : j ≤ 60) {pins : List (Addr × Obj)} {s : Shared} {σ : Sw} {u : Value} {Q : VK} (I : Inv X pins σ H s) (ru : RelV v u) (q : Q (.str (shwF d)) H) :
    wpAny (model X.prog X.w) X.A (call (.builtin "repr") [u]) (EP X pins σ Q) X.xe s := by
  have hz : (toPyF d).shown.length ≤ sizeLine := Nat.le_trans h.ln (sz hn)
  obtain ⟨as, rd, kn⟩ := r.readsF I h.em ru
  have deep : ∀ (a : Addr), u = .ref a → wpAny (model X.prog X.w) X.A (call (.builtin "repr") [u]) (EP X pins σ Q) X.xe s := fun a e => by
    subst e
    have hd := h.dp
    exact repr_of_reads' rd h.sh (fun _ z => off_sys I hS (kn _ z) rfl) gd (by omega) (fun _ _ e => e) (fun h' u tk hk => ⟨.str (shwF d), H, I.kept (t' := tk) hk, ⟨u, rfl⟩, q⟩) hz
  cases d with
  | lst ds =>
    obtain ⟨a, xs, rfl, _⟩ := r.lst_
    exact deep a ru
  | tup ds =>
    obtain ⟨a, xs, rfl, _⟩ := r.tup_
    exact deep a ru
  | dic ds =>
    obtain ⟨a, xs, rfl, _⟩ := r.dic_
    exact deep a ru
  | ad _ => have z := h.em; simp [D.fm] at z
  | non => exact call_repr_data gd hu r (rk_non (k := 0)) (by decide) (by decide) I ru q
  | bl b => exact call_repr_data gd hu r (rk_bl (k := 0)) (by decide) (by decide) I ru q
  | int i =>
    cases r.int_
    obtain ⟨t, rfl⟩ := ru
    exact PySem.P.repr_of_int (by have := h.sh; simpa only [toPyF, PyData.showable, decide_eq_true_eq] using this) ⟨.str (shwF (.int i)), H, I.tok _, ⟨s.toks, by simp only [shwF, toPyF, PyData.shown]⟩, q⟩
  | str x =>
    cases r.str_
    obtain ⟨t, rfl⟩ := ru
    exact PySem.P.repr_of_str ⟨.str (shwF (.str x)), H, I.tok _, ⟨s.toks, by simp only [shwF, toPyF, PyData.shown]⟩, q⟩ (by simpa only [toPyF, PyData.shown] using hz)
theorem ev_reprFm (bd : Bd c k) (hS : ∃ mm, c.X.base.Ns sysModules mm) (hm : c.X.mg "repr" = none) (h : EvQ c a Γ fun d Γ1 => ShownF d ∧ P (.str (shwF d)) Γ1) (hg : Gl c.X "repr") (hs : starEach [a] c.X.env = (false, eval a c.X.env) :: starEach [] c.X.env := by rfl) (hpl : (backTo pos (starEach [] c.X.env)).any (·.1) = false := by rfl) : Ev c (.Call (.Name "repr" p) [a] [] pos) Γ P := fun σ H er Q W tk xw q => .mk fun pins s I => by
  have cr : CallR c.X (.builtin "repr") (fun vs H Q => ∃ (M' : Ex) (v : V) (d : D), vs = [v] ∧ Rq M' H v d ∧ ShownF d ∧ Q (.str (shwF d)) H) := by
    intro pins s σ' H xs us Q I r h
    obtain ⟨M', v, d, rfl, rq, ⟨n, j, rk, hn, hj⟩, q⟩ := h
    obtain ⟨u, rfl, ru⟩ := vals1 r
    exact call_reprF bd.gd bd.hr.units hS rq rk hn hj I ru q
  refine (pe_callB cr hg hm (by decide +kernel) (pa_cons selfE pa_nil hs) (by decide) (by decide) hs hpl).run pins s σ H Q I ?_
  exact h σ H er _ W tk xw fun v d Γ1 H1 g r ⟨sh, hp⟩ => ⟨_, v, d, rfl, r, sh, q _ _ Γ1 H1 g (.str _) hp⟩
def oReprFm : O1 := fun d P => ShownF d ∧ P (.str (shwF d))
theorem se_reprFm (bd : Bd c k) (hS : ∃ mm, c.X.base.Ns sysModules mm) (hm : c.X.mg "repr" = none) (ha : SQ c a wa) (hg : Gl c.X "repr" := by rfl) (hs : starEach [a] c.X.env = (false, eval a c.X.env) :: starEach [] c.X.env := by rfl) (hpl : (backTo pos (starEach [] c.X.env)).any (·.1) = false := by rfl) : SE c (.Call (.Name "repr" p) [a] [] pos) (wOp1 oReprFm wa) :=
  ⟨fun w => ev_reprFm bd hS hm (eq_mono (ha.run w) fun d _ h => h) hg hs hpl⟩
end
end U
/-! W42: a dict of one key. -/
namespace U
open PySem PySem.Spec PyProof.Rows L2
def wDisp1 (a b : WE) : WE := fun Γ P => a Γ fun x Γ1 => oKey x fun k => b Γ1 fun y Γ2 => P (.dic [(k, y)]) Γ2
section
variable {c : Co} {k : Nat} {e1 e2 : Expr} {w1 w2 : WE} {pos : Pos}
theorem se_disp1 (bd : Bd c k) (h1 : ∀ p, Bd (c.apart p) k → SE (c.apart p) e1 w1) (h2 : ∀ p, Bd (c.apart p) k → SE (c.apart p) e2 w2) :
    SE c (.Dict [some e1] [e2] pos) (wDisp1 w1 w2) := ⟨fun {Γ P} w σ H er Q W tk xw q => by
  refine outE (pe_disp (pps_cons selfE selfE pps_nil) rfl rfl (fun z => by cases z) (by simp)) fun p hp => ?_
  have er1 : ER c.U (c.apart p).M (upd H p (.dK [])) σ Γ := er.apart hp
  have gr : Grow H (upd H p (.dK [])) := Grow.new hp
  have xw1 : XW (c.apart p) σ Γ (upd H p (.dK [])) W := (xw.on (er.grow gr) ⟨fun a o _ _ e => gr a o e, fun a z => .inl z⟩).apart er.tm p
  refine (h1 p (bd.apart p)).run w σ _ er1 _ W tk xw1 fun v1 d1 Γ1 H1 g1 r1 wb => ?_
  obtain ⟨kk, hk, wb⟩ := oKey_of wb
  have ev := keyD_of r1 hk
  refine (h2 p (bd.apart p)).run wb σ _ g1.er _ W tk (xw1.on g1.er g1.st) fun v2 d2 Γ2 H2 g2 r2 hP => ?_
  have g := g1.trans g2
  have npT : ¬ c.U.T p := fun t => er.kn p (er.tm p t) hp
  have npO : ¬ Ow σ Γ p := fun z => (er.own_ne z).2 hp
  have hp3 : H2 p = some (.dK []) := g.st.fr p _ npT npO upd_same
  refine ⟨hp3, [(kk, v2)], by rw [ev]; rfl, by simp, ?_⟩
  have m1 : mergeK [] [(kk, v2)] = [(kk, v2)] := rfl
  rw [m1]
  have er3 : ER c.U (fun a => c.M a ∨ a = p) H2 σ Γ2 := g.er
  have er4 : ER c.U c.M (upd H2 p (.dK [(kk, v2)])) σ Γ2 := (er3.apartMut npT).subM er.tm fun a m => .inl m
  have ge : Goes (Mx (c.apart p).M σ Γ2) (Mx c.M σ Γ2) H2 (upd H2 p (.dK [(kk, v2)])) := ⟨fun a o m e => ⟨by rw [upd_ne fun z => m (.inl (.inr z))]; exact e, fun z => m (z.imp .inl id)⟩⟩
  refine q _ _ Γ2 _ ⟨⟨fun a o t n e => ?_, fun a z => ?_⟩, g.sh, er4⟩ (.dic upd_same (fun z => ?_) (.cons (Rp.to ge _ _ r2) .nil)) hP
  · rw [upd_ne (ne_of_none e hp)]
    exact g.st.fr a o t n (gr a o e)
  · rcases g.st.og a z with y | y
    · exact .inl y
    · refine .inr ?_
      by_cases e : a = p
      · rw [e]; exact hp
      · rw [upd_ne e] at y; exact y
  · rcases z with z | z
    · exact er.kn p z hp
    · exact (er3.own_ne z).1 (.inr rfl)⟩
end
end U
/-! W43: three keywords, the last first. -/
namespace U
open PySem PySem.Spec PyProof.Rows L2
def rot3 {α : Type} : List α → List α
  | [x, y, z] => [y, z, x]
  | l => l
theorem rot3_len {α : Type} (l : List α) : (rot3 l).length = l.length := by
  unfold rot3
  split <;> rfl
theorem rot3_rpA {M : Ex} {H : Hw} : ∀ {vs : List V} {ds : List D}, RpA M H vs ds → RpA M H (rot3 vs) (rot3 ds)
  | _, _, .nil => .nil
  | _, _, .cons r1 .nil => .cons r1 .nil
  | _, _, .cons r1 (.cons r2 .nil) => .cons r1 (.cons r2 .nil)
  | _, _, .cons r1 (.cons r2 (.cons r3 .nil)) => .cons r2 (.cons r3 (.cons r1 .nil))
  | _, _, .cons r1 (.cons r2 (.cons r3 (.cons r4 r))) => .cons r1 (.cons r2 (.cons r3 (.cons r4 r)))
section
variable {c : Co} {k : Nat} {e : Expr} {wa wb wd : WE} {pos p : Pos}
def wCallK3_201 (S : Fs) (E : Addr → Option (Str × D) → Ga → Prop) (a b d : WE) : WE := fun Γ P => a Γ fun d1 Γ1 => b Γ1 fun d2 Γ2 => d Γ2 fun d3 Γ3 => S [d2, d3, d1] (fun d => P d Γ3) fun C fo => E C fo Γ3
theorem se_defK3_201 {x y z t : Str} {st : Stmt} {j : Nat} {S : Fs} {kp kp2 kp3 : Pos} {e2 e3 : Expr} (F : Df c.X.prog c.X.w c.X.K c.X.mg c.X.base x st j 3 [y, z, t] c.U S) (bd : Bd c k) (hj : j ≤ k) (ha : SE c e wa) (hb2 : SE c e2 wb) (hb3 : SE c e3 wd)
    (hb : ∀ (kV doc pm : Value) (an : Option Addr) (cdv ct u w v : Value), bindArgs (PySem.W.fnOf x x (defArgs st) (defBody st) (defScope st) .none kV doc pm an cdv ct) ⟨[], [(t, v), (y, u), (z, w)]⟩ = pure [(y, u), (z, w), (t, v)] := by intros; rfl) (hg : Gl c.X x := by rfl)
    (hall : (backToKw pos (keywordEach [⟨some t, e, kp⟩, ⟨some y, e2, kp2⟩, ⟨some z, e3, kp3⟩] c.X.env)).all (·.1.isSome) = true := by rfl) (hks : (backToKw pos (keywordEach [⟨some t, e, kp⟩, ⟨some y, e2, kp2⟩, ⟨some z, e3, kp3⟩] c.X.env)).filterMap (·.1) = [t, y, z] := by rfl)
    (hdb : (x == ("__debug__" : Str)) = false := by decide) (hpl : ((backTo pos (starEach [] c.X.env)).any (·.1) || (backToKw pos (keywordEach [⟨some t, e, kp⟩, ⟨some y, e2, kp2⟩, ⟨some z, e3, kp3⟩] c.X.env)).any (·.1.isNone)) = false := by rfl) :
    SE c (.Call (.Name x p) [] [⟨some t, e, kp⟩, ⟨some y, e2, kp2⟩, ⟨some z, e3, kp3⟩] pos) (wCallK3_201 S c.E wa wb wd) := ⟨fun {Γ P} w => by
  obtain ⟨f, fd, F1, hm, G⟩ := F.ex
  refine ev_callK0 G bd hj hm F1.kp rot3 rot3 rot3 (fun s ws hK hl => ?_) (fun vs us hl r => ?_) (fun _ _ _ _ _ r => rot3_rpA r) (fun _ h => by rw [rot3_len]; exact h) hg (kv_cons (ev_mono (ha.run w) fun d Γ1 h => kv_cons (ev_mono (hb2.run h) fun d2 Γ2 h => kv_cons (ev_mono (hb3.run h) fun d3 Γ3 h => kv_nil ⟨rfl, h⟩)))) hall hks hdb hpl
  · match ws, hl with
    | [v, u, w], _ =>
      obtain ⟨oc, od, kV, doc, pm, an, cdv, ct, osl, rfl, lk, hcd⟩ := F1.ex
      exact BindsTo.of_eq (hb kV doc pm an cdv ct u w v)
  · match vs, us, hl, r with
    | [_, _, _], [_, _, _], _, .cons a (.cons b (.cons d .nil)) => exact .cons b (.cons d (.cons a .nil))⟩
end
end U
/-! W44: str(an int). -/
namespace U
open PySem PySem.Spec PyProof.Rows L2
section
variable {c : Co} {k : Nat} {a : Expr} {wa : WE} {pos p : Pos}
theorem vo_strI {i : Int} (h : i.natAbs.log2 < 1920) : Von (fun xs H Q => ∃ i, xs = [.int i] ∧ i.natAbs.log2 < 1920 ∧ Q (.str (toString i)) H) [.int i] (.str (shw (.int i))) := fun M H vs hk h1 Q q => by
  cases h1 with
  | cons h1 h2 =>
    cases h2
    cases h1.int_
    refine ⟨i, rfl, h, ?_⟩
    have e : (toString i : Str) = shw (.int i) := by simp only [shw, toPy, PyData.shown]
    rw [e]
    exact q _ H (Grow.refl H) (.str _)
def oStrI : O1
  | .int i, P => i.natAbs.log2 < 1920 ∧ P (.str (shw (.int i)))
  | _, _ => False
theorem se_strI (hm : c.X.mg "str" = none) (ha : SQ c a wa) (hg : Gl c.X "str" := by rfl) (hs : starEach [a] c.X.env = (false, eval a c.X.env) :: starEach [] c.X.env := by rfl) (hpl : (backTo pos (starEach [] c.X.env)).any (·.1) = false := by rfl) : SE c (.Call (.Name "str" p) [a] [] pos) (wOp1 oStrI wa) :=
  ⟨fun w => evn1 (fun ha => pe_callTy call_str_int hg hm (by decide +kernel) ha (by decide) (by decide) hs hpl) (eq_mono (ha.run w) fun d Γ1 h => by
    cases d with
    | int i => exact ⟨_, vo_strI h.1, h.2⟩
    | _ => exact h.elim) hs⟩
end
end U
/-! W45: x.pop(), one's own list. -/
namespace U
open PySem PySem.Spec PyProof.Rows L2
section
variable {c : Co} {k : Nat} {Γ : Ga} {R : Oc} {P : D → Ga → Prop} {e a b : Expr} {es : List Expr} {pos p : Pos} {wa wb we : WE}
theorem rpA_dropLast {M : Ex} {H : Hw} {vs : List V} {ds : List D} (r : RpA M H vs ds) : RpA M H vs.dropLast ds.dropLast := by
  rw [List.dropLast_eq_take, List.dropLast_eq_take, r.length]
  exact rpA_take _ r
def wPop (i : Nat) : WE := fun Γ P => match Γ[i]? with
  | some (.own ds) => ∃ v, ds[ds.length - 1]? = some v ∧ P v (Γ.set i (.own ds.dropLast))
  | _ => False
theorem ev_pop {x name : Str} {apos cpos npos : Pos} (i : Nat) (hN : c.X.N[i]? = some x) (hv : Vis c.X.env.scope x) (hn : name = "pop") {ds : List D} (hs0 : Γ[i]? = some (.own ds)) {y : D} (hy : ds[ds.length - 1]? = some y) (hp : P y (Γ.set i (.own ds.dropLast)))
    (hdb : (x == ("__debug__" : Str)) = false := by decide) (hcd : (x == ("__classdict__" : Str)) = false := by decide)
    (hbase : attributeBase (.Name x npos) "pop" c.X.env (eval (.Name x npos) c.X.env) = eval (.Name x npos) c.X.env := by rfl)
    (hline : (apos.endLine == cpos.line) = true := by rfl) :
    Ev c (.Call (.Attribute (.Name x npos) name apos) [] [] cpos) Γ P := fun σ H er Q W tk xw q => by
  subst hn
  obtain ⟨a0, xs0, f1, f2, f3, f4⟩ := er.own i ds hs0
  refine outE (pe_bm0 PySem.F.plainAttrs_list PySem.F.slot_list_pop PySem.F.type_list_pop mt_pop (pe_var hN hv hdb hcd) hbase hline) ⟨_, f1, .inl ⟨rfl, _, .inl (.inl f2)⟩, ?_⟩
  obtain ⟨w, hw, rw_⟩ := f4.getN hy
  obtain ⟨r2, s2, sh2⟩ := er.mut i hs0 rfl f1 (.lst (rpA_dropLast f4))
  have g2 : Go c σ Γ H (Γ.set i (.own ds.dropLast)) (upd H a0 (.lst xs0.dropLast)) := ⟨s2, sh2, r2⟩
  exact ⟨_, xs0, w, rfl, rfl, f2, by rw [f4.length]; exact hw, q w y _ _ g2 (Rp.to (g2.goes er) _ _ rw_) hp⟩
theorem se_pop {x name : Str} {apos cpos npos : Pos} (i : Nat) (hN : c.X.N[i]? = some x) (hv : Vis c.X.env.scope x) (hn : name = "pop")
    (hdb : (x == ("__debug__" : Str)) = false := by decide) (hcd : (x == ("__classdict__" : Str)) = false := by decide)
    (hbase : attributeBase (.Name x npos) "pop" c.X.env (eval (.Name x npos) c.X.env) = eval (.Name x npos) c.X.env := by rfl)
    (hline : (apos.endLine == cpos.line) = true := by rfl) :
    SE c (.Call (.Attribute (.Name x npos) name apos) [] [] cpos) (wPop i) := ⟨fun {Γ R} w => by
  unfold wPop at w
  split at w
  · rename_i ds hd
    obtain ⟨y, hy, w⟩ := w
    exact ev_pop i hN hv hn hd hy w hdb hcd hbase hline
  · exact w.elim⟩
end
end U
/-! W46: texts: find, ord, in, walked, so many times. -/
namespace U
open PySem PySem.Spec PyProof.Rows L2
section
variable {c : Co} {k : Nat} {Γ : Ga} {o a b e : Expr} {wa wb we : WE} {pos p : Pos}
def wFind (a b : WE) : WE := fun Γ P => a Γ fun x Γ1 => ∃ s : Str, x = .str s ∧ b Γ1 fun y Γ2 => ∃ t : Str, y = .str t ∧ P (.int (Txt.find s t)) Γ2
theorem se_find {name : Str} {apos cpos : Pos} (hn : name = "find") (ha : SE c o wa) (hb : SE c e wb)
    (hfew : ((backTo cpos (starEach [e] c.X.env)).all (fun x => !x.1) && (backToKw cpos (keywordEach [] c.X.env)).all (fun x => x.1.isSome) && decide (([e] : List Expr).length + ([] : List Keyword).length + (if ([] : List Keyword).isEmpty then 0 else 1) < 30)) = true := by rfl)
    (hbase : attributeBase o "find" c.X.env (eval o c.X.env) = eval o c.X.env := by rfl) (hline : (apos.endLine == cpos.line) = true := by rfl) (hst : starEach [e] c.X.env = (false, eval e c.X.env) :: starEach [] c.X.env := by rfl) :
    SE c (.Call (.Attribute o name apos) [e] [] cpos) (wFind wa wb) := ⟨fun {Γ P} h σ H er Q W tk xw q => by
  subst hn
  refine outE (pe_bm PySem.F.plainAttrs_str PySem.F.slot_str_find PySem.F.type_str_find mt_find selfE (pa_cons selfE pa_nil hst) hbase hfew hline hst (by rfl)) ?_
  refine ha.run h σ H er _ W tk xw fun v d Γ1 H1 g r ⟨s, e1, hb2⟩ => ?_
  subst e1
  cases r
  refine ⟨rfl, hb.run hb2 σ H1 g.er _ W tk (xw.on g.er g.st) fun w d2 Γ2 H2 g2 r2 ⟨t, e2, hp⟩ => ?_⟩
  subst e2
  cases r2
  exact ⟨s, t, rfl, rfl, q _ _ Γ2 H2 (g.trans g2) (.int _) hp⟩⟩
theorem vo_ord {x : Str} (h : x.length = 1) : Von (fun xs H Q => ∃ x, xs = [.str x] ∧ x.length = 1 ∧ Q (.int (x.cps.getD 0 0 : Nat)) H) [.str x] (.int (x.cps.getD 0 0 : Nat)) := fun M H vs hk h1 Q q => by
  cases h1 with
  | cons h1 h2 =>
    cases h2
    cases h1.str_
    exact ⟨x, rfl, h, q _ H (Grow.refl H) (.int _)⟩
def oOrd : O1
  | .str x, P => x.length = 1 ∧ P (.int (x.cps.getD 0 0 : Nat))
  | _, _ => False
theorem se_ord (hm : c.X.mg "ord" = none) (ha : SQ c a wa) (hg : Gl c.X "ord" := by rfl) (hs : starEach [a] c.X.env = (false, eval a c.X.env) :: starEach [] c.X.env := by rfl) (hpl : (backTo pos (starEach [] c.X.env)).any (·.1) = false := by rfl) : SE c (.Call (.Name "ord" p) [a] [] pos) (wOp1 oOrd wa) :=
  ⟨fun w => evn1 (fun ha => pe_callB call_ord hg hm (by decide +kernel) ha (by decide) (by decide) hs hpl) (eq_mono (ha.run w) fun d Γ1 h => by
    cases d with
    | str x => exact ⟨_, vo_ord h.1, h.2⟩
    | _ => exact h.elim) hs⟩
/-! ### a text walked -/
def wiStr (a : WE) : WL := fun Γ P => a Γ fun d Γ1 => ∃ x, d = .str x ∧ P (signsD x) Γ1
theorem si_str {tg : Expr} (ha : SE c e we) : SI c tg e (wiStr we) := ⟨fun w => iv_str (ha.run w)⟩
/-! ### a sign in a text -/
def oInS : OC := fun x y P => ∃ (k : Nat) (z : Str), x = .str ⟨#[k]⟩ ∧ y = .str z ∧ P (decide (k ∈ z.cps.toList))
def oNotInS : OC := fun x y P => ∃ (k : Nat) (z : Str), x = .str ⟨#[k]⟩ ∧ y = .str z ∧ P (!decide (k ∈ z.cps.toList))
theorem st_inS (ha : SE c a wa) (hb : SQ c b wb) (hm : behindInMarks .In b = false := by first | exact nomark _ | rfl) : ST c (.Compare a [.In] [b] pos) (wtCmp oInS wa wb) :=
  ⟨fun {Γ P} h => tv_cmp op_in_sign (ev_mono (ha.run h) fun x Γ1 h => eq_mono (hb.run h) fun y Γ2 h => by
    obtain ⟨k, z, rfl, rfl, h⟩ := h
    exact ⟨_, fun M H v w _ g1 g2 Q q => by
      cases g1.str_
      cases g2.str_
      exact ⟨k, z, rfl, rfl, q _ H (Grow.refl H) (.bl _)⟩, h⟩) hm⟩
theorem st_notInS (ha : SE c a wa) (hb : SQ c b wb) (hm : behindInMarks .NotIn b = false := by first | exact nomark _ | rfl) : ST c (.Compare a [.NotIn] [b] pos) (wtCmp oNotInS wa wb) :=
  ⟨fun {Γ P} h => tv_cmp op_notIn_sign (ev_mono (ha.run h) fun x Γ1 h => eq_mono (hb.run h) fun y Γ2 h => by
    obtain ⟨k, z, rfl, rfl, h⟩ := h
    exact ⟨_, fun M H v w _ g1 g2 Q q => by
      cases g1.str_
      cases g2.str_
      exact ⟨k, z, rfl, rfl, q _ H (Grow.refl H) (.bl _)⟩, h⟩) hm⟩
end
/-! ### a text so many times -/
def repS (x : Str) (n : Nat) : Str := ⟨(List.replicate n x.cps).foldl (· ++ ·) #[]⟩
theorem foldl_arr : ∀ (l : List (Array Nat)) (a : Array Nat), (l.foldl (· ++ ·) a).toList = a.toList ++ (l.map Array.toList).flatten
  | [], a => by simp
  | b :: l, a => by
    rw [List.foldl_cons, foldl_arr l (a ++ b)]
    simp
theorem repS_tl (x : Str) (n : Nat) : (repS x n).cps.toList = (List.replicate n x.cps.toList).flatten := by
  unfold repS
  rw [foldl_arr]
  simp
theorem flat_len {α : Type} (l : List α) : ∀ n : Nat, ((List.replicate n l).flatten).length = n * l.length
  | 0 => by simp
  | n + 1 => by rw [List.replicate_succ, List.flatten_cons, List.length_append, flat_len l n, Nat.succ_mul, Nat.add_comm]
def rRepS : R2 := fun x y H Q => ∃ (s : Str) (n : Int), x = .str s ∧ y = .int n ∧ 2 ≤ n ∧ n ≤ 16777216 ∧ 1 ≤ s.length ∧ s.length * n.toNat ≤ 16777216 ∧ Q (.str (repS s n.toNat)) H
theorem op_repS {X : Cx} : OpR X (binaryOp .Mult) rRepS := by
  intro pins s σ H x y v u Q I rx ry h
  obtain ⟨z, n, rfl, rfl, n0, n1, z0, hz, q⟩ := h
  obtain ⟨t, rfl⟩ := rx
  obtain ⟨t', rfl⟩ := ry
  have hl : (repS z n.toNat).length = n.toNat * z.length := by
    show (repS z n.toNat).cps.size = n.toNat * z.cps.size
    rw [← Array.length_toList, repS_tl, ← Array.length_toList]
    exact flat_len _ _
  have hz2 : n.toNat * z.length ≤ 16777216 := by rw [Nat.mul_comm]; exact hz
  have ne : (n == 1 || z.length == 0) = false := by
    have h1 : (n == 1) = false := beq_eq_false_iff_ne.mpr (by omega)
    have h2 : (z.length == 0) = false := beq_eq_false_iff_ne.mpr (by omega)
    rw [h1, h2]
    rfl
  refine P.mul_str (by rw [decide_eq_false (by omega), decide_eq_false (by omega)]; rfl) (fun _ _ => ?_) (fun _ _ => ?_) ?_
  · have h1 : (z.length : Int) * n ≤ 16777216 := by
      obtain ⟨m, rfl⟩ := Int.eq_ofNat_of_zero_le (show 0 ≤ n by omega)
      rw [Int.toNat_natCast] at hz
      have e : ((z.length * m : Nat) : Int) ≤ ((16777216 : Nat) : Int) := Int.ofNat_le.mpr hz
      rw [Int.natCast_mul] at e
      exact e
    have h2 : (z.length : Int) ≤ (2 ^ 63 - 1) / n := Int.le_ediv_of_mul_le (by omega) (by omega)
    omega
  · show decide (z.length * n.toNat > sizeLine) = false
    rw [sizeLine_eq]
    exact decide_eq_false (by omega)
  · rw [if_neg (by omega), ne, if_neg Bool.false_ne_true]
    refine ⟨?_, .str (repS z n.toNat), H, I.tok _, ⟨_, rfl⟩, q⟩
    show (repS z n.toNat).length ≤ sizeLine
    rw [hl, sizeLine_eq]
    exact hz2
theorem vo_repS {s : Str} {n : Int} (h : 2 ≤ n ∧ n ≤ 16777216 ∧ 1 ≤ s.length ∧ s.length * n.toNat ≤ 16777216) : Vo2 rRepS (.str s) (.int n) (.str (repS s n.toNat)) := fun M H v w _ g1 g2 Q q => by
  cases g1.str_
  cases g2.int_
  exact ⟨s, n, rfl, rfl, h.1, h.2.1, h.2.2.1, h.2.2.2, q _ H (Grow.refl H) (.str _)⟩
def oMulS : O2
  | .str s, .int n, P => 2 ≤ n ∧ n ≤ 16777216 ∧ 1 ≤ s.length ∧ s.length * n.toNat ≤ 16777216 ∧ P (.str (repS s n.toNat))
  | _, _, _ => False
theorem ok_mulS {c : Co} : OpOk c .Mult oMulS := ⟨fun h => ev_op op_repS (ev_mono h fun x _ h => eq_mono h fun y _ h => by
  unfold oMulS at h
  split at h
  · exact ⟨_, vo_repS ⟨h.1, h.2.1, h.2.2.1, h.2.2.2.1⟩, h.2.2.2.2⟩
  · exact h.elim)⟩
end U
/-! V1: what the defs promise: kinds, letters, cells, turns. -/
namespace U
def oGcd_q1 := @oGcd.eq_1
def oEvL_q1 := @oEvL.eq_1
def oOrd_q1 := @oOrd.eq_1
def oMulS_q1 := @oMulS.eq_1
def oTwoL_q1 := @oTwoL.eq_1
def oAdd_q1 := @oAdd.eq_1
def oAdd_q2 := @oAdd.eq_2
def oAdd_q3 := @oAdd.eq_3
def oAdd_q4 := @oAdd.eq_4
def oSub_q1 := @oSub.eq_1
def oMul_q1 := @oMul.eq_1
def oMul_q2 := @oMul.eq_2
def oMul_q3 := @oMul.eq_3
def oMulW_q1 := @oMulW.eq_1
def oMulZ_q1 := @oMulZ.eq_1
def oDic_q1 := @oDic.eq_1
def oMod_q1 := @oMod.eq_1
def oDiv_q1 := @oDiv.eq_1
def oDivW_q1 := @oDivW.eq_1
def oPow_q1 := @oPow.eq_1
def oNeg_q1 := @oNeg.eq_1
def oLt_q1 := @oLt.eq_1
def oLe_q1 := @oLe.eq_1
def oGt_q1 := @oGt.eq_1
def oGe_q1 := @oGe.eq_1
def oIs_q1 := @oIs.eq_1
def oIsNot_q1 := @oIsNot.eq_1
def oBool_q1 := @oBool.eq_1
def oInt_q1 := @oInt.eq_1
def oCut_q1 := @oCut.eq_1
def oCut_q2 := @oCut.eq_2
def oCut_q3 := @oCut.eq_3
def oRevT_q1 := @oRevT.eq_1
def oRevL_q1 := @oRevL.eq_1
def oItems_q1 := @oItems.eq_1
def oItems_q2 := @oItems.eq_2
def oLst_q1 := @oLst.eq_1
def oTup_q1 := @oTup.eq_1
def oTwo_q1 := @oTwo.eq_1
def oThree_q1 := @oThree.eq_1
def oLen_q1 := @oLen.eq_1
def oLen_q2 := @oLen.eq_2
def oLen_q3 := @oLen.eq_3
def oListOf_q1 := @oListOf.eq_1
def oListD_q1 := @oListD.eq_1
def oStrI_q1 := @oStrI.eq_1
def oListOf_q2 := @oListOf.eq_2
def oTupOf_q1 := @oTupOf.eq_1
def oTupOf_q2 := @oTupOf.eq_2
def oIntOf_q1 := @oIntOf.eq_1
def oIntOf_q2 := @oIntOf.eq_2
def oAbs_q1 := @oAbs.eq_1
def oListRg_q1 := @oListRg.eq_1
def oTupRg_q1 := @oTupRg.eq_1
def oMin2_q1 := @oMin2.eq_1
def oDivmod_q1 := @oDivmod.eq_1
def oKey_q1 := @oKey.eq_1
def oKey_q2 := @oKey.eq_2
def oAddI_q1 := @oAddI.eq_1
def oMulI_q1 := @oMulI.eq_1
def oLCat_q1 := @oLCat.eq_1
def oLRep_q1 := @oLRep.eq_1
end U
local macro_rules | `(tactic| simp_arith) => `(tactic| simp only [↓U.wSeq, ↓U.wNil, ↓U.wSet, ↓U.wSetN, ↓U.wPar2, ↓U.wPar3, ↓U.wRet, ↓U.wRetV, ↓U.wRetD, ↓U.wRetN, ↓U.wPass, ↓U.wBreak, ↓U.wCont, ↓U.wExpr, ↓U.wAppend, ↓U.wInsert, ↓U.wExtend, ↓U.wPopAt, ↓U.wPop, ↓U.wAug, ↓U.wFrz, ↓U.wAsg, ↓U.wIf, ↓U.wNever, ↓U.wTry, ↓U.wSortedSc, ↓U.wtThaw, ↓U.wCallK2_01, U.noOwn, U.Sl.mine, U.oGcd_q1, ↓U.wRaise1, ↓U.wRaise0, U.hdsW, ↓U.isOwn, ↓U.isOwnD, ↓U.wPutD, ↓U.wPutL, ↓U.wDget, ↓U.wDgetO, ↓U.wGetO, ↓U.wVar, ↓U.wVarQ, ↓U.wC, ↓U.wOp, ↓U.wOp1, ↓U.wOpL, ↓U.wCmp, ↓U.wtCmp, ↓U.wtCmpO, ↓U.wCmpO, ↓U.wChain, ↓U.wtChain, ↓U.wtVal, ↓U.wtNot, ↓U.wtAnd, ↓U.wtOr, ↓U.wAnd, ↓U.wOr, ↓U.wNot, ↓U.wIfE, ↓U.waNil, ↓U.waCons, ↓U.wTup, ↓U.wLst, ↓U.woNone, ↓U.woSome, ↓U.wSlice, ↓U.wCall, ↓U.wCallK2, ↓U.wCallK3_210, ↓U.wCallK3_201, ↓U.wRg2, U.oEvL_q1, ↓U.wCount, ↓U.wCountT, ↓U.wDisp3, ↓U.wDisp1, ↓U.wJoin, ↓U.wFind, ↓U.wiStr, U.oOrd_q1, U.oMulS_q1, ↓U.wSpread, ↓U.wIxO, ↓U.wpNil, ↓U.wpDat, ↓U.wpNew, ↓U.wnLst, ↓U.wnDic, ↓U.wnCat, ↓U.wnRep, ↓U.wnList, ↓U.wgName, ↓U.wgTwo, ↓U.wgThree, ↓U.wgFour, ↓U.wgTwoL, ↓U.wiLst, ↓U.wiTup, ↓U.wiR1, ↓U.wiR2, ↓U.wiEnumL, ↓U.wiEnumT, ↓U.wiZipL, U.oTwoL_q1, ↓U.wLc, ↓U.wLcF, ↓U.wLc2, ↓U.wnLc, ↓U.wnLcF, ↓U.wDc, U.calm, U.unset, U.setG, U.oAdd_q1, U.oAdd_q2, U.oAdd_q3, U.oAdd_q4, U.oSub_q1, U.oMul_q1, U.oMul_q2, U.oMul_q3, U.oMulW_q1, U.oMulZ_q1, ↓U.wScrCut, ↓U.wScrLen, ↓U.wtInD, ↓U.wtNotInD, ↓U.wCallK4_3210, U.oDic_q1, U.oMod_q1, U.oDiv_q1, U.oDivW_q1, U.oPow_q1, U.oNeg_q1, U.oLt_q1, U.oLe_q1, U.oGt_q1, U.oGe_q1, U.oIs_q1, U.oIsNot_q1, U.oBool_q1, U.oInt_q1, U.oCut_q1, U.oCut_q2, U.oCut_q3, U.oRevT_q1, U.oRevL_q1, U.oItems_q1, U.oItems_q2, U.oLst_q1, U.oTup_q1, U.oTwo_q1, U.oThree_q1, U.oLen_q1, U.oLen_q2, U.oLen_q3, U.oListOf_q1, U.oListD_q1, U.oStrI_q1, U.oListOf_q2, U.oTupOf_q1, U.oTupOf_q2, U.oIntOf_q1, U.oIntOf_q2, U.oAbs_q1, U.oIsi, U.oListRg_q1, U.oTupRg_q1, U.oMin2_q1, U.oDivmod_q1, U.oKey_q1, U.oKey_q2, U.oAddI_q1, U.oMulI_q1, U.oLCat_q1, U.oLRep_q1, U.Ga.start, List.map_cons, List.map_nil, List.cons_append, List.nil_append, List.replicate_succ, List.replicate_zero, List.append_nil, List.getElem?_cons_zero, List.getElem?_cons_succ, List.set_cons_zero, List.set_cons_succ, List.length_cons, List.length_nil, Nat.reduceAdd, Nat.reduceSub, Nat.reduceLT, Nat.reduceLeDiff, true_and, and_true, Bool.not_true, Bool.not_false, Bool.false_eq_true, Bool.true_eq_false, reduceCtorEq, false_implies, forall_const, true_implies, implies_true, Nat.zero_add, Nat.le_refl, and_self, eq_self, decide_true, decide_false, Bool.not_true, Bool.not_false, not_true_eq_false, not_false_eq_true, U.oEq_int, U.oEq_str, U.oNe_int, U.oNe_str, List.length_map])
local macro_rules | `(tactic| simp_arith [$xs,*]) => `(tactic| simp only [↓U.wSeq, ↓U.wNil, ↓U.wSet, ↓U.wSetN, ↓U.wPar2, ↓U.wPar3, ↓U.wRet, ↓U.wRetV, ↓U.wRetD, ↓U.wRetN, ↓U.wPass, ↓U.wBreak, ↓U.wCont, ↓U.wExpr, ↓U.wAppend, ↓U.wInsert, ↓U.wExtend, ↓U.wPopAt, ↓U.wPop, ↓U.wAug, ↓U.wFrz, ↓U.wAsg, ↓U.wIf, ↓U.wNever, ↓U.wTry, ↓U.wSortedSc, ↓U.wtThaw, ↓U.wCallK2_01, U.noOwn, U.Sl.mine, U.oGcd_q1, ↓U.wRaise1, ↓U.wRaise0, U.hdsW, ↓U.isOwn, ↓U.isOwnD, ↓U.wPutD, ↓U.wPutL, ↓U.wDget, ↓U.wDgetO, ↓U.wGetO, ↓U.wVar, ↓U.wVarQ, ↓U.wC, ↓U.wOp, ↓U.wOp1, ↓U.wOpL, ↓U.wCmp, ↓U.wtCmp, ↓U.wtCmpO, ↓U.wCmpO, ↓U.wChain, ↓U.wtChain, ↓U.wtVal, ↓U.wtNot, ↓U.wtAnd, ↓U.wtOr, ↓U.wAnd, ↓U.wOr, ↓U.wNot, ↓U.wIfE, ↓U.waNil, ↓U.waCons, ↓U.wTup, ↓U.wLst, ↓U.woNone, ↓U.woSome, ↓U.wSlice, ↓U.wCall, ↓U.wCallK2, ↓U.wCallK3_210, ↓U.wCallK3_201, ↓U.wRg2, U.oEvL_q1, ↓U.wCount, ↓U.wCountT, ↓U.wDisp3, ↓U.wDisp1, ↓U.wJoin, ↓U.wFind, ↓U.wiStr, U.oOrd_q1, U.oMulS_q1, ↓U.wSpread, ↓U.wIxO, ↓U.wpNil, ↓U.wpDat, ↓U.wpNew, ↓U.wnLst, ↓U.wnDic, ↓U.wnCat, ↓U.wnRep, ↓U.wnList, ↓U.wgName, ↓U.wgTwo, ↓U.wgThree, ↓U.wgFour, ↓U.wgTwoL, ↓U.wiLst, ↓U.wiTup, ↓U.wiR1, ↓U.wiR2, ↓U.wiEnumL, ↓U.wiEnumT, ↓U.wiZipL, U.oTwoL_q1, ↓U.wLc, ↓U.wLcF, ↓U.wLc2, ↓U.wnLc, ↓U.wnLcF, ↓U.wDc, U.calm, U.unset, U.setG, U.oAdd_q1, U.oAdd_q2, U.oAdd_q3, U.oAdd_q4, U.oSub_q1, U.oMul_q1, U.oMul_q2, U.oMul_q3, U.oMulW_q1, U.oMulZ_q1, ↓U.wScrCut, ↓U.wScrLen, ↓U.wtInD, ↓U.wtNotInD, ↓U.wCallK4_3210, U.oDic_q1, U.oMod_q1, U.oDiv_q1, U.oDivW_q1, U.oPow_q1, U.oNeg_q1, U.oLt_q1, U.oLe_q1, U.oGt_q1, U.oGe_q1, U.oIs_q1, U.oIsNot_q1, U.oBool_q1, U.oInt_q1, U.oCut_q1, U.oCut_q2, U.oCut_q3, U.oRevT_q1, U.oRevL_q1, U.oItems_q1, U.oItems_q2, U.oLst_q1, U.oTup_q1, U.oTwo_q1, U.oThree_q1, U.oLen_q1, U.oLen_q2, U.oLen_q3, U.oListOf_q1, U.oListD_q1, U.oStrI_q1, U.oListOf_q2, U.oTupOf_q1, U.oTupOf_q2, U.oIntOf_q1, U.oIntOf_q2, U.oAbs_q1, U.oIsi, U.oListRg_q1, U.oTupRg_q1, U.oMin2_q1, U.oDivmod_q1, U.oKey_q1, U.oKey_q2, U.oAddI_q1, U.oMulI_q1, U.oLCat_q1, U.oLRep_q1, U.Ga.start, List.map_cons, List.map_nil, List.cons_append, List.nil_append, List.replicate_succ, List.replicate_zero, List.append_nil, List.getElem?_cons_zero, List.getElem?_cons_succ, List.set_cons_zero, List.set_cons_succ, List.length_cons, List.length_nil, Nat.reduceAdd, Nat.reduceSub, Nat.reduceLT, Nat.reduceLeDiff, true_and, and_true, Bool.not_true, Bool.not_false, Bool.false_eq_true, Bool.true_eq_false, reduceCtorEq, false_implies, forall_const, true_implies, implies_true, Nat.zero_add, Nat.le_refl, and_self, eq_self, decide_true, decide_false, Bool.not_true, Bool.not_false, not_true_eq_false, not_false_eq_true, U.oEq_int, U.oEq_str, U.oNe_int, U.oNe_str, List.length_map, $xs,*])
namespace V
open PySem PySem.Spec PyProof.Rows L2 U
/-! ### kinds -/
def isI : D → Bool
  | .int _ => true
  | _ => false
theorem isI_ty {d : D} (h : d.isAd = false) : (isTyN "int" (tyOf d) && !isTyN "bool" (tyOf d)) = isI d := by
  cases d <;> first | rfl | (cases h)
def sp_is_whole (_ : Addr) : Fs := fun ds P _ => ∃ d, ds = [d] ∧ d.isAd = false ∧ P (.bl (isI d))
abbrev w_is_whole (E : Addr → Option (Str × D) → Ga → Prop) : WS :=
  wSeq (wRet (wAnd (wOp1 (oIsi "int") (wVarQ 0)) (wNot (wOp1 (oIsi "bool") (wVarQ 0))))) wNil
theorem vc_is_whole {u : Addr} {ds : List D} {P : D → Prop} {X : Addr → Option (Str × D) → Prop} (h : sp_is_whole u ds P X) : w_is_whole (fun C fo _ => X C fo) (Ga.start 1 ds) { nx := fun _ => P .non, rt := P } := by
  obtain ⟨d, rfl, hd, h⟩ := h
  simp_arith [oIsi]
  rw [← isI_ty hd] at h
  exact ⟨hd, fun e => ⟨hd, by rw [e] at h; exact h⟩, fun e => by rw [e] at h; exact h⟩
/-- within -/
def wi (d : D) (a b : Int) : Bool := match d with
  | .int i => decide (a ≤ i) && decide (i ≤ b)
  | _ => false
def sp_is_within (_ : Addr) : Fs := fun ds P _ => ∃ (d : D) (a b : Int), ds = [d, .int a, .int b] ∧ d.isAd = false ∧ P (.bl (wi d a b))
abbrev w_is_within (S_is_whole : Fs) (E : Addr → Option (Str × D) → Ga → Prop) : WS :=
  wSeq (wRet (wAnd (wCall 1 S_is_whole E (waCons (wVar 0) waNil)) (wChain oLe oLe (wVar 1) (wVar 0) (wVar 2)))) wNil
theorem vc_is_within {u : Addr} {ds : List D} {P : D → Prop} {X : Addr → Option (Str × D) → Prop} (h : sp_is_within u ds P X) : w_is_within (sp_is_whole u) (fun C fo _ => X C fo) (Ga.start 3 ds) { nx := fun _ => P .non, rt := P } := by
  obtain ⟨d, a, b, rfl, hd, h⟩ := h
  simp_arith
  refine ⟨d, rfl, hd, ?_⟩
  simp_arith
  cases d with
  | int i =>
    simp_arith [isI]
    have h : P (.bl (decide (a ≤ i) && decide (i ≤ b))) := h
    refine ⟨fun e => ?_, fun e => ?_⟩
    · rw [e] at h; exact h
    · rw [e] at h; exact h
  | _ =>
    simp_arith [isI]
    exact h
def isLet (d : D) : Bool := wi d 0 25
def sp_is_letter (_ : Addr) : Fs := fun ds P _ => ∃ (d : D), ds = [d] ∧ d.isAd = false ∧ P (.bl (isLet d))
abbrev w_is_letter (S_is_within : Fs) (E : Addr → Option (Str × D) → Ga → Prop) : WS :=
  wSeq (wRet (wCall 3 S_is_within E (waCons (wVar 0) (waCons (wC (.int 0)) (waCons (wC (.int 25)) waNil))))) wNil
theorem vc_is_letter {u : Addr} {ds : List D} {P : D → Prop} {X : Addr → Option (Str × D) → Prop} (h : sp_is_letter u ds P X) : w_is_letter (sp_is_within u) (fun C fo _ => X C fo) (Ga.start 1 ds) { nx := fun _ => P .non, rt := P } := by
  obtain ⟨d, rfl, hd, h⟩ := h
  simp_arith
  exact ⟨d, 0, 25, rfl, hd, h⟩
def isLetOf (ns : List Int) (d : D) : Bool := match d with
  | .int i => (decide (0 ≤ i) && decide (i ≤ 25)) && decide (i ∈ ns)
  | _ => false
def sp_is_letter_of (_ : Addr) : Fs := fun ds P _ => ∃ (ns : List Int) (d : D), ds = [.tup (ns.map D.int), d] ∧ d.isAd = false ∧ P (.bl (isLetOf ns d))
abbrev w_is_letter_of (S_is_letter : Fs) (E : Addr → Option (Str × D) → Ga → Prop) : WS :=
  wSeq (wRet (wAnd (wCall 1 S_is_letter E (waCons (wVar 1) waNil)) (wCmp oIn (wVar 1) (wVarQ 0)))) wNil
theorem vc_is_letter_of {u : Addr} {ds : List D} {P : D → Prop} {X : Addr → Option (Str × D) → Prop} (h : sp_is_letter_of u ds P X) : w_is_letter_of (sp_is_letter u) (fun C fo _ => X C fo) (Ga.start 2 ds) { nx := fun _ => P .non, rt := P } := by
  obtain ⟨ns, d, rfl, hd, h⟩ := h
  simp_arith
  refine ⟨d, rfl, hd, ?_⟩
  simp_arith
  cases d with
  | int i =>
    have h : P (.bl ((decide (0 ≤ i) && decide (i ≤ 25)) && decide (i ∈ ns))) := h
    unfold isLet wi
    simp_arith
    refine ⟨fun e => ?_, fun e => ?_⟩
    · rw [e] at h
      exact ⟨ns, .inr rfl, h⟩
    · rw [e] at h; exact h
  | _ =>
    unfold isLet wi
    simp_arith
    exact h
/-! ### checks, where nothing is raised -/
def sp_check_letter (_ : Addr) : Fs := fun ds P _ => ∃ (ns : List Int) (i : Int), ds = [.tup (ns.map D.int), .int i] ∧ i ∈ ns ∧ 0 ≤ i ∧ i ≤ 25 ∧ P .non
abbrev w_check_letter (S_is_letter_of : Fs) (E : Addr → Option (Str × D) → Ga → Prop) : WS :=
  wSeq (wIf (wtNot (wtVal (wCall 2 S_is_letter_of E (waCons (wVar 0) (waCons (wVar 1) waNil))))) (wSeq wNever wNil) wNil) wNil
theorem vc_check_letter {u : Addr} {ds : List D} {P : D → Prop} {X : Addr → Option (Str × D) → Prop} (h : sp_check_letter u ds P X) : w_check_letter (sp_is_letter_of u) (fun C fo _ => X C fo) (Ga.start 2 ds) { nx := fun _ => P .non, rt := P } := by
  obtain ⟨ns, i, rfl, h1, h2, h3, h⟩ := h
  simp_arith
  refine ⟨ns, .int i, rfl, rfl, ?_⟩
  have e : isLetOf ns (.int i) = true := by unfold isLetOf; simp [h1, h2, h3]
  rw [e]
  simp_arith
  exact h
def sp_check_letters (_ : Addr) : Fs := fun ds P _ => ∃ (ns ks : List Int), ds = [.tup (ns.map D.int), .tup (ks.map D.int)] ∧ (∀ i ∈ ks, i ∈ ns ∧ 0 ≤ i ∧ i ≤ 25) ∧ P .non
abbrev w_check_letters (S_check_letter : Fs) (E : Addr → Option (Str × D) → Ga → Prop) : WS :=
  wSeq (wFor (wiTup (wVar 1)) (wgName 2) (wSeq (wExpr (wCall 2 S_check_letter E (waCons (wVar 0) (waCons (wVar 2) waNil)))) wNil)) wNil
theorem vc_check_letters {u : Addr} {ds : List D} {P : D → Prop} {X : Addr → Option (Str × D) → Prop} (h : sp_check_letters u ds P X) : w_check_letters (sp_check_letter u) (fun C fo _ => X C fo) (Ga.start 3 ds) { nx := fun _ => P .non, rt := P } := by
  obtain ⟨ns, ks, rfl, hk, h⟩ := h
  simp_arith [wFor]
  refine ⟨fun _ Γ => ∃ s2, Γ = [.dat (.tup (ns.map D.int)), .dat (.tup (ks.map D.int)), s2], ⟨_, rfl⟩, ?_, fun _ _ => h⟩
  rintro i x Γ hx ⟨s2, rfl⟩
  obtain ⟨n, hn, rfl⟩ := intsAt hx
  obtain ⟨h1, h2, h3⟩ := hk n (List.mem_of_getElem? hn)
  simp_arith
  exact ⟨ns, n, rfl, h1, h2, h3, _, rfl⟩
/-! ### cells -/
def cellsF (l : Int) : List Int → Nat → List Int
  | [], _ => []
  | n :: ns, s => if n = l then (s : Int) :: cellsF l ns (s + 1) else cellsF l ns (s + 1)
def cellsAt (ns : List Int) (l : Int) : List Int := cellsF l ns 0
theorem cellsF_snoc (l n : Int) : ∀ (ns : List Int) (s : Nat), cellsF l (ns ++ [n]) s = cellsF l ns s ++ (if n = l then [((s + ns.length : Nat) : Int)] else [])
  | [], s => by
    show (if n = l then [(s : Int)] else []) = _
    rfl
  | m :: ns, s => by
    rw [List.cons_append]
    unfold cellsF
    rw [cellsF_snoc l n ns (s + 1)]
    have e : s + 1 + ns.length = s + (m :: ns).length := by simp; omega
    rw [e]
    split <;> simp
theorem cells_take {ns : List Int} {l : Int} {i : Nat} {n : Int} (h : ns[i]? = some n) : cellsAt (ns.take (i + 1)) l = cellsAt (ns.take i) l ++ (if n = l then [(i : Int)] else []) := by
  have hi := (List.getElem?_eq_some_iff.mp h).1
  rw [List.take_succ, h]
  unfold cellsAt
  have e := cellsF_snoc l n (ns.take i) 0
  rw [List.length_take, Nat.min_eq_left (Nat.le_of_lt hi), Nat.zero_add] at e
  exact e
theorem cells_len_le (l : Int) : ∀ (ns : List Int) (s : Nat), (cellsF l ns s).length ≤ ns.length
  | [], _ => Nat.le_refl _
  | n :: ns, s => by
    unfold cellsF
    have := cells_len_le l ns (s + 1)
    split <;> simp <;> omega
theorem cells_mem (l : Int) : ∀ (ns : List Int) (s : Nat), ∀ x ∈ cellsF l ns s, (s : Int) ≤ x ∧ x < ((s + ns.length : Nat) : Int)
  | [], _, _, h => by cases h
  | n :: ns, s, x, h => by
    unfold cellsF at h
    have ih := cells_mem l ns (s + 1) x
    split at h
    · rcases List.mem_cons.mp h with rfl | h
      · simp; omega
      · have := ih h
        simp at this ⊢
        omega
    · have := ih h
      simp at this ⊢
      omega
theorem cells_pos {l : Int} : ∀ {ns : List Int} {s : Nat}, l ∈ ns → 0 < (cellsF l ns s).length
  | [], _, h => by cases h
  | n :: ns, s, h => by
    unfold cellsF
    split
    · simp
    · rename_i hn
      rcases List.mem_cons.mp h with e | h
      · exact absurd e.symm hn
      · exact cells_pos h
theorem lcF_cells {ns : List Int} {l : Int} {vs : List Nat} : True := trivial
def sp_cells_of (_ : Addr) : Fs := fun ds P _ => ∃ (ns : List Int) (l : Int), ds = [.tup (ns.map D.int), .int l] ∧ ns.length ≤ 100000 ∧ P (.tup ((cellsAt ns l).map D.int))
abbrev w_cells_of (E : Addr → Option (Str × D) → Ga → Prop) : WS :=
  wSeq (wRet (wOp1 oTupOf (wLcF [2, 3] (wiEnumT (wVar 0)) (wgTwo 2 3) (wtCmp oEq (wVar 3) (wVarQ 1)) (wVar 2)))) wNil
theorem vc_cells_of {u : Addr} {ds : List D} {P : D → Prop} {X : Addr → Option (Str × D) → Prop} (h : sp_cells_of u ds P X) : w_cells_of (fun C fo _ => X C fo) (Ga.start 4 ds) { nx := fun _ => P .non, rt := P } := by
  obtain ⟨ns, l, rfl, hl, h⟩ := h
  simp_arith
  refine ⟨by rw [enumD_length]; simp; omega, fun i acc => acc = (cellsAt (ns.take i) l).map D.int, rfl, ?_, ?_⟩
  · rintro i x acc hx rfl -
    obtain ⟨n, hn, rfl⟩ := enum_at hx
    simp_arith
    rw [cells_take hn]
    refine ⟨fun e => ?_, fun e => ?_⟩
    · rw [if_pos (of_decide_eq_true e)]; simp
    · rw [if_neg (of_decide_eq_false e)]; simp
  · rintro acc rfl
    rw [enumD_length, List.length_map, List.take_length]
    exact h
/-! ### a letter written -/
def halv (q : Int) : Nat → Int → List Int × Int
  | 0, x => ([], x)
  | f + 1, x => if 2 * q ≤ x then ((x % 2) :: (halv q f (x / 2)).1, (halv q f (x / 2)).2) else ([], x)
theorem halv_fuel {q : Int} (hq : 0 < q) : ∀ (f g : Nat) (x : Int), x ≤ f → x ≤ g → halv q f x = halv q g x
  | 0, 0, _, _, _ => rfl
  | 0, g + 1, x, h, _ => by
    unfold halv
    rw [if_neg (by omega)]
  | f + 1, 0, x, _, h => by
    unfold halv
    rw [if_neg (by omega)]
  | f + 1, g + 1, x, h, h' => by
    unfold halv
    split
    · rw [halv_fuel hq f g (x / 2) (by omega) (by omega)]
    · rfl
/-- the bits of a letter with q cells at x, and what is left of x -/
def hb (q x : Int) : List Int := (halv q x.toNat x).1
def hx (q x : Int) : Int := (halv q x.toNat x).2
theorem halv_at {q x : Int} (hq : 0 < q) (h : 2 * q ≤ x) : hb q x = (x % 2) :: hb q (x / 2) ∧ hx q x = hx q (x / 2) := by
  have e : halv q x.toNat x = halv q ((x / 2).toNat + 1) x ∨ True := .inr trivial
  have e1 : halv q x.toNat x = ((x % 2) :: (halv q (x / 2).toNat (x / 2)).1, (halv q (x / 2).toNat (x / 2)).2) := by
    obtain ⟨f, hf⟩ : ∃ f, x.toNat = f + 1 := ⟨x.toNat - 1, by omega⟩
    rw [hf]
    unfold halv
    rw [if_pos h, halv_fuel hq f (x / 2).toNat (x / 2) (by omega) (by omega)]
    cases (x / 2).toNat <;> rfl
  unfold hb hx
  rw [e1]
  exact ⟨rfl, rfl⟩
theorem halv_end {q x : Int} (h : ¬ 2 * q ≤ x) : hb q x = [] ∧ hx q x = x := by
  unfold hb hx halv
  cases x.toNat with
  | zero => exact ⟨rfl, rfl⟩
  | succ n =>
    show (if 2 * q ≤ x then ((x % 2) :: (halv q n (x / 2)).1, (halv q n (x / 2)).2) else ([], x)).1 = [] ∧ (if 2 * q ≤ x then ((x % 2) :: (halv q n (x / 2)).1, (halv q n (x / 2)).2) else ([], x)).2 = x
    rw [if_neg h]
    exact ⟨rfl, rfl⟩
theorem hx_in {q : Int} (hq : 0 < q) : ∀ (n : Nat) (x : Int), x.toNat ≤ n → q ≤ x → q ≤ hx q x ∧ hx q x < 2 * q
  | 0, x, h, h1 => by omega
  | n + 1, x, h, h1 => by
    by_cases c : 2 * q ≤ x
    · rw [(halv_at hq c).2]
      exact hx_in hq n (x / 2) (by omega) (by omega)
    · rw [(halv_end c).2]
      omega
theorem hb_len {q : Int} (hq : 0 < q) : ∀ (n : Nat) (x : Int), x.toNat ≤ n → (hb q x).length ≤ n
  | 0, x, h => by
    rw [(halv_end (x := x) (by omega)).1]; simp
  | n + 1, x, h => by
    by_cases c : 2 * q ≤ x
    · rw [(halv_at hq c).1]
      have := hb_len hq n (x / 2) (by omega)
      simp; omega
    · rw [(halv_end c).1]; simp
theorem hb_bits {q : Int} (hq : 0 < q) : ∀ (n : Nat) (x : Int), x.toNat ≤ n → 0 ≤ x → ∀ b ∈ hb q x, b = 0 ∨ b = 1
  | 0, x, h, h1 => by
    rw [(halv_end (x := x) (by omega)).1]; simp
  | n + 1, x, h, h1 => by
    by_cases c : 2 * q ≤ x
    · rw [(halv_at hq c).1]
      intro b hbm
      rcases List.mem_cons.mp hbm with rfl | hbm
      · omega
      · exact hb_bits hq n (x / 2) (by omega) (by omega) b hbm
    · rw [(halv_end c).1]; simp
def sp_letter_written (_ : Addr) : Fs := fun ds P _ => ∃ (m x : Int) (cs : List Int), ds = [.int m, .tup (cs.map D.int), .int x] ∧ 0 < cs.length ∧ cs.length ≤ 100000 ∧ (cs.length : Int) ≤ x ∧ x ≤ 1000000 ∧ P (.tup [.lst ((hb cs.length x).map D.int), .int (m + cs.getD (hx cs.length x - cs.length).toNat 0)])
abbrev w_letter_written (E : Addr → Option (Str × D) → Ga → Prop) : WS :=
  wSeq (wSetN 3 (wnLst waNil)) (wMid (wWhile (wtCmp oGe (wVar 2) (wOp oMul (wC (.int 2)) (wOp1 oLen (wVarQ 1)))) (wSeq (wAppend 3 (wOp oMod (wVar 2) (wC (.int 2)))) (wSeq (wAug oDiv 2 (wC (.int 2))) wNil))) (wFrz 3 (wSeq (wRet (wTup (waCons (wVar 3) (waCons (wOp oAdd (wVar 0) (wOp oIx (wVar 1) (wOp oSub (wVar 2) (wOp1 oLen (wVarQ 1))))) waNil)))) wNil)))
theorem vc_letter_written {u : Addr} {ds : List D} {P : D → Prop} {X : Addr → Option (Str × D) → Prop} (h : sp_letter_written u ds P X) : w_letter_written (fun C fo _ => X C fo) (Ga.start 4 ds) { nx := fun _ => P .non, rt := P } := by
  obtain ⟨m, x0, cs, rfl, hc, hc2, hx0, hx2, h⟩ := h
  have hq : (0 : Int) < cs.length := by omega
  have hlen0 := hb_len hq x0.toNat x0 (Nat.le_refl _)
  simp_arith
  refine ⟨fun Γ => Γ = [.dat (.int m), .dat (.tup (cs.map D.int)), .dat (.int (hx cs.length x0)), .own ((hb cs.length x0).map D.int)], ?_, ?_⟩
  · refine ⟨fun k Γ => ∃ (x : Int) (bs : List Int), Γ = [.dat (.int m), .dat (.tup (cs.map D.int)), .dat (.int x), .own (bs.map D.int)] ∧ x.toNat = k ∧ (cs.length : Int) ≤ x ∧ hb cs.length x0 = bs ++ hb cs.length x ∧ hx cs.length x0 = hx cs.length x, x0.toNat, ⟨x0, [], rfl, rfl, hx0, rfl, rfl⟩, ?_⟩
    rintro k Γ ⟨x, bs, rfl, rfl, hx1, e1, e2⟩
    simp_arith
    refine ⟨cmul_lN (by decide) (by decide), fun c => ?_, fun c => ?_⟩
    · have c := of_decide_eq_true c
      obtain ⟨g1, g2⟩ := halv_at hq c
      have hl : bs.length < 16777216 := by
        have := congrArg List.length e1
        rw [List.length_append] at this
        omega
      refine ⟨by decide, hl, by decide, by decide, (x / 2).toNat, by omega, x / 2, bs ++ [x % 2], by simp, rfl, by omega, ?_, ?_⟩
      · rw [e1, g1]; simp
      · rw [e2, g2]
    · have c := of_decide_eq_false c
      obtain ⟨g1, g2⟩ := halv_end c
      rw [e1, e2, g1, g2]
      simp
  · rintro Γ rfl
    obtain ⟨g1, g2⟩ := hx_in hq x0.toNat x0 (Nat.le_refl _) hx0
    simp_arith
    refine oIx_ti (by omega) (by omega) ?_
    simp_arith
    exact h
/-! ### turns -/
def ledI (ns : List Int) (h : Int) : Int := h / (ns.length : Int) * (ns.length : Int) + ns.getD (h % (ns.length : Int)).toNat 0
def sp_led (_ : Addr) : Fs := fun ds P _ => ∃ (ns : List Int) (h : Int), ds = [.tup (ns.map D.int), .int h] ∧ 0 < ns.length ∧ ns.length ≤ 100000 ∧ P (.int (ledI ns h))
abbrev w_led (E : Addr → Option (Str × D) → Ga → Prop) : WS :=
  wSeq (wAsg (wOpL oDivmod (waCons (wVar 1) (waCons (wOp1 oLen (wVarQ 0)) waNil))) (wgTwo 2 3)) (wSeq (wRet (wOp oAdd (wOp oMul (wVar 2) (wOp1 oLen (wVarQ 0))) (wOp oIx (wVar 0) (wVarQ 3)))) wNil)
theorem vc_led {u : Addr} {ds : List D} {P : D → Prop} {X : Addr → Option (Str × D) → Prop} (h : sp_led u ds P X) : w_led (fun C fo _ => X C fo) (Ga.start 4 ds) { nx := fun _ => P .non, rt := P } := by
  obtain ⟨ns, hh, rfl, h1, h2, h⟩ := h
  simp_arith
  refine ⟨by omega, by omega, cmul_rN (by omega) (by omega), ?_⟩
  refine oIx_ti (Int.emod_nonneg _ (by omega)) (Int.emod_lt_of_pos _ (by omega)) ?_
  simp_arith
  exact h
abbrev w__law_height (E : Addr → Option (Str × D) → Ga → Prop) : WS :=
  wSeq (wSet 2 (wOp1 oLen (wVarQ 0))) (wSeq (wRet (wOp oAdd (wOp oMul (wOp oDiv (wVar 1) (wVarQ 2)) (wVarQ 2)) (wOp oIx (wVar 0) (wOp oMod (wOp1 oIntOf (wVar 1)) (wVarQ 2))))) wNil)
theorem vc__law_height {u : Addr} {ds : List D} {P : D → Prop} {X : Addr → Option (Str × D) → Prop} (h : sp_led u ds P X) : w__law_height (fun C fo _ => X C fo) (Ga.start 3 ds) { nx := fun _ => P .non, rt := P } := by
  obtain ⟨ns, hh, rfl, h1, h2, h⟩ := h
  simp_arith
  refine ⟨by omega, by omega, cmul_rN (by omega) (by omega), by omega, ?_⟩
  refine oIx_ti (Int.emod_nonneg _ (by omega)) (Int.emod_lt_of_pos _ (by omega)) ?_
  simp_arith
  exact h
def sp__law_height := sp_led
/-- 0, 1, .. -/
def iota (n : Nat) : List Int := (List.range n).map fun (i : Nat) => (i : Int)
theorem rangeD_iota (n : Nat) : rangeD 0 n = (iota n).map D.int := by
  unfold rangeD iota
  rw [List.map_map]
  exact List.map_congr_left fun i _ => by simp
def sp_plain_turn (_ : Addr) : Fs := fun ds P _ => ∃ n : Nat, ds = [.int n] ∧ n ≤ 100000 ∧ P (.tup ((iota n).map D.int))
abbrev w_plain_turn (E : Addr → Option (Str × D) → Ga → Prop) : WS :=
  wSeq (wRet (wOp1 oTupRg (wVar 0))) wNil
theorem vc_plain_turn {u : Addr} {ds : List D} {P : D → Prop} {X : Addr → Option (Str × D) → Prop} (h : sp_plain_turn u ds P X) : w_plain_turn (fun C fo _ => X C fo) (Ga.start 1 ds) { nx := fun _ => P .non, rt := P } := by
  obtain ⟨n, rfl, h1, h⟩ := h
  simp_arith
  refine ⟨by omega, by omega, ?_⟩
  rw [Int.toNat_natCast, rangeD_iota]
  exact h
def comp (a b : List Int) : List Int := a.map (ledI b)
def sp_then (_ : Addr) : Fs := fun ds P _ => ∃ a b : List Int, ds = [.tup (a.map D.int), .tup (b.map D.int)] ∧ a.length ≤ 100000 ∧ 0 < b.length ∧ b.length ≤ 100000 ∧ P (.tup ((comp a b).map D.int))
abbrev w_then (S_led : Fs) (E : Addr → Option (Str × D) → Ga → Prop) : WS :=
  wSeq (wRet (wOp1 oTupOf (wLc [2] (wiTup (wVar 0)) (wgName 2) (wCall 2 S_led (fun _ _ _ => False) (waCons (wVar 1) (waCons (wVar 2) waNil)))))) wNil
theorem vc_then {u : Addr} {ds : List D} {P : D → Prop} {X : Addr → Option (Str × D) → Prop} (h : sp_then u ds P X) : w_then (sp_led u) (fun C fo _ => X C fo) (Ga.start 3 ds) { nx := fun _ => P .non, rt := P } := by
  obtain ⟨a, b, rfl, h1, h2, h3, h⟩ := h
  simp_arith
  refine ⟨by omega, fun x y => ∀ i, x = .int i → y = .int (ledI b i), ?_, fun ys hy => ?_⟩
  · intro x hx
    obtain ⟨n, hn, rfl⟩ := intsMem hx
    simp_arith
    exact ⟨b, n, rfl, h2, h3, fun i e => by cases e; rfl⟩
  · have e : ys = (comp a b).map D.int := by
      clear h h1
      unfold comp
      generalize hd : a.map D.int = as at hy
      induction hy generalizing a with
      | nil => cases a with
        | nil => rfl
        | cons _ _ => cases hd
      | cons hr _ ih => cases a with
        | nil => cases hd
        | cons n ns =>
          cases hd
          rw [hr n rfl, ih ns rfl]
          rfl
    rw [e]
    exact h
def sp__law_both := sp_then
abbrev w__law_both (S__law_height : Fs) (E : Addr → Option (Str × D) → Ga → Prop) : WS :=
  wSeq (wRet (wOp1 oTupOf (wLc [2] (wiTup (wVar 0)) (wgName 2) (wCall 2 S__law_height (fun _ _ _ => False) (waCons (wVar 1) (waCons (wVar 2) waNil)))))) wNil
theorem vc__law_both {u : Addr} {ds : List D} {P : D → Prop} {X : Addr → Option (Str × D) → Prop} (h : sp_then u ds P X) : w__law_both (sp_led u) (fun C fo _ => X C fo) (Ga.start 3 ds) { nx := fun _ => P .non, rt := P } := vc_then h
end V
/-! V2: turns put together; the turn of a letter, of a text; powers. -/
namespace V
open PySem PySem.Spec PyProof.Rows L2 U
theorem iota_len (n : Nat) : (iota n).length = n := by unfold iota; simp
theorem iota_at {n i : Nat} (h : i < n) : (iota n).getD i 0 = (i : Int) := by unfold iota; simp [List.getD, h]
theorem getD_map {α : Type} (f : α → Int) (xs : List α) (i : Nat) (d : α) (h : i < xs.length) : (xs.map f).getD i 0 = f (xs.getD i d) := by
  simp [List.getD, List.getElem?_eq_getElem h]
theorem ext_getD {a b : List Int} (hl : a.length = b.length) (h : ∀ i, i < a.length → a.getD i 0 = b.getD i 0) : a = b := by
  refine List.ext_getElem hl fun i h1 h2 => ?_
  have := h i h1
  simpa [List.getD, List.getElem?_eq_getElem h1, List.getElem?_eq_getElem h2] using this
theorem ledI_add {b : List Int} (hb : 0 < b.length) (h k : Int) : ledI b (h + k * (b.length : Int)) = ledI b h + k * (b.length : Int) := by
  unfold ledI
  have hL : (b.length : Int) ≠ 0 := by omega
  rw [Int.add_mul_ediv_right _ _ hL, Int.add_mul_emod_self_right, Int.add_mul]
  omega
theorem comp_len (a b : List Int) : (comp a b).length = a.length := by unfold comp; simp
theorem ledI_comp {a b : List Int} (ha : 0 < a.length) (hab : b.length = a.length) (h : Int) : ledI (comp a b) h = ledI b (ledI a h) := by
  have hb : 0 < b.length := by omega
  have hp0 := Int.emod_nonneg h (b := (a.length : Int)) (by omega)
  have hp1 := Int.emod_lt_of_pos h (b := (a.length : Int)) (by omega)
  have e : ledI a h = a.getD (h % (a.length : Int)).toNat 0 + h / (a.length : Int) * (b.length : Int) := by
    unfold ledI
    rw [hab]
    omega
  rw [e, ledI_add hb]
  show h / ((comp a b).length : Int) * ((comp a b).length : Int) + (comp a b).getD (h % ((comp a b).length : Int)).toNat 0 = _
  rw [comp_len]
  have e2 : (comp a b).getD (h % (a.length : Int)).toNat 0 = ledI b (a.getD (h % (a.length : Int)).toNat 0) := getD_map _ _ _ 0 (by omega)
  rw [e2, hab]
  omega
theorem comp_assoc {a b c : List Int} (hb : 0 < b.length) (hbc : c.length = b.length) : comp (comp a b) c = comp a (comp b c) := by
  show (a.map (ledI b)).map (ledI c) = a.map (ledI (comp b c))
  rw [List.map_map]
  exact List.map_congr_left fun x _ => (ledI_comp hb hbc x).symm
theorem ledI_iota {n : Nat} (hn : 0 < n) (h : Int) : ledI (iota n) h = h := by
  unfold ledI
  rw [iota_len]
  have hp0 := Int.emod_nonneg h (b := (n : Int)) (by omega)
  have hp1 := Int.emod_lt_of_pos h (b := (n : Int)) (by omega)
  rw [iota_at (by omega), Int.toNat_of_nonneg hp0]
  have := Int.emod_add_mul_ediv h n
  rw [Int.mul_comm] at this
  omega
theorem comp_iota {n : Nat} (hn : 0 < n) (a : List Int) : comp a (iota n) = a := by
  unfold comp
  have : ledI (iota n) = id := funext fun h => ledI_iota hn h
  rw [this, List.map_id]
theorem iota_comp {b : List Int} (hb : 0 < b.length) : comp (iota b.length) b = b := by
  refine ext_getD (by rw [comp_len, iota_len]) fun i hi => ?_
  rw [comp_len, iota_len] at hi
  have e : (comp (iota b.length) b).getD i 0 = ledI b ((iota b.length).getD i 0) := getD_map _ _ _ 0 (by rw [iota_len]; exact hi)
  rw [e, iota_at hi]
  unfold ledI
  rw [Int.ediv_eq_zero_of_lt (by omega) (by omega), Int.emod_eq_of_lt (by omega) (by omega)]
  simp
def powT (t : List Int) : Nat → List Int
  | 0 => iota t.length
  | n + 1 => comp (powT t n) t
theorem powT_len (t : List Int) : ∀ n, (powT t n).length = t.length
  | 0 => iota_len _
  | n + 1 => by unfold powT; rw [comp_len, powT_len t n]
theorem powT_add {t : List Int} (ht : 0 < t.length) (m : Nat) : ∀ n, powT t (m + n) = comp (powT t m) (powT t n)
  | 0 => by
    show powT t m = comp (powT t m) (iota t.length)
    rw [comp_iota ht]
  | n + 1 => by
    show comp (powT t (m + n)) t = comp (powT t m) (comp (powT t n) t)
    rw [powT_add ht m n, comp_assoc (by rw [powT_len]; exact ht) (by rw [powT_len])]
theorem powT_mul {t : List Int} (ht : 0 < t.length) (m : Nat) : ∀ n, powT (powT t m) n = powT t (m * n)
  | 0 => by
    show iota (powT t m).length = iota t.length
    rw [powT_len]
  | n + 1 => by
    show comp (powT (powT t m) n) (powT t m) = powT t (m * n + m)
    rw [powT_mul ht m n, powT_add ht]
theorem powT_one {t : List Int} (ht : 0 < t.length) : powT t 1 = t := iota_comp ht
/-! ### how great -/
def Bnd (t : List Int) (M : Nat) : Prop := ∀ x ∈ t, x.natAbs ≤ M
theorem Bnd.at {t : List Int} {M : Nat} (h : Bnd t M) (i : Nat) : (t.getD i 0).natAbs ≤ M := by
  by_cases hi : i < t.length
  · have e : t.getD i 0 = t[i] := by simp [List.getD, List.getElem?_eq_getElem hi]
    rw [e]
    exact h _ (List.getElem_mem _)
  · have e : t.getD i 0 = 0 := by simp [List.getD, List.getElem?_eq_none (Nat.le_of_not_lt hi)]
    rw [e]
    simp
theorem ledI_bnd {b : List Int} {B : Nat} (hb : 0 < b.length) (hB : Bnd b B) (h : Int) : (ledI b h).natAbs ≤ h.natAbs + b.length + B := by
  unfold ledI
  have h1 := hB.at (h % (b.length : Int)).toNat
  have h2 := Int.emod_add_mul_ediv h b.length
  rw [Int.mul_comm] at h2
  have h3 := Int.emod_nonneg h (b := (b.length : Int)) (by omega)
  have h4 := Int.emod_lt_of_pos h (b := (b.length : Int)) (by omega)
  generalize h / (b.length : Int) * (b.length : Int) = z at *
  generalize h % (b.length : Int) = r at *
  omega
theorem comp_bnd {a b : List Int} {A B : Nat} (hb : 0 < b.length) (hA : Bnd a A) (hB : Bnd b B) : Bnd (comp a b) (A + b.length + B) := fun x hx => by
  obtain ⟨y, hy, rfl⟩ := List.mem_map.mp hx
  have := ledI_bnd hb hB y
  have := hA y hy
  omega
theorem iota_bnd (n : Nat) : Bnd (iota n) n := fun x hx => by
  obtain ⟨i, hi, rfl⟩ := List.mem_map.mp hx
  have := List.mem_range.mp hi
  omega
theorem powT_bnd {t : List Int} {M : Nat} (ht : 0 < t.length) (hM : Bnd t M) : ∀ n, Bnd (powT t n) (t.length + n * (t.length + M))
  | 0 => by
    rw [Nat.zero_mul]
    exact iota_bnd _
  | n + 1 => fun x hx => by
    have := comp_bnd ht (powT_bnd ht hM n) hM x hx
    rw [Nat.succ_mul]
    omega
theorem Bnd.le {t : List Int} {M N : Nat} (h : Bnd t M) (hle : M ≤ N) : Bnd t N := fun x hx => Nat.le_trans (h x hx) hle
theorem Bnd.small {t : List Int} {M : Nat} (h : Bnd t M) (hM : M < 2 ^ 600) (hl : t.length ≤ 20000) : Small (.int 0) → Shown (.tup (t.map D.int)) := fun _ =>
  (Smalls.ints fun i hi => Nat.lt_of_le_of_lt (h i hi) hM).tup hl
theorem shown_tup {t : List Int} {M : Nat} (h : Bnd t M) (hM : M < 2 ^ 600) (hl : t.length ≤ 20000) : Shown (.tup (t.map D.int)) :=
  (Smalls.ints fun i hi => Nat.lt_of_le_of_lt (h i hi) hM).tup hl
/-! ### the turn of a letter, of a text -/
def lt1 (ns : List Int) (l x : Int) : Int := ((hb (cellsAt ns l).length x).length : Int) * (ns.length : Int) + ((ns.length : Int) + (cellsAt ns l).getD (hx (cellsAt ns l).length x - (cellsAt ns l).length).toNat 0) - (ns.length : Int)
def letT (ns : List Int) (l : Int) : List Int := (List.range ns.length).map fun (i : Nat) => lt1 ns l ((ns.length : Int) + (i : Int))
theorem letT_len (ns : List Int) (l : Int) : (letT ns l).length = ns.length := by unfold letT; simp
def textT (ns : List Int) (ks : List Int) : List Int := ks.foldl (fun t l => comp t (letT ns l)) (iota ns.length)
theorem textF_len (ns : List Int) : ∀ (ks t : List Int), (ks.foldl (fun t l => comp t (letT ns l)) t).length = t.length
  | [], _ => rfl
  | k :: ks, t => by rw [List.foldl_cons, textF_len ns ks, comp_len]
theorem textT_len (ns ks : List Int) : (textT ns ks).length = ns.length := by unfold textT; rw [textF_len, iota_len]
theorem textF_eq {ns : List Int} (hn : 0 < ns.length) : ∀ (ks t : List Int), ks.foldl (fun t l => comp t (letT ns l)) t = comp t (textT ns ks)
  | [], t => by
    show t = comp t (iota ns.length)
    rw [comp_iota hn]
  | k :: ks, t => by
    rw [List.foldl_cons, textF_eq hn ks]
    have e : textT ns (k :: ks) = comp (letT ns k) (textT ns ks) := by
      show ks.foldl (fun t l => comp t (letT ns l)) (comp (iota ns.length) (letT ns k)) = _
      rw [textF_eq hn ks]
      have e1 : comp (iota ns.length) (letT ns k) = letT ns k := by
        have z := iota_comp (b := letT ns k) (by rw [letT_len]; exact hn)
        rw [letT_len] at z
        exact z
      rw [e1]
    rw [e, comp_assoc (by rw [letT_len]; exact hn) (by rw [textT_len, letT_len])]
theorem textT_app {ns : List Int} (hn : 0 < ns.length) (a b : List Int) : textT ns (a ++ b) = comp (textT ns a) (textT ns b) := by
  show (a ++ b).foldl (fun t l => comp t (letT ns l)) (iota ns.length) = _
  rw [List.foldl_append, textF_eq hn b]
  rfl
theorem textT_rep {ns : List Int} (hn : 0 < ns.length) (a : List Int) : ∀ n : Nat, textT ns (List.replicate n a).flatten = powT (textT ns a) n
  | 0 => by
    show iota ns.length = iota (textT ns a).length
    rw [textT_len]
  | n + 1 => by
    rw [List.replicate_succ', List.flatten_append, textT_app hn, textT_rep hn a n]
    show comp (powT (textT ns a) n) (textT ns [a].flatten) = comp (powT (textT ns a) n) (textT ns a)
    simp
theorem cells_lt (ns : List Int) (l : Int) (i : Nat) : 0 ≤ (cellsAt ns l).getD i 0 ∧ ((cellsAt ns l).getD i 0 < (ns.length : Int) ∨ (cellsAt ns l).getD i 0 = 0) := by
  by_cases hi : i < (cellsAt ns l).length
  · have e : (cellsAt ns l).getD i 0 = (cellsAt ns l)[i] := by simp [List.getD, List.getElem?_eq_getElem hi]
    rw [e]
    have := cells_mem l ns 0 _ (List.getElem_mem hi)
    simp at this
    exact ⟨this.1, .inl this.2⟩
  · have e : (cellsAt ns l).getD i 0 = 0 := by simp [List.getD, List.getElem?_eq_none (Nat.le_of_not_lt hi)]
    rw [e]
    exact ⟨Int.le_refl _, .inr rfl⟩
theorem letT_bnd {ns : List Int} {l : Int} (hl : l ∈ ns) : Bnd (letT ns l) (2 * ns.length * ns.length + ns.length) := fun x hx => by
  obtain ⟨i, hi, rfl⟩ := List.mem_map.mp hx
  have hi := List.mem_range.mp hi
  have hq : (0 : Int) < (cellsAt ns l).length := by have := cells_pos (s := 0) hl; exact Int.natCast_pos.mpr this
  have h1 := hb_len hq ((ns.length : Int) + i).toNat ((ns.length : Int) + i) (Nat.le_refl _)
  have h2 := cells_lt ns l (V.hx (cellsAt ns l).length ((ns.length : Int) + i) - (cellsAt ns l).length).toNat
  unfold lt1
  have h3 : (hb (cellsAt ns l).length ((ns.length : Int) + i)).length ≤ 2 * ns.length := by omega
  have h4 : ((hb (cellsAt ns l).length ((ns.length : Int) + i)).length : Int) * (ns.length : Int) ≤ ((2 * ns.length * ns.length : Nat) : Int) := by
    have := Nat.mul_le_mul_right ns.length h3
    exact_mod_cast this
  have h5 : (0 : Int) ≤ ((hb (cellsAt ns l).length ((ns.length : Int) + i)).length : Int) * (ns.length : Int) := Int.mul_nonneg (by omega) (by omega)
  omega
theorem textT_bnd {ns : List Int} (hn : 0 < ns.length) : ∀ {ks : List Int} {t : List Int} {A : Nat}, (∀ k ∈ ks, k ∈ ns) → Bnd t A → Bnd (ks.foldl (fun t l => comp t (letT ns l)) t) (A + ks.length * (2 * ns.length * ns.length + 2 * ns.length))
  | [], t, A, _, h => by rw [List.length_nil, Nat.zero_mul]; exact h
  | k :: ks, t, A, hk, h => by
    rw [List.foldl_cons]
    have z := comp_bnd (by rw [letT_len]; exact hn) h (letT_bnd (hk k List.mem_cons_self))
    rw [letT_len] at z
    refine (textT_bnd hn (fun x hx => hk x (List.mem_cons_of_mem _ hx)) z).le ?_
    have e : (ks.length + 1) * (2 * ns.length * ns.length + 2 * ns.length) = ks.length * (2 * ns.length * ns.length + 2 * ns.length) + (2 * ns.length * ns.length + 2 * ns.length) := Nat.succ_mul _ _
    rw [List.length_cons, e]
    generalize ks.length * (2 * ns.length * ns.length + 2 * ns.length) = z1
    generalize 2 * ns.length * ns.length = z2
    omega
theorem textT_bnd' {ns : List Int} (hn : 0 < ns.length) {ks : List Int} (hk : ∀ k ∈ ks, k ∈ ns) : Bnd (textT ns ks) (ns.length + ks.length * (2 * ns.length * ns.length + 2 * ns.length)) := textT_bnd hn hk (iota_bnd _)
/-- a table: letters, at least one, not many -/
structure Tab (ns : List Int) : Prop where
  le : ∀ i ∈ ns, 0 ≤ i ∧ i ≤ 25
  ne : 0 < ns.length
  few : ns.length ≤ 64
def sp_letter_turn (_ : Addr) : Fs := fun ds P _ => ∃ (ns : List Int) (l : Int), ds = [.tup (ns.map D.int), .int l] ∧ Tab ns ∧ l ∈ ns ∧ P (.tup ((letT ns l).map D.int))
abbrev w_letter_turn (S_check_letter : Fs) (S_cells_of : Fs) (S_letter_written : Fs) (E : Addr → Option (Str × D) → Ga → Prop) : WS :=
  wSeq (wExpr (wCall 2 S_check_letter E (waCons (wVar 0) (waCons (wVar 1) waNil)))) (wSeq (wSet 2 (wOp1 oLen (wVarQ 0))) (wSeq (wSet 3 (wCall 2 S_cells_of E (waCons (wVar 0) (waCons (wVar 1) waNil)))) (wSeq (wSetN 4 (wnLst waNil)) (wMid (wFor (wiR2 (wVar 2) (wOp oMul (wC (.int 2)) (wVarQ 2))) (wgName 5) (wSeq (wAsg (wCall 3 S_letter_written E (waCons (wVar 2) (waCons (wVar 3) (waCons (wVar 5) waNil)))) (wgTwo 6 7)) (wSeq (wAppend 4 (wOp oSub (wOp oAdd (wOp oMul (wOp1 oLen (wVarQ 6)) (wVarQ 2)) (wVarQ 7)) (wVarQ 2))) wNil))) (wSeq (wRet (wOp1 oTupOf (wVarQ 4))) wNil)))))
theorem vc_letter_turn {u : Addr} {ds : List D} {P : D → Prop} {X : Addr → Option (Str × D) → Prop} (h : sp_letter_turn u ds P X) : w_letter_turn (sp_check_letter u) (sp_cells_of u) (sp_letter_written u) (fun C fo _ => X C fo) (Ga.start 8 ds) { nx := fun _ => P .non, rt := P } := by
  obtain ⟨ns, l, rfl, ht, hl, h⟩ := h
  have hf := ht.few
  have hne := ht.ne
  have hl2 := ht.le l hl
  simp_arith
  refine ⟨ns, l, rfl, hl, hl2.1, hl2.2, ?_⟩
  simp_arith
  refine ⟨ns, l, rfl, by omega, ?_⟩
  simp_arith
  have hq : 0 < (cellsAt ns l).length := cells_pos (s := 0) hl
  have hq2 : (cellsAt ns l).length ≤ ns.length := cells_len_le l ns 0
  refine ⟨fun Γ => ∃ s5 s6 s7, Γ = [.dat (.tup (ns.map D.int)), .dat (.int l), .dat (.int ns.length), .dat (.tup ((cellsAt ns l).map D.int)), .own ((letT ns l).map D.int), s5, s6, s7], ?_, ?_⟩
  · simp_arith [wFor]
    refine ⟨cmul_lN (by decide) (by decide), ⟨by omega, by omega, by omega, by omega⟩, fun i Γ => ∃ s5 s6 s7, Γ = [.dat (.tup (ns.map D.int)), .dat (.int l), .dat (.int ns.length), .dat (.tup ((cellsAt ns l).map D.int)), .own (((List.range i).map fun (i : Nat) => lt1 ns l ((ns.length : Int) + (i : Int))).map D.int), s5, s6, s7], ⟨_, _, _, rfl⟩, ?_, ?_⟩
    · rintro i x Γ hx ⟨s5, s6, s7, rfl⟩
      obtain ⟨hi, rfl⟩ := range_at hx
      have hi : i < ns.length := by omega
      simp_arith
      refine ⟨ns.length, (ns.length : Int) + i, cellsAt ns l, rfl, hq, by omega, by omega, by omega, ?_⟩
      simp_arith
      refine ⟨cmul_rN (by omega) (by omega), by simp; omega, ?_⟩
      rw [List.range_succ, List.map_append, List.map_append]
      exact ⟨_, _, _, rfl⟩
    · rintro Γ ⟨s5, s6, s7, rfl⟩
      refine ⟨s5, s6, s7, ?_⟩
      rw [rangeD_length]
      have e : (2 * (ns.length : Int) - ns.length).toNat = ns.length := by omega
      rw [e]
      rfl
  · rintro Γ ⟨s5, s6, s7, rfl⟩
    simp_arith
    exact h
theorem valD_put (ks : List (L2.Key × D)) (k k' : L2.Key) (d : D) : valD (putD ks k d) k' = if k = k' then some d else valD ks k' := by
  unfold putD
  split
  · rename_i ha
    induction ks with
    | nil => cases ha
    | cons p ks ih =>
      obtain ⟨a, x⟩ := p
      rw [List.map_cons]
      by_cases e : a = k
      · subst e
        rw [if_pos rfl]
        by_cases e2 : a = k'
        · rw [valD_pos (p := (a, d)) e2, if_pos e2]
        · rw [valD_neg (p := (a, d)) e2, valD_neg (p := (a, x)) e2, if_neg e2]
          by_cases hb : (ks.any fun kv => decide (kv.1 = a)) = true
          · rw [ih hb, if_neg e2]
          · have e3 : ks.map (fun kv => if kv.1 = a then (kv.1, d) else kv) = ks := by
              rw [List.map_congr_left (g := id) fun y hy => ?_, List.map_id]
              rw [if_neg]
              · rfl
              · intro z
                exact hb (List.any_eq_true.mpr ⟨y, hy, by simpa using z⟩)
            rw [e3]
      · rw [if_neg e]
        have ha' : (ks.any fun kv => decide (kv.1 = k)) = true := by
          rw [List.any_cons] at ha
          simpa [e] using ha
        by_cases e2 : a = k'
        · rw [valD_pos (p := (a, x)) e2, valD_pos (p := (a, x)) e2, if_neg fun z => e (by rw [z, e2])]
        · rw [valD_neg (p := (a, x)) e2, valD_neg (p := (a, x)) e2]
          exact ih ha'
  · rename_i ha
    induction ks with
    | nil =>
      by_cases e : k = k'
      · rw [if_pos e, List.nil_append, valD_pos (p := (k, d)) e]
      · rw [if_neg e, List.nil_append, valD_neg (p := (k, d)) e]
    | cons p ks ih =>
      obtain ⟨a, x⟩ := p
      have ha1 : ¬ a = k := fun z => ha (by rw [List.any_cons]; simp [z])
      have ha2 : ¬ (ks.any fun kv => decide (kv.1 = k)) = true := fun z => ha (by rw [List.any_cons, z]; simp)
      rw [List.cons_append]
      by_cases e2 : a = k'
      · rw [valD_pos (p := (a, x)) e2, valD_pos (p := (a, x)) e2, if_neg fun z => ha1 (by rw [z, e2])]
      · rw [valD_neg (p := (a, x)) e2, valD_neg (p := (a, x)) e2]
        exact ih ha2
theorem letters_few {ns : List Int} (h : ∀ i ∈ ns, 0 ≤ i ∧ i ≤ 25) : ∃ ms : List Int, ms.length < 64 ∧ ∀ k ∈ ns, k ∈ ms := ⟨iota 26, by rw [iota_len]; decide, fun k hk => by
  obtain ⟨a, b⟩ := h k hk
  unfold iota
  exact List.mem_map.mpr ⟨k.toNat, List.mem_range.mpr (by omega), by omega⟩⟩
theorem nodup_sorted {ms : List Int} (h : ms.Pairwise (· < ·)) : ms.Nodup := h.imp fun h => by omega
theorem letters_le {ns ms : List Int} (h : ∀ i ∈ ns, 0 ≤ i ∧ i ≤ 25) (hp : ms.Pairwise (· < ·)) (hm : ∀ k, k ∈ ms ↔ k ∈ ns) : ms.length ≤ 26 := by
  have := nodup_le (nodup_sorted hp) (ms := iota 26) fun k hk => by
    obtain ⟨a, b⟩ := h k ((hm k).mp hk)
    unfold iota
    exact List.mem_map.mpr ⟨k.toNat, List.mem_range.mpr (by omega), by omega⟩
  rw [iota_len] at this
  exact this
def sp_text_turn (_ : Addr) : Fs := fun ds P _ => ∃ (ns ks : List Int), ds = [.tup (ns.map D.int), .tup (ks.map D.int)] ∧ Tab ns ∧ (∀ k ∈ ks, k ∈ ns) ∧ ks.length ≤ 4000 ∧ P (.tup ((textT ns ks).map D.int))
theorem scan_big : (4002 : Nat) < scanBound := by decide
theorem textT_fold (ns ks : List Int) : textT ns ks = (ks.map (letT ns)).foldl comp (iota ns.length) := by
  unfold textT
  rw [List.foldl_map]
theorem foldC_len : ∀ (ts : List (List Int)) (t : List Int), (ts.foldl comp t).length = t.length
  | [], _ => rfl
  | s :: ts, t => by rw [List.foldl_cons, foldC_len ts, comp_len]
/-- turns put one behind another, told by keys -/
def sp_turn_behind (_ : Addr) : Fs := fun ds P _ => ∃ (n : Nat) (kvs : List (L2.Key × D)) (xs : List D) (ts : List (List Int)), ds = [.int n, .dic kvs, .tup xs] ∧ 0 < n ∧ n ≤ 100000 ∧ xs.length = ts.length ∧ (∀ (i : Nat) (x : D) (t : List Int), xs[i]? = some x → ts[i]? = some t → t.length = n ∧ ∃ k, keyD x = some k ∧ valD kvs k = some (.tup (t.map D.int))) ∧ P (.tup ((ts.foldl comp (iota n)).map D.int))
abbrev w_turn_behind (S_plain_turn : Fs) (S_then : Fs) (E : Addr → Option (Str × D) → Ga → Prop) : WS :=
  wSeq (wSet 3 (wCall 1 S_plain_turn E (waCons (wVar 0) waNil))) (wMid (wFor (wiTup (wVar 2)) (wgName 4) (wSeq (wSet 3 (wCall 2 S_then E (waCons (wVar 3) (waCons (wDget (wVar 1) (wVar 4)) waNil)))) wNil)) (wSeq (wRetV 3) wNil))
theorem oKey_mk {d : D} {k : L2.Key} {P : L2.Key → Prop} (h : keyD d = some k) (p : P k) : oKey d P := by
  cases d <;> first | (cases h; exact p) | (cases h)
theorem vc_turn_behind {u : Addr} {ds : List D} {P : D → Prop} {X : Addr → Option (Str × D) → Prop} (h : sp_turn_behind u ds P X) : w_turn_behind (sp_plain_turn u) (sp_then u) (fun C fo _ => X C fo) (Ga.start 5 ds) { nx := fun _ => P .non, rt := P } := by
  obtain ⟨n, kvs, xs, ts, rfl, hn, hn2, hl, hT, h⟩ := h
  simp_arith
  refine ⟨n, rfl, hn2, ?_⟩
  simp_arith
  refine ⟨fun Γ => ∃ s4, Γ = [.dat (.int n), .dat (.dic kvs), .dat (.tup xs), .dat (.tup ((ts.foldl comp (iota n)).map D.int)), s4], ?_, ?_⟩
  · simp_arith [wFor]
    refine ⟨fun i Γ => ∃ s4, Γ = [.dat (.int n), .dat (.dic kvs), .dat (.tup xs), .dat (.tup (((ts.take i).foldl comp (iota n)).map D.int)), s4], ⟨_, rfl⟩, ?_, ?_⟩
    · rintro i x Γ hx ⟨s4, rfl⟩
      have hi : i < ts.length := by rw [← hl]; exact (List.getElem?_eq_some_iff.mp hx).1
      have ht : ts[i]? = some ts[i] := List.getElem?_eq_getElem hi
      obtain ⟨h1, k, hk, hv⟩ := hT i x _ hx ht
      simp_arith
      refine oKey_mk hk ⟨_, hv, _, _, rfl, by rw [foldC_len, iota_len]; omega, by omega, by omega, ?_⟩
      have e : (ts.take (i + 1)).foldl comp (iota n) = comp ((ts.take i).foldl comp (iota n)) ts[i] := by
        rw [List.take_succ, ht, List.foldl_append]
        rfl
      rw [e]
      exact ⟨_, rfl⟩
    · rintro Γ ⟨s4, rfl⟩
      refine ⟨s4, ?_⟩
      rw [hl, List.take_length]
  · rintro Γ ⟨s4, rfl⟩
    simp_arith
    exact h
abbrev w_text_turn (S_check_letters : Fs) (S_turn_behind : Fs) (S_letter_turn : Fs) (E : Addr → Option (Str × D) → Ga → Prop) : WS :=
  wSeq (wExpr (wCall 2 S_check_letters E (waCons (wVar 0) (waCons (wVar 1) waNil)))) (wSeq (wRet (wCall 3 S_turn_behind E (waCons (wOp1 oLen (wVarQ 0)) (waCons (wDc [2] (wiLst (wOp1 oSortedSet (wVar 1))) (wgName 2) (wVar 2) (wCall 2 S_letter_turn (fun _ _ _ => False) (waCons (wVar 0) (waCons (wVar 2) waNil)))) (waCons (wVar 1) waNil))))) wNil)
theorem vc_text_turn {u : Addr} {ds : List D} {P : D → Prop} {X : Addr → Option (Str × D) → Prop} (h : sp_text_turn u ds P X) : w_text_turn (sp_check_letters u) (sp_turn_behind u) (sp_letter_turn u) (fun C fo _ => X C fo) (Ga.start 3 ds) { nx := fun _ => P .non, rt := P } := by
  obtain ⟨ns, ks, rfl, ht, hk, hkl, h⟩ := h
  have hf := ht.few
  have hne := ht.ne
  simp_arith
  refine ⟨ns, ks, rfl, fun i hi => ⟨hk i hi, ht.le i (hk i hi)⟩, ?_⟩
  simp_arith
  refine ⟨ks, ⟨rfl, Nat.lt_of_le_of_lt (by omega) scan_big, letters_few fun i hi => ht.le i (hk i hi)⟩, fun ms hp hm => ?_⟩
  have hm26 := letters_le (fun i hi => ht.le i (hk i hi)) hp hm
  simp_arith
  refine ⟨by omega, fun i acc => ∀ j m, j < i → ms[j]? = some m → valD acc (.inl m) = some (.tup ((letT ns m).map D.int)), fun j m hj => by omega, ?_, ?_⟩
  · intro i x acc hx hI _
    obtain ⟨m, hm1, rfl⟩ := intsAt hx
    simp_arith
    refine ⟨ns, m, rfl, ht, hk m ((hm m).mp (List.mem_of_getElem? hm1)), fun j m' hj hm' => ?_⟩
    rw [valD_put]
    split
    · rename_i e
      cases e
      rfl
    · rename_i e
      have hji : j ≠ i := fun z => by
        subst z
        rw [hm1] at hm'
        cases hm'
        exact e rfl
      exact hI j m' (by omega) hm'
  · intro acc hI
    have hT : ∀ k ∈ ks, valD acc (.inl k) = some (.tup ((letT ns k).map D.int)) := fun k hk' => by
      obtain ⟨j, hj⟩ := List.getElem?_of_mem ((hm k).mpr hk')
      exact hI j k (List.getElem?_eq_some_iff.mp hj).1 hj
    rw [textT_fold] at h
    refine ⟨ns.length, acc, ks.map D.int, ks.map (letT ns), rfl, hne, by omega, by simp, fun i x t hx ht' => ?_, h⟩
    obtain ⟨m, hm1, rfl⟩ := intsAt hx
    rw [List.getElem?_map, hm1] at ht'
    cases ht'
    exact ⟨letT_len _ _, .inl m, rfl, hT m (List.mem_of_getElem? hm1)⟩
def sp_power (_ : Addr) : Fs := fun ds P _ => ∃ (t : List Int) (n : Nat), ds = [.tup (t.map D.int), .int n] ∧ 0 < t.length ∧ t.length ≤ 100000 ∧ P (.tup ((powT t n).map D.int))
abbrev w_power (S_plain_turn : Fs) (S_then : Fs) (E : Addr → Option (Str × D) → Ga → Prop) : WS :=
  wSeq (wSet 2 (wCall 1 S_plain_turn E (waCons (wOp1 oLen (wVarQ 0)) waNil))) (wSeq (wSet 3 (wVar 0)) (wMid (wWhile (wtCmp oGt (wVar 1) (wC (.int 0))) (wMid (wIf (wtCmp oEq (wOp oMod (wVar 1) (wC (.int 2))) (wC (.int 1))) (wSeq (wSet 2 (wCall 2 S_then E (waCons (wVar 2) (waCons (wVar 3) waNil)))) wNil) wNil) (wSeq (wSet 3 (wCall 2 S_then E (waCons (wVar 3) (waCons (wVar 3) waNil)))) (wSeq (wAug oDiv 1 (wC (.int 2))) wNil)))) (wSeq (wRetV 2) wNil)))
theorem vc_power {u : Addr} {ds : List D} {P : D → Prop} {X : Addr → Option (Str × D) → Prop} (h : sp_power u ds P X) : w_power (sp_plain_turn u) (sp_then u) (fun C fo _ => X C fo) (Ga.start 4 ds) { nx := fun _ => P .non, rt := P } := by
  obtain ⟨t, n, rfl, h1, h2, h⟩ := h
  simp_arith
  refine ⟨t.length, rfl, by omega, ?_⟩
  simp_arith
  refine ⟨fun Γ => ∃ s1 s3, Γ = [.dat (.tup (t.map D.int)), s1, .dat (.tup ((powT t n).map D.int)), s3], ?_, ?_⟩
  · refine ⟨fun k Γ => ∃ a b : Nat, Γ = [.dat (.tup (t.map D.int)), .dat (.int k), .dat (.tup ((powT t a).map D.int)), .dat (.tup ((powT t b).map D.int))] ∧ a + b * k = n, n, ⟨0, 1, by rw [powT_one h1]; rfl, by omega⟩, ?_⟩
    rintro k Γ ⟨a, b, rfl, e⟩
    simp_arith
    refine ⟨fun c => ?_, fun c => ?_⟩
    · have c := of_decide_eq_true c
      refine ⟨fun Γ => ∃ a' : Nat, Γ = [.dat (.tup (t.map D.int)), .dat (.int k), .dat (.tup ((powT t a').map D.int)), .dat (.tup ((powT t b).map D.int))] ∧ a' + (b + b) * (k / 2) = n, ?_, ?_⟩
      · simp_arith
        refine ⟨by decide, fun c => ?_, fun c => ?_⟩
        · have c := of_decide_eq_true c
          refine ⟨powT t a, powT t b, rfl, by rw [powT_len]; exact h2, by rw [powT_len]; exact h1, by rw [powT_len]; exact h2, a + b, by rw [powT_add h1], ?_⟩
          have hk : k = 2 * (k / 2) + 1 := by omega
          have : b * k = (b + b) * (k / 2) + b := by
            conv => lhs; rw [hk]
            rw [Nat.mul_add, ← Nat.mul_assoc, Nat.add_mul, Nat.mul_one, Nat.mul_comm b 2, Nat.mul_assoc, Nat.two_mul]
          omega
        · have c := of_decide_eq_false c
          refine ⟨a, rfl, ?_⟩
          have hk : k = 2 * (k / 2) := by omega
          have : b * k = (b + b) * (k / 2) := by
            conv => lhs; rw [hk]
            rw [← Nat.mul_assoc, Nat.add_mul, Nat.mul_comm b 2, Nat.mul_assoc, Nat.two_mul]
          omega
      · rintro Γ ⟨a', rfl, e'⟩
        simp_arith
        refine ⟨powT t b, powT t b, rfl, by rw [powT_len]; exact h2, by rw [powT_len]; exact h1, by rw [powT_len]; exact h2, ?_⟩
        simp_arith
        refine ⟨by decide, by decide, k / 2, by omega, a', b + b, ?_, e'⟩
        rw [← powT_add h1]
        have : ((k : Int) / 2) = ((k / 2 : Nat) : Int) := by omega
        rw [this]
    · have c := of_decide_eq_false c
      have hk : k = 0 := by omega
      subst hk
      rw [Nat.mul_zero, Nat.add_zero] at e
      subst e
      exact ⟨_, _, rfl⟩
  · rintro Γ ⟨s1, s3, rfl⟩
    simp_arith
    exact h
end V
/-! V3: what is drawn: picks, mixed rows, tables, texts, turns. -/
namespace V
open PySem PySem.Spec PyProof.Rows L2 U
def sp__law_take (u : Addr) : Fs := fun ds P _ => ∃ m : Int, ds = [.ad u, .int m] ∧ m < 2 ^ 200 ∧ ∀ r : Int, 0 ≤ r → r < max 1 m → P (.int r)
def sp__law_pick (u : Addr) : Fs := fun ds P _ => ∃ x xs, ds = [.ad u, x] ∧ x.items? = some xs ∧ xs ≠ [] ∧ xs.length ≤ 1000000 ∧ ∀ d ∈ xs, P d
abbrev w__law_pick (S__law_take : Fs) (E : Addr → Option (Str × D) → Ga → Prop) : WS :=
  wSeq (wRet (wOp oIx (wVar 1) (wCall 2 S__law_take E (waCons (wVar 0) (waCons (wOp1 oLen (wVarQ 1)) waNil))))) wNil
theorem small_m {m : Int} {n : Nat} (h : m ≤ (n : Int)) (hn : n < 2 ^ 200) : m < 2 ^ 200 := by
  have : ((n : Int)) < ((2 ^ 200 : Nat) : Int) := by exact_mod_cast hn
  exact Int.lt_of_le_of_lt h (by simpa using this)
theorem vc__law_pick {u : Addr} {ds : List D} {P : D → Prop} {X : Addr → Option (Str × D) → Prop} (h : sp__law_pick u ds P X) : w__law_pick (sp__law_take u) (fun C fo _ => X C fo) (Ga.start 2 ds) { nx := fun _ => P .non, rt := P } := by
  obtain ⟨x, xs, rfl, hx, hne, hl, h⟩ := h
  have hpos : 0 < xs.length := List.length_pos_iff.mpr hne
  cases x with
  | lst ys =>
    cases hx
    simp_arith
    refine ⟨_, rfl, small_m (n := 1000000) (by omega) (by decide), fun r h0 h1 => ?_⟩
    have hr : r.toNat < xs.length := by omega
    obtain ⟨j, rfl⟩ := Int.eq_ofNat_of_zero_le h0
    exact oIx_l (List.getElem?_eq_getElem hr) (h _ (List.getElem_mem _))
  | tup ys =>
    cases hx
    simp_arith
    refine ⟨_, rfl, small_m (n := 1000000) (by omega) (by decide), fun r h0 h1 => ?_⟩
    have hr : r.toNat < xs.length := by omega
    obtain ⟨j, rfl⟩ := Int.eq_ofNat_of_zero_le h0
    exact oIx_t (List.getElem?_eq_getElem hr) (h _ (List.getElem_mem _))
  | _ => cases hx
theorem oNe_nil {ns : List Int} {P : Bool → Prop} (h : P (!decide (ns = []))) : oNe (.lst (ns.map D.int)) (.lst []) P := by
  refine .inr ⟨eqk_lint ns, eqk_lint [], ?_⟩
  have e := eqd_lint ns []
  rw [List.map_nil] at e
  rw [e]
  exact h
theorem oItems_of? {x : D} {xs : List D} {P : List D → Prop} (hx : x.items? = some xs) (h : P xs) : oItems x P := by
  cases x with
  | lst ys => cases hx; exact h
  | tup ys => cases hx; exact h
  | _ => cases hx
theorem sIxN {n : Int} {l : Nat} (h0 : 0 ≤ n) (h1 : n < (l : Int)) : seqIndex? n l = some n.toNat := by
  unfold seqIndex?
  rw [if_neg (show ¬ n < 0 by omega)]
  simp [h0, h1]
theorem perm_erase {α : Type} : ∀ (l : List α) (k : Nat) (h : k < l.length), (l[k] :: l.eraseIdx k).Perm l
  | x :: l, 0, _ => List.Perm.refl _
  | x :: l, k + 1, h => by
    have z := perm_erase l k (by simpa using h)
    rw [List.getElem_cons_succ, List.eraseIdx_cons_succ]
    exact (List.Perm.swap x _ _).trans (List.Perm.cons x z)
theorem perm_outN {ns fs rs : List Int} {k : Nat} (h : k < rs.length) (hp : (fs ++ rs).Perm ns) : ((fs ++ [rs[k]]) ++ rs.eraseIdx k).Perm ns := by
  refine List.Perm.trans ?_ hp
  rw [List.append_assoc]
  refine List.Perm.append_left fs ?_
  exact perm_erase rs k h
theorem map_eraseN {α β : Type} (f : α → β) : ∀ (l : List α) (k : Nat), (l.map f).eraseIdx k = (l.eraseIdx k).map f
  | [], k => by simp
  | x :: l, 0 => rfl
  | x :: l, k + 1 => by
    rw [List.map_cons, List.eraseIdx_cons_succ, List.eraseIdx_cons_succ, List.map_cons, map_eraseN f l k]
def sp__law_mixed (u : Addr) : Fs := fun ds P _ => ∃ (x : D) (ns : List Int), ds = [.ad u, x] ∧ x.items? = some (ns.map D.int) ∧ ns.length ≤ 100000 ∧ ∀ ms : List Int, ms.Perm ns → P (.lst (ms.map D.int))
abbrev w__law_mixed (S__law_take : Fs) (E : Addr → Option (Str × D) → Ga → Prop) : WS :=
  wSeq (wPar2 2 3 (wpNew (wnList (wVarQ 1)) (wpNew (wnLst waNil) wpNil))) (wMid (wWhile (wtCmpO oNe 2 (wLst waNil)) (wSeq (wAppend 3 (wPopAt 2 (wCall 2 S__law_take E (waCons (wVar 0) (waCons (wOp1 oLen (wVarQ 2)) waNil))))) wNil)) (wSeq (wRetV 3) wNil))
theorem vc__law_mixed {u : Addr} {ds : List D} {P : D → Prop} {X : Addr → Option (Str × D) → Prop} (h : sp__law_mixed u ds P X) : w__law_mixed (sp__law_take u) (fun C fo _ => X C fo) (Ga.start 4 ds) { nx := fun _ => P .non, rt := P } := by
  obtain ⟨x, ns, rfl, hx, hn, h⟩ := h
  simp_arith
  refine oItems_of? hx ?_
  refine ⟨fun Γ => ∃ ms : List Int, ms.Perm ns ∧ Γ = [.dat (.ad u), .dat x, .own [], .own (ms.map D.int)], ?_, ?_⟩
  · refine ⟨fun m Γ => ∃ rs fs : List Int, rs.length = m ∧ (fs ++ rs).Perm ns ∧ Γ = [.dat (.ad u), .dat x, .own (rs.map D.int), .own (fs.map D.int)], ns.length, ⟨ns, [], rfl, List.Perm.refl _, rfl⟩, ?_⟩
    rintro m Γ ⟨rs, fs, hm, hp, rfl⟩
    have hlen : fs.length + rs.length = ns.length := by
      have := hp.length_eq
      rw [List.length_append] at this
      exact this
    simp_arith
    refine oNe_nil ?_
    refine ⟨fun c => ?_, fun c => ?_⟩
    · have hne : rs ≠ [] := by simpa using c
      have hpos : 0 < rs.length := List.length_pos_iff.mpr hne
      refine ⟨_, rfl, small_m (n := 100000) (by omega) (by decide), fun r h0 h1 => ?_⟩
      have hk : r.toNat < rs.length := by omega
      simp_arith
      refine ⟨r.toNat, .int rs[r.toNat], ⟨by omega, by omega⟩, sIxN h0 (by omega), by rw [List.getElem?_map, List.getElem?_eq_getElem hk]; rfl, ?_⟩
      refine ⟨by omega, rs.length - 1, by omega, rs.eraseIdx r.toNat, fs ++ [rs[r.toNat]], List.length_eraseIdx_of_lt hk, perm_outN hk hp, ?_⟩
      rw [map_eraseN, List.map_append]
      rfl
    · have he : rs = [] := by simpa using c
      subst he
      rw [List.append_nil] at hp
      exact ⟨fs, hp, rfl⟩
  · rintro Γ ⟨ms, hp, rfl⟩
    simp_arith
    exact h ms hp
def pairD (p : Int × Int) : D := .tup [.int p.1, .int p.2]
def sp__law_spread (_ : Addr) : Fs := fun ds P _ => ∃ ps : List (Int × Int), ds = [.lst (ps.map pairD)] ∧ (∀ p ∈ ps, 1 ≤ p.2 ∧ p.2 ≤ 64) ∧ ps.length ≤ 100 ∧ 1 ≤ ps.length ∧ ∀ ms : List Int, (∀ i ∈ ms, i ∈ ps.map Prod.fst) → (ms.length : Int) = (ps.map Prod.snd).sum → P (.lst (ms.map D.int))
abbrev w__law_spread (E : Addr → Option (Str × D) → Ga → Prop) : WS :=
  wSeq (wSet 1 (wLst waNil)) (wMid (wFor (wiLst (wVar 0)) (wgTwo 2 3) (wSeq (wSet 1 (wOp oAdd (wVar 1) (wLc [4] (wiR1 (wVar 3)) (wgName 4) (wTup (waCons (wOp oDiv (wOp oMul (wOp oAdd (wOp oMul (wC (.int 2)) (wVarQ 4)) (wC (.int 1))) (wC (.int 720720))) (wVarQ 3)) (waCons (wVar 2) waNil)))))) wNil)) (wSeq (wRet (wLc [5, 2] (wiLst (wOp1 oSortedP (wVarQ 1))) (wgTwo 5 2) (wVar 2))) wNil))
theorem vc__law_spread {u : Addr} {ds : List D} {P : D → Prop} {X : Addr → Option (Str × D) → Prop} (h : sp__law_spread u ds P X) : w__law_spread (fun C fo _ => X C fo) (Ga.start 6 ds) { nx := fun _ => P .non, rt := P } := by
  obtain ⟨ps, rfl, hp, hl, hl1, h⟩ := h
  simp_arith
  refine ⟨fun Γ => ∃ qs : List (Int × Int), (∀ q ∈ qs, q.2 ∈ ps.map Prod.fst) ∧ (qs.length : Int) = (ps.map Prod.snd).sum ∧ qs.length ≤ 6400 ∧ ∃ s2 s3 s4 s5 : Sl, s2.mine = false ∧ s3.mine = false ∧ s4.mine = false ∧ s5.mine = false ∧ Γ = [.dat (.lst (ps.map pairD)), .dat (.lst (qs.map pairD)), s2, s3, s4, s5], ?_, ?_⟩
  · simp_arith [wFor]
    refine ⟨fun i Γ => ∃ qs : List (Int × Int), (∀ q ∈ qs, q.2 ∈ ps.map Prod.fst) ∧ (qs.length : Int) = ((ps.take i).map Prod.snd).sum ∧ qs.length ≤ 64 * i ∧ ∃ s2 s3 : Sl, s2.mine = false ∧ s3.mine = false ∧ Γ = [.dat (.lst (ps.map pairD)), .dat (.lst (qs.map pairD)), s2, s3, .un, .un], ⟨[], by simp, by simp, by simp, .un, .un, rfl, rfl, rfl⟩, ?_, ?_⟩
    · rintro i x Γ hx ⟨qs, h1, h2, h3, s2, s3, m2, m3, rfl⟩
      have hi := (List.getElem?_eq_some_iff.mp hx).1
      rw [List.length_map] at hi
      rw [List.getElem?_map, List.getElem?_eq_getElem hi] at hx
      obtain ⟨p, hpp⟩ : ∃ p, ps[i] = p := ⟨_, rfl⟩
      have hpm : p ∈ ps := by rw [← hpp]; exact List.getElem_mem _
      have e : x = .tup [.int p.1, .int p.2] := by rw [← hpp]; exact (Option.some.inj hx).symm
      subst e
      obtain ⟨b1, b2⟩ := hp p hpm
      simp_arith
      refine ⟨by omega, by omega, by rw [rangeD_length]; omega, fun x y => ∃ a, y = pairD (a, p.1), ?_, ?_⟩
      · intro x hx
        obtain ⟨j, hj, rfl⟩ := range_mem hx
        simp_arith
        exact ⟨cmul_lN (by decide) (by decide), cmul_r (by decide) (by decide), by omega, by omega, _, rfl⟩
      · intro ys hy
        obtain ⟨zs, rfl, hlen, hz⟩ := hy.as (f := pairD) (Q := fun z => z.2 = p.1) fun x y ⟨a, e⟩ => ⟨(a, p.1), e, rfl⟩
        rw [rangeD_length] at hlen
        simp_arith
        refine ⟨by omega, qs ++ zs, fun q hq => ?_, ?_, by rw [List.length_append]; omega, .dat (.int p.1), .dat (.int p.2), rfl, rfl, ?_⟩
        · rcases List.mem_append.mp hq with hq | hq
          · exact h1 q hq
          · rw [hz q hq]; exact List.mem_map.mpr ⟨p, hpm, rfl⟩
        · rw [List.take_succ, List.getElem?_eq_getElem hi, hpp, List.map_append, List.sum_append, ← h2, List.length_append]
          simp
          omega
        · rw [List.map_append]
    · rintro Γ ⟨qs, h1, h2, h3, s2, s3, m2, m3, rfl⟩
      rw [List.take_length] at h2
      exact ⟨qs, h1, h2, by omega, _, _, _, _, m2, m3, rfl, rfl, rfl⟩
  · rintro Γ ⟨qs, h1, h2, h3, s2, s3, s4, s5, m2, m3, m4, m5, rfl⟩
    simp_arith
    refine ⟨_, rfl, fun x hx => ?_, fun es he => ?_⟩
    · obtain ⟨q, _, rfl⟩ := List.mem_map.mp hx
      exact ⟨_, _, rfl⟩
    have hle : es.length = qs.length := by rw [he.length_eq, List.length_map]
    simp_arith
    refine ⟨by omega, ⟨by cases s5 <;> simp_all [Sl.mine], by cases s2 <;> simp_all [Sl.mine]⟩, fun x y => ∃ i, y = .int i ∧ i ∈ ps.map Prod.fst, ?_, ?_⟩
    · intro x hx
      obtain ⟨q, hq, rfl⟩ := List.mem_map.mp (he.mem_iff.mp hx)
      unfold pairD
      simp_arith
      exact ⟨_, rfl, h1 q hq⟩
    · intro ys hy
      obtain ⟨zs, rfl, hlen, hz⟩ := hy.as (f := D.int) (Q := fun z => z ∈ ps.map Prod.fst) fun x y h => h
      exact h zs hz (by rw [← h2]; omega)
end V
/-! V4: tables and texts drawn; the law's own turn of a text; drawn turns. -/
namespace V
open PySem PySem.Spec PyProof.Rows L2 U
def sp__law_text (u : Addr) : Fs := fun ds P _ => ∃ (x : D) (ns : List Int) (m : Int), ds = [.ad u, x, .int m] ∧ x.items? = some (ns.map D.int) ∧ ns ≠ [] ∧ ns.length ≤ 100000 ∧ 1 ≤ m ∧ m ≤ 100000 ∧ ∀ ms : List Int, (∀ i ∈ ms, i ∈ ns) → 1 ≤ ms.length → (ms.length : Int) ≤ m → P (.tup (ms.map D.int))
abbrev w__law_text (S__law_take : Fs) (S__law_pick : Fs) (E : Addr → Option (Str × D) → Ga → Prop) : WS :=
  wSeq (wRet (wOp1 oTupOf (wLc [3] (wiR1 (wOp oAdd (wC (.int 1)) (wCall 2 S__law_take E (waCons (wVar 0) (waCons (wVar 2) waNil))))) (wgName 3) (wCall 2 S__law_pick (fun _ _ _ => False) (waCons (wVar 0) (waCons (wVar 1) waNil)))))) wNil
theorem vc__law_text {u : Addr} {ds : List D} {P : D → Prop} {X : Addr → Option (Str × D) → Prop} (h : sp__law_text u ds P X) : w__law_text (sp__law_take u) (sp__law_pick u) (fun C fo _ => X C fo) (Ga.start 4 ds) { nx := fun _ => P .non, rt := P } := by
  obtain ⟨x, ns, m, rfl, hx, hne, hl, hm1, hm2, h⟩ := h
  simp_arith
  refine ⟨m, rfl, small_m (n := 100000) (by omega) (by decide), fun r h0 h1 => ?_⟩
  simp_arith
  refine ⟨by omega, by omega, by rw [rangeD_length]; omega, fun x y => ∃ i, y = .int i ∧ i ∈ ns, ?_, fun ys hy => ?_⟩
  · intro z hz
    obtain ⟨j, hj, rfl⟩ := range_mem hz
    simp_arith
    refine ⟨x, ns.map D.int, rfl, hx, by simpa using hne, by simp; omega, fun d hd => ?_⟩
    obtain ⟨n, hn, rfl⟩ := intsMem hd
    exact ⟨n, rfl, hn⟩
  · obtain ⟨zs, rfl, hlen, hz⟩ := hy.as (f := D.int) (Q := fun z => z ∈ ns) fun x y h => h
    rw [rangeD_length] at hlen
    exact h zs hz (by omega) (by omega)
def sp__law_table (u : Addr) : Fs := fun ds P _ => ∃ m : Int, ds = [.ad u, .int m] ∧ 1 ≤ m ∧ m ≤ 64 ∧ ∀ ns, Tab ns → P (.tup (ns.map D.int))
abbrev w__law_table (S__law_take : Fs) (S__law_mixed : Fs) (S__law_spread : Fs) (E : Addr → Option (Str × D) → Ga → Prop) : WS :=
  wSeq (wPar2 2 3 (wpDat (wCall 2 S__law_take E (waCons (wVar 0) (waCons (wC (.int 9)) waNil))) (wpDat (wOp oAdd (wC (.int 1)) (wCall 2 S__law_take E (waCons (wVar 0) (waCons (wVar 1) waNil)))) wpNil))) (wSeq (wSet 4 (wCall 2 S__law_mixed E (waCons (wVar 0) (waCons (wOp1 oListRg (wC (.int 26))) waNil)))) (wSeq (wIf (wtCmp oEq (wVar 2) (wC (.int 0))) (wSeq (wRet (wOp oMul (wTup (waCons (wOp oIx (wVar 4) (wC (.int 0))) waNil)) (wVarQ 3))) wNil) wNil) (wSeq (wIf (wtCmp oEq (wVar 2) (wC (.int 1))) (wSeq (wRet (wOp1 oTupOf (wSlice (wVar 4) woNone (woSome (wOpL oMin2 (waCons (wVar 3) (waCons (wC (.int 26)) waNil))))))) wNil) wNil) (wMid (wSet 5 (wIfE (wtAnd (wtCmp oEq (wVar 2) (wC (.int 2))) (wtCmp oGt (wVar 3) (wC (.int 3)))) (wOp oAdd (wC (.int 2)) (wCall 2 S__law_take E (waCons (wVar 0) (waCons (wC (.int 2)) waNil)))) (wC (.int 1)))) (wSeq (wSet 6 (wOp oDiv (wVar 3) (wVarQ 5))) (wSeq (wSet 7 (wOp oAdd (wC (.int 1)) (wCall 2 S__law_take E (waCons (wVar 0) (waCons (wOpL oMin2 (waCons (wVar 6) (waCons (wC (.int 5)) waNil))) waNil))))) (wSeq (wSet 8 (wOp oAdd (wSlice (wVar 4) woNone (woSome (wVar 7))) (wLc [9] (wiR1 (wOp oSub (wVar 6) (wVarQ 7))) (wgName 9) (wOp oIx (wVar 4) (wCall 2 S__law_take (fun _ _ _ => False) (waCons (wVar 0) (waCons (wVar 7) waNil))))))) (wSeq (wIf (wtCmp oEq (wVar 2) (wC (.int 3))) (wSeq (wRet (wOp1 oTupOf (wOp1 oSorted (wVarQ 8)))) wNil) wNil) (wSeq (wIf (wtCmp oIn (wVar 2) (wTup (waCons (wC (.int 4)) (waCons (wC (.int 5)) waNil)))) (wSeq (wRet (wOp1 oTupOf (wCall 1 S__law_spread E (waCons (wLc [10] (wiLst (wOp1 oSortedSetL (wVarQ 8))) (wgName 10) (wTup (waCons (wVar 10) (waCons (wCount (wVar 8) (wVar 10)) waNil)))) waNil)))) wNil) wNil) (wSeq (wRet (wOp1 oTupOf (wOp oMul (wCall 2 S__law_mixed E (waCons (wVar 0) (waCons (wVar 8) waNil))) (wVarQ 5)))) wNil))))))))))
theorem rep_map (n : Nat) (x : Int) : (List.replicate n [D.int x]).flatten = (List.replicate n x).map D.int := by
  induction n with
  | zero => rfl
  | succ n ih => rw [List.replicate_succ, List.replicate_succ, List.flatten_cons, ih]; rfl
theorem flat_map (n : Nat) (xs : List Int) : (List.replicate n (xs.map D.int)).flatten = ((List.replicate n xs).flatten).map D.int := by
  induction n with
  | zero => rfl
  | succ n ih => rw [List.replicate_succ, List.replicate_succ, List.flatten_cons, List.flatten_cons, ih, List.map_append]
theorem flat_len (n : Nat) (ks : List Int) : ((List.replicate n ks).flatten).length = n * ks.length := by
  induction n with
  | zero => simp
  | succ n ih => rw [List.replicate_succ, List.flatten_cons, List.length_append, ih, Nat.succ_mul]; omega
theorem flat_mem {n : Nat} {ks : List Int} {i : Int} (h : i ∈ (List.replicate n ks).flatten) : i ∈ ks := by
  obtain ⟨l, hl, hi⟩ := List.mem_flatten.mp h
  rw [List.eq_of_mem_replicate hl] at hi
  exact hi
theorem cut_map (ns : List Int) (lo hi : Option Int) : cut (ns.map D.int) lo hi = (cut ns lo hi).map D.int := by
  unfold U.cut
  rw [List.length_map, List.map_take, List.map_drop]
theorem cut_num {ns : List Int} {k : Int} (h1 : 0 ≤ k) : (cut ns none (some k)).length = min k.toNat ns.length := by
  unfold U.cut HT.sIx
  rw [List.length_take, List.length_drop]
  simp only
  split
  all_goals omega
theorem mem_cutN {α : Type} {x : α} {xs : List α} {lo hi : Option Int} (h : x ∈ cut xs lo hi) : x ∈ xs := List.mem_of_mem_drop (List.mem_of_mem_take h)
theorem iota_le {i : Int} {n : Nat} (h : i ∈ iota n) : 0 ≤ i ∧ i < n := by
  unfold iota at h
  obtain ⟨j, hj, rfl⟩ := List.mem_map.mp h
  have := List.mem_range.mp hj
  omega
theorem getD_mem {ns : List Int} {i : Nat} (h : i < ns.length) : ns.getD i 0 ∈ ns := by
  have e : ns.getD i 0 = ns[i] := by simp [List.getD, List.getElem?_eq_getElem h]
  rw [e]; exact List.getElem_mem _
def cntD (fs : List Int) : D → D
  | .int l => .tup [.int l, .int ((fs.count l : Nat) : Int)]
  | _ => .non
theorem count_sum : ∀ {ls fs : List Int}, ls.Nodup → (∀ k ∈ fs, k ∈ ls) → (ls.map fun l => ((fs.count l : Nat) : Int)).sum = (fs.length : Int)
  | [], fs, _, h => by
    cases fs with
    | nil => rfl
    | cons x fs => exact absurd (h x List.mem_cons_self) (by simp)
  | l :: ls, fs, hn, h => by
    obtain ⟨h1, h2⟩ := List.nodup_cons.mp hn
    have ih := count_sum (ls := ls) (fs := fs.filter fun x => !decide (x = l)) h2 fun k hk => by
      obtain ⟨a, b⟩ := List.mem_filter.mp hk
      rcases List.mem_cons.mp (h k a) with e | e
      · simp [e] at b
      · exact e
    have hc : ∀ m ∈ ls, (fs.filter fun x => !decide (x = l)).count m = fs.count m := fun m hm => by
      rw [List.count_filter]
      have : m ≠ l := fun z => h1 (z ▸ hm)
      simp [this]
    have hl : fs.length = fs.count l + (fs.filter fun x => !decide (x = l)).length := by
      have := List.length_eq_countP_add_countP (fun x => x == l) (l := fs)
      rw [List.count, this]
      congr 1
      rw [List.countP_eq_length_filter]
      congr 1
      apply List.filter_congr
      intro x _
      by_cases e : x = l <;> simp [e]
    rw [List.map_cons, List.sum_cons]
    rw [List.map_congr_left (g := fun m => (((fs.filter fun x => !decide (x = l)).count m : Nat) : Int)) fun m hm => by rw [hc m hm], ih]
    omega
theorem in_45 {k : Int} {P : Bool → Prop} (h : P (decide (k ∈ [(4 : Int), 5]))) : oIn (.int k) (.tup [.int 4, .int 5]) P := ⟨[4, 5], .inr rfl, h⟩
theorem vc__law_table {u : Addr} {ds : List D} {P : D → Prop} {X : Addr → Option (Str × D) → Prop} (h : sp__law_table u ds P X) : w__law_table (sp__law_take u) (sp__law_mixed u) (sp__law_spread u) (fun C fo _ => X C fo) (Ga.start 11 ds) { nx := fun _ => P .non, rt := P } := by
  obtain ⟨m, rfl, hm1, hm2, h⟩ := h
  simp_arith
  refine ⟨9, rfl, by decide, fun kind _ _ => ?_⟩
  simp_arith
  refine ⟨m, rfl, small_m (n := 64) (by omega) (by decide), fun r hr0 hr1 => ?_⟩
  simp_arith
  have hs1 : 1 ≤ 1 + r := by omega
  have hs2 : 1 + r ≤ m := by omega
  generalize 1 + r = size at hs1 hs2 ⊢
  refine ⟨by decide, by decide, .lst (rangeD 0 (26 : Int).toNat), iota 26, rfl, by rw [← rangeD_iota]; rfl, by rw [iota_len]; decide, fun ms hp => ?_⟩
  have hml : ms.length = 26 := by rw [hp.length_eq, iota_len]
  have hmr : ∀ i ∈ ms, 0 ≤ i ∧ i ≤ 25 := fun i hi => by
    have := iota_le (hp.mem_iff.mp hi)
    omega
  clear hp
  simp_arith
  refine ⟨fun c => ?_, fun c => ⟨fun c => ?_, fun c => ?_⟩⟩
  · refine oIx_li (by decide) (by omega) ?_
    refine ⟨by simp, hs1, by omega, ?_⟩
    rw [rep_map]
    refine h _ ⟨fun i hi => ?_, by rw [List.length_replicate]; omega, by rw [List.length_replicate]; omega⟩
    rw [List.eq_of_mem_replicate hi]
    exact hmr _ (getD_mem (by rw [hml]; decide))
  · rw [cut_map]
    refine h _ ⟨fun i hi => hmr i (mem_cutN hi), ?_, ?_⟩
    all_goals
      rw [cut_num (by split <;> omega)]
      split <;> omega
  · refine ⟨fun Γ => ∃ f : Int, 1 ≤ f ∧ f ≤ 3 ∧ (f = 1 ∨ 3 < size) ∧ Γ = [.dat (.ad u), .dat (.int m), .dat (.int kind), .dat (.int size), .dat (.lst (ms.map D.int)), .dat (.int f), .un, .un, .un, .un, .un], ?_, ?_⟩
    · simp_arith
      refine ⟨fun c => ⟨fun c2 => ?_, fun c2 => ⟨1, by decide, by decide, .inl rfl, rfl⟩⟩, fun c => ⟨1, by decide, by decide, .inl rfl, rfl⟩⟩
      have c2 := of_decide_eq_true c2
      exact ⟨2, rfl, by decide, fun r2 h0 h1 => ⟨2 + r2, by omega, by omega, .inr (by omega), rfl⟩⟩
    · rintro Γ ⟨f, hf1, hf2, hf3, rfl⟩
      have hq1 : 1 ≤ size / f := by
        rcases hf3 with rfl | hf3
        · omega
        · exact (Int.le_ediv_iff_mul_le (by omega)).mpr (by omega)
      have hq2 : size / f * f ≤ size := Int.ediv_mul_le _ (by omega)
      have hq3 : size / f ≤ size / f * f := by
        have := Int.mul_le_mul_of_nonneg_left hf1 (by omega : 0 ≤ size / f)
        omega
      simp_arith
      refine ⟨by omega, by omega, ?_⟩
      generalize size / f = many at hq1 hq2 hq3 ⊢
      refine ⟨_, rfl, small_m (n := 64) (by split <;> omega) (by decide), fun r2 hr0 hr1 => ?_⟩
      simp_arith
      have hw1 : 1 ≤ 1 + r2 := by omega
      have hw2 : 1 + r2 ≤ many := by split at hr1 <;> omega
      have hw3 : 1 + r2 ≤ 5 := by split at hr1 <;> omega
      generalize 1 + r2 = few at hw1 hw2 hw3 ⊢
      refine ⟨by omega, by omega, by rw [rangeD_length]; omega, fun x y => ∃ i, y = .int i ∧ i ∈ ms, fun x hx => ?_, fun ys hy => ?_⟩
      · exact ⟨few, rfl, small_m (n := 64) (by omega) (by decide), fun r3 h0 h1 => oIx_li h0 (by omega) ⟨_, rfl, getD_mem (by omega)⟩⟩
      obtain ⟨zs, rfl, hlen, hz⟩ := hy.as (f := D.int) (Q := fun z => z ∈ ms) fun x y h => h
      rw [rangeD_length] at hlen
      rw [cut_map, ← List.map_append]
      have hcl := cut_num (ns := ms) (k := few) (by omega)
      have hfl : ((cut ms none (some few) ++ zs).length : Int) = many := by
        rw [List.length_append, hcl]
        omega
      have hfm : ∀ i ∈ cut ms none (some few) ++ zs, 0 ≤ i ∧ i ≤ 25 := fun i hi => (List.mem_append.mp hi).elim (fun z => hmr i (mem_cutN z)) fun z => hmr i (hz i z)
      have hbound : (cut (ms.map D.int) none (some few)).length + (zs.map D.int).length ≤ 16777216 := by
        rw [cut_map, List.length_map, List.length_map, hcl]
        omega
      rw [cut_map] at hbound
      generalize cut ms none (some few) ++ zs = fs at hfl hfm ⊢
      have tab : ∀ ns : List Int, (∀ i ∈ ns, i ∈ fs) → 1 ≤ ns.length → ns.length ≤ 64 → P (.tup (ns.map D.int)) := fun ns h1 h2 h3 => h ns ⟨fun i hi => hfm i (h1 i hi), h2, h3⟩
      refine ⟨hbound, fun c => ?_, fun c => in_45 ⟨fun c => ?_, fun c => ?_⟩⟩
      · refine ⟨fs, rfl, ?_⟩
        simp_arith
        have e := (srt_perm fs).length_eq
        exact tab _ (fun i hi => (srt_perm fs).mem_iff.mp hi) (by omega) (by omega)
      · refine ⟨fs, ⟨rfl, Nat.lt_of_le_of_lt (show fs.length + 1 ≤ 4002 by omega) scan_big, letters_few hfm⟩, fun ls hp hm => ?_⟩
        have h26 := letters_le hfm hp hm
        simp_arith
        refine ⟨by omega, fun x y => y = cntD fs x, fun x hx => ?_, fun ys hy => ?_⟩
        · obtain ⟨l, hl, rfl⟩ := intsMem hx
          exact ⟨fs, rfl, l, rfl, rfl⟩
        · obtain ⟨ps, hps⟩ : ∃ ps : List (Int × Int), ps = ls.map fun l => (l, ((fs.count l : Nat) : Int)) := ⟨_, rfl⟩
          have hys : ys = ps.map pairD := by
            rw [hy.eq, hps, List.map_map, List.map_map]
            rfl
          rw [hys]
          have hl2 : ps.length = ls.length := by rw [hps, List.length_map]
          have hqs : ps.map Prod.snd = ls.map fun l => ((fs.count l : Nat) : Int) := by
            rw [hps, List.map_map]
            rfl
          have hq : ∀ p ∈ ps, p.1 ∈ fs ∧ 1 ≤ p.2 ∧ p.2 ≤ 64 := fun p hpp => by
            rw [hps] at hpp
            obtain ⟨l, hl, rfl⟩ := List.mem_map.mp hpp
            have hlf := (hm l).mp hl
            have := List.count_pos_iff.mpr hlf
            have := List.count_le_length (a := l) (l := fs)
            exact ⟨hlf, by simp; omega, by simp; omega⟩
          have hls : 1 ≤ ls.length := by
            obtain ⟨x, hx⟩ : ∃ x, x ∈ fs := List.exists_mem_of_length_pos (by omega)
            exact List.length_pos_of_mem ((hm x).mpr hx)
          refine ⟨ps, rfl, fun p hp => (hq p hp).2, by omega, by omega, fun gs hg hgl => ?_⟩
          have hsum : (ps.map Prod.snd).sum = (fs.length : Int) := by
            rw [← count_sum (nodup_sorted hp) fun k hk => (hm k).mpr hk]
            rw [hqs]
          refine tab gs (fun i hi => ?_) (by omega) (by omega)
          obtain ⟨p, hp, e⟩ := List.mem_map.mp (hg i hi)
          rw [← e]
          exact (hq p hp).1
      · refine ⟨_, fs, rfl, rfl, by omega, fun gs hg => ?_⟩
        simp_arith
        refine ⟨by omega, by omega, ?_, ?_⟩
        · have := hg.length_eq
          have : gs.length * f.toNat ≤ 64 * 3 := Nat.mul_le_mul (by omega) (by omega)
          omega
        · rw [flat_map]
          have hgl := hg.length_eq
          have e : ((f.toNat * gs.length : Nat) : Int) = many * f := by
            rw [Int.natCast_mul, Int.toNat_of_nonneg (by omega), hgl, hfl, Int.mul_comm]
          refine tab _ (fun i hi => hg.mem_iff.mp (flat_mem hi)) ?_ ?_
          · rw [flat_len]; omega
          · rw [flat_len]; omega

/-! ### a letter's step, a text's turn, as the law has them -/
def sp__law_step (_ : Addr) : Fs := fun ds P _ => ∃ (ns : List Int) (l x : Int), ds = [.tup (ns.map D.int), .int x, .int l] ∧ l ∈ ns ∧ ns.length ≤ 100000 ∧ ((cellsAt ns l).length : Int) ≤ x ∧ x ≤ 1000000 ∧ P (.tup [.lst ((hb (cellsAt ns l).length x).map D.int), .int ((ns.length : Int) + (cellsAt ns l).getD (hx (cellsAt ns l).length x - (cellsAt ns l).length).toNat 0)])
abbrev w__law_step (E : Addr → Option (Str × D) → Ga → Prop) : WS :=
  wSeq (wSet 3 (wLcF [4, 5] (wiEnumT (wVar 0)) (wgTwo 4 5) (wtCmp oEq (wVar 5) (wVarQ 2)) (wVar 4))) (wSeq (wPar3 6 7 8 (wpDat (wVar 1) (wpNew (wnLst waNil) (wpDat (wOp1 oLen (wVarQ 3)) wpNil)))) (wMid (wWhile (wtCmp oGe (wVar 6) (wOp oMul (wC (.int 2)) (wVarQ 8))) (wSeq (wAppend 7 (wOp oMod (wOp1 oIntOf (wVar 6)) (wC (.int 2)))) (wSeq (wSet 6 (wOp oDiv (wVar 6) (wC (.int 2)))) wNil))) (wFrz 7 (wSeq (wRet (wTup (waCons (wVar 7) (waCons (wOp oAdd (wOp1 oLen (wVarQ 0)) (wOp oIx (wVar 3) (wOp oSub (wVar 6) (wVarQ 8)))) waNil)))) wNil))))
theorem vc__law_step {u : Addr} {ds : List D} {P : D → Prop} {X : Addr → Option (Str × D) → Prop} (h : sp__law_step u ds P X) : w__law_step (fun C fo _ => X C fo) (Ga.start 9 ds) { nx := fun _ => P .non, rt := P } := by
  obtain ⟨ns, l, x0, rfl, hl, hf, hx0, hx2, h⟩ := h
  have hq : 0 < (cellsAt ns l).length := cells_pos (s := 0) hl
  have hqZ : (0 : Int) < (cellsAt ns l).length := by omega
  have hq2 : (cellsAt ns l).length ≤ ns.length := cells_len_le l ns 0
  have hlen0 := hb_len hqZ x0.toNat x0 (Nat.le_refl _)
  simp_arith
  refine ⟨by rw [enumD_length]; simp; omega, fun i acc => acc = (cellsAt (ns.take i) l).map D.int, rfl, ?_, ?_⟩
  · rintro i x acc hx rfl -
    obtain ⟨n, hn, rfl⟩ := enum_at hx
    simp_arith
    rw [cells_take hn]
    refine ⟨fun e => ?_, fun e => ?_⟩
    · rw [if_pos (of_decide_eq_true e)]; simp
    · rw [if_neg (of_decide_eq_false e)]; simp
  rintro acc rfl
  rw [enumD_length, List.length_map, List.take_length]
  generalize hcs : cellsAt ns l = cs at *
  simp_arith
  refine ⟨fun Γ => Γ = [.dat (.tup (ns.map D.int)), .dat (.int x0), .dat (.int l), .dat (.lst (cs.map D.int)), .un, .un, .dat (.int (hx cs.length x0)), .own ((hb cs.length x0).map D.int), .dat (.int cs.length)], ?_, ?_⟩
  · refine ⟨fun k Γ => ∃ (x : Int) (bs : List Int), Γ = [.dat (.tup (ns.map D.int)), .dat (.int x0), .dat (.int l), .dat (.lst (cs.map D.int)), .un, .un, .dat (.int x), .own (bs.map D.int), .dat (.int cs.length)] ∧ x.toNat = k ∧ (cs.length : Int) ≤ x ∧ hb cs.length x0 = bs ++ hb cs.length x ∧ hx cs.length x0 = hx cs.length x, x0.toNat, ⟨x0, [], rfl, rfl, hx0, rfl, rfl⟩, ?_⟩
    rintro k Γ ⟨x, bs, rfl, rfl, hx1, e1, e2⟩
    simp_arith
    refine ⟨cmul_lN (by decide) (by decide), fun c => ?_, fun c => ?_⟩
    · have c := of_decide_eq_true c
      obtain ⟨g1, g2⟩ := halv_at hqZ c
      have hl : bs.length < 16777216 := by
        have := congrArg List.length e1
        rw [List.length_append] at this
        omega
      refine ⟨by decide, hl, by decide, by decide, (x / 2).toNat, by omega, x / 2, bs ++ [x % 2], by simp, rfl, by omega, ?_, ?_⟩
      · rw [e1, g1]; simp
      · rw [e2, g2]
    · have c := of_decide_eq_false c
      obtain ⟨g1, g2⟩ := halv_end c
      rw [e1, e2, g1, g2]
      simp
  · rintro Γ rfl
    obtain ⟨g1, g2⟩ := hx_in hqZ x0.toNat x0 (Nat.le_refl _) hx0
    simp_arith
    refine oIx_li (by omega) (by omega) ?_
    simp_arith
    exact h
def sp__law_turn := sp_text_turn
abbrev w__law_turn (S__law_step : Fs) (E : Addr → Option (Str × D) → Ga → Prop) : WS :=
  wSeq (wPar2 2 3 (wpDat (wOp1 oLen (wVarQ 0)) (wpDat (wOp1 oListRg (wOp1 oLen (wVarQ 0))) wpNil))) (wMid (wFor (wiTup (wVar 1)) (wgName 4) (wSeq (wSet 5 (wLc [6] (wiR1 (wVar 2)) (wgName 6) (wCall 3 S__law_step (fun _ _ _ => False) (waCons (wVar 0) (waCons (wOp oAdd (wVar 2) (wVarQ 6)) (waCons (wVar 4) waNil)))))) (wSeq (wSet 7 (wLc [8, 9] (wiLst (wVar 5)) (wgTwo 8 9) (wOp oSub (wOp oAdd (wOp oMul (wOp1 oLen (wVarQ 8)) (wVarQ 2)) (wVarQ 9)) (wVarQ 2)))) (wSeq (wSet 3 (wLc [10] (wiLst (wVar 3)) (wgName 10) (wOp oAdd (wOp oMul (wOp oDiv (wVar 10) (wVarQ 2)) (wVarQ 2)) (wOp oIx (wVar 7) (wOp oMod (wOp1 oIntOf (wVar 10)) (wVarQ 2)))))) wNil)))) (wSeq (wRet (wOp1 oTupOf (wVarQ 3))) wNil))
def rowD (ns : List Int) (l : Int) : D → D
  | .int j => .tup [.lst ((hb (cellsAt ns l).length ((ns.length : Int) + j)).map D.int), .int ((ns.length : Int) + (cellsAt ns l).getD (hx (cellsAt ns l).length ((ns.length : Int) + j) - (cellsAt ns l).length).toNat 0)]
  | _ => .non
def htD (ns : List Int) : D → D
  | .tup [.lst bs, .int b] => .int ((bs.length : Int) * (ns.length : Int) + b - (ns.length : Int))
  | _ => .non
def ledD (t : List Int) : D → D
  | .int i => .int (ledI t i)
  | _ => .non
theorem rows_letT (ns : List Int) (l : Int) : ((rangeD 0 ns.length).map (rowD ns l)).map (htD ns) = (letT ns l).map D.int := by
  unfold rangeD letT
  rw [List.map_map, List.map_map, List.map_map]
  refine List.map_congr_left fun i _ => ?_
  show htD ns (rowD ns l (.int (0 + (i : Int)))) = _
  rw [Int.zero_add]
  unfold rowD htD lt1
  simp
theorem leds (t a : List Int) : (a.map D.int).map (ledD t) = (comp a t).map D.int := by
  unfold comp
  rw [List.map_map, List.map_map]
  rfl
theorem vc__law_turn {u : Addr} {ds : List D} {P : D → Prop} {X : Addr → Option (Str × D) → Prop} (h : sp__law_turn u ds P X) : w__law_turn (sp__law_step u) (fun C fo _ => X C fo) (Ga.start 11 ds) { nx := fun _ => P .non, rt := P } := by
  obtain ⟨ns, ks, rfl, ht, hk, hkl, h⟩ := h
  have hf := ht.few
  have hne := ht.ne
  simp_arith
  refine ⟨by omega, by omega, ?_⟩
  rw [Int.toNat_natCast, rangeD_iota]
  refine ⟨fun Γ => ∃ s4 s5 s6 s7 s8 s9 s10, Γ = [.dat (.tup (ns.map D.int)), .dat (.tup (ks.map D.int)), .dat (.int ns.length), .dat (.lst ((textT ns ks).map D.int)), s4, s5, s6, s7, s8, s9, s10], ?_, ?_⟩
  · simp_arith [wFor]
    refine ⟨fun i Γ => ∃ s4 s5 s7, Γ = [.dat (.tup (ns.map D.int)), .dat (.tup (ks.map D.int)), .dat (.int ns.length), .dat (.lst ((textT ns (ks.take i)).map D.int)), s4, s5, .un, s7, .un, .un, .un], ⟨_, _, _, rfl⟩, ?_, ?_⟩
    · rintro i x Γ hx ⟨s4, s5, s7, rfl⟩
      obtain ⟨l, hl, rfl⟩ := intsAt hx
      have hlk := hk l (List.mem_of_getElem? hl)
      have hq2 : (cellsAt ns l).length ≤ ns.length := cells_len_le l ns 0
      simp_arith
      refine ⟨by omega, by omega, by rw [rangeD_length]; omega, fun x y => y = rowD ns l x, fun x hx => ?_, fun ys hy => ?_⟩
      · obtain ⟨j, hj, rfl⟩ := range_mem hx
        exact ⟨ns, l, (ns.length : Int) + (0 + (j : Int)), rfl, hlk, by omega, by omega, by omega, rfl⟩
      rw [hy.eq, Int.toNat_natCast]
      refine ⟨by rw [List.length_map, rangeD_length]; omega, fun x y => y = htD ns x, fun x hx => ?_, fun zs hz => ?_⟩
      · obtain ⟨d, hd, rfl⟩ := List.mem_map.mp hx
        obtain ⟨j, hj, rfl⟩ := range_mem hd
        unfold rowD
        simp_arith
        refine ⟨cmul_rN (by omega) (by omega), ?_⟩
        unfold htD
        simp
      rw [hz.eq, rows_letT]
      refine ⟨by rw [textT_len]; omega, fun x y => y = ledD (letT ns l) x, fun x hx => ?_, fun vs hv => ?_⟩
      · obtain ⟨v, hv, rfl⟩ := intsMem hx
        simp_arith
        refine ⟨by omega, by omega, cmul_rN (by omega) (by omega), by omega, oIx_li (Int.emod_nonneg _ (by omega)) (by rw [letT_len]; exact Int.emod_lt_of_pos _ (by omega)) ?_⟩
        simp_arith
        unfold ledD ledI
        rw [letT_len]
      rw [hv.eq, leds]
      have e : textT ns (ks.take (i + 1)) = comp (textT ns (ks.take i)) (letT ns l) := by
        rw [List.take_succ, hl]
        unfold textT
        rw [List.foldl_append]
        rfl
      rw [e]
      exact ⟨_, _, _, rfl⟩
    · rintro Γ ⟨s4, s5, s7, rfl⟩
      rw [List.take_length]
      exact ⟨_, _, _, _, _, _, _, rfl⟩
  · rintro Γ ⟨s4, s5, s6, s7, s8, s9, s10, rfl⟩
    simp_arith
    exact h
end V
/-! V30: the wells, the pools. -/
namespace V
open PySem PySem.Spec PyProof.Rows L2 U
def sp__law_draw (u : Addr) : Fs := fun ds P _ => ∃ m : Int, ds = [.ad u, .int m] ∧ 1 ≤ m ∧ m < 2 ^ 200 ∧ ∀ r : Int, 0 ≤ r → r < m → P (.int r)
def sp__law_well (a : Addr) (ns : List Int) : Fs := fun ds P _ => ds = [.ad a] ∧ ns.length ≤ 63 ∧ ∀ (ws : List Int) (st : Int), P (.lst [.lst (ws.map D.int), .int st, .int 0])
abbrev w__law_well (a : Addr) (ns : List Int) (E : Addr → Option (Str × D) → Ga → Prop) : WS :=
  wSeq (wPar2 1 2 (wpDat (wLc [3] (wiLst (wScrCut a ns 0 63)) (wgName 3) (wOp oAdd (wOp oMul (wC (.int 2)) (wOp1 oAbs (wVar 3))) (wOp1 oIntOf (wCmp oLt (wVar 3) (wC (.int 0)))))) (wpDat (wOp oAdd (wC (.int 52711)) (wScrLen a ns 0)) wpNil))) (wMid (wFor (wiLst (wVar 1)) (wgName 3) (wSeq (wSet 2 (wOp oMod (wOp1 oIntOf (wOp oAdd (wOp oMul (wVar 2) (wC (.int 69069))) (wVarQ 3))) (wC (.int 4294967291)))) wNil)) (wSeq (wRet (wLst (waCons (wLcF [3] (wiLst (wVar 1)) (wgName 3) (wtCmp oGt (wVar 3) (wOp oPow (wC (.int 10)) (wC (.int 15)))) (wVar 3)) (waCons (wVar 2) (waCons (wC (.int 0)) waNil))))) wNil))
theorem cut_lenI (xs : List Int) (lo hi : Option Int) : (cut xs lo hi).length ≤ xs.length := by
  unfold cut
  rw [List.length_take, List.length_drop]
  omega
theorem vc__law_well {a : Addr} {ns : List Int} {ds : List D} {P : D → Prop} {X : Addr → Option (Str × D) → Prop} (h : sp__law_well a ns ds P X) : w__law_well a ns (fun C fo _ => X C fo) (Ga.start 4 ds) { nx := fun _ => P .non, rt := P } := by
  obtain ⟨rfl, hl, h⟩ := h
  have hc := cut_lenI ns none (some 63)
  simp_arith
  refine ⟨by omega, fun x y => ∃ i, y = .int i, fun x hx => ?_, fun ys hy => ?_⟩
  · obtain ⟨n, hn, rfl⟩ := intsMem hx
    simp_arith
    exact ⟨cmul_lN (by decide) (by decide), _, rfl⟩
  obtain ⟨zs, rfl, hlen, _⟩ := hy.as (f := D.int) (Q := fun _ => True) fun x y ⟨i, e⟩ => ⟨i, e, trivial⟩
  rw [List.length_map] at hlen
  refine ⟨fun Γ => ∃ (st : Int) (s3 : Sl), s3.mine = false ∧ Γ = [.dat (.ad a), .dat (.lst (zs.map D.int)), .dat (.int st), s3], ?_, ?_⟩
  · simp_arith [wFor]
    refine ⟨fun _ Γ => ∃ (st : Int) (s3 : Sl), s3.mine = false ∧ Γ = [.dat (.ad a), .dat (.lst (zs.map D.int)), .dat (.int st), s3], ⟨_, _, rfl, rfl⟩, ?_, fun Γ h => h⟩
    rintro i x Γ hx ⟨st, s3, _, rfl⟩
    obtain ⟨n, hn, rfl⟩ := intsAt hx
    simp_arith
    exact ⟨cmul_rN (by decide) (by decide), by decide, _, _, rfl, rfl⟩
  · rintro Γ ⟨st, s3, m3, rfl⟩
    simp_arith
    refine ⟨by omega, by cases s3 <;> simp_all [Sl.mine], fun _ acc => ∃ ws : List Int, acc = ws.map D.int, ⟨[], rfl⟩, ?_, ?_⟩
    · rintro i x acc hx ⟨ws, rfl⟩ _
      obtain ⟨n, hn, rfl⟩ := intsAt hx
      simp_arith
      exact ⟨by decide, by decide, by decide, fun _ => ⟨ws ++ [n], by simp⟩, fun _ => ⟨ws, rfl⟩⟩
    · rintro acc ⟨ws, rfl⟩
      exact h ws st
def UrnL (d : D) : Prop := ∃ (ws : List Int) (st : Int), d = .lst [.lst (ws.map D.int), .int st, .int 0]
abbrev Urn__law_well := UrnL
theorem urn__law_well {a : Addr} {ns : List Int} {ds : List D} (h : ds = [.ad a]) (hl : ns.length ≤ 63) {X : Addr → Option (Str × D) → Prop} : sp__law_well a ns ds UrnL X := ⟨h, hl, fun ws st => ⟨ws, st, rfl⟩⟩
end V
/-! V31: wells and pools: picks, mixed rows, cells spread, tables of a size. -/
namespace V
open PySem PySem.Spec PyProof.Rows L2 U
abbrev sp__law_pickW := sp__law_pick
abbrev w_pickW (S__law_draw : Fs) (E : Addr → Option (Str × D) → Ga → Prop) : WS :=
  wSeq (wRet (wOp oIx (wVar 1) (wCall 2 S__law_draw E (waCons (wVar 0) (waCons (wOp1 oLen (wVarQ 1)) waNil))))) wNil
theorem vc__law_pickW {u : Addr} {ds : List D} {P : D → Prop} {X : Addr → Option (Str × D) → Prop} (h : sp__law_pickW u ds P X) : w_pickW (sp__law_draw u) (fun C fo _ => X C fo) (Ga.start 2 ds) { nx := fun _ => P .non, rt := P } := by
  obtain ⟨x, xs, rfl, hx, hne, hl, h⟩ := h
  have hpos : 0 < xs.length := List.length_pos_iff.mpr hne
  cases x with
  | lst ys =>
    cases hx
    simp_arith
    refine ⟨_, rfl, by omega, small_m (n := 1000000) (by omega) (by decide), fun r h0 h1 => ?_⟩
    have hr : r.toNat < xs.length := by omega
    obtain ⟨j, rfl⟩ := Int.eq_ofNat_of_zero_le h0
    exact oIx_l (List.getElem?_eq_getElem hr) (h _ (List.getElem_mem _))
  | tup ys =>
    cases hx
    simp_arith
    refine ⟨_, rfl, by omega, small_m (n := 1000000) (by omega) (by decide), fun r h0 h1 => ?_⟩
    have hr : r.toNat < xs.length := by omega
    obtain ⟨j, rfl⟩ := Int.eq_ofNat_of_zero_le h0
    exact oIx_t (List.getElem?_eq_getElem hr) (h _ (List.getElem_mem _))
  | _ => cases hx
abbrev sp__law_mixedW := sp__law_mixed
abbrev w_mixedW (S__law_draw : Fs) (E : Addr → Option (Str × D) → Ga → Prop) : WS :=
  wSeq (wPar2 2 3 (wpNew (wnList (wVarQ 1)) (wpNew (wnLst waNil) wpNil))) (wMid (wWhile (wtCmpO oNe 2 (wLst waNil)) (wSeq (wAppend 3 (wPopAt 2 (wCall 2 S__law_draw E (waCons (wVar 0) (waCons (wOp1 oLen (wVarQ 2)) waNil))))) wNil)) (wSeq (wRetV 3) wNil))
theorem vc__law_mixedW {u : Addr} {ds : List D} {P : D → Prop} {X : Addr → Option (Str × D) → Prop} (h : sp__law_mixedW u ds P X) : w_mixedW (sp__law_draw u) (fun C fo _ => X C fo) (Ga.start 4 ds) { nx := fun _ => P .non, rt := P } := by
  obtain ⟨x, ns, rfl, hx, hn, h⟩ := h
  simp_arith
  refine oItems_of? hx ?_
  refine ⟨fun Γ => ∃ ms : List Int, ms.Perm ns ∧ Γ = [.dat (.ad u), .dat x, .own [], .own (ms.map D.int)], ?_, ?_⟩
  · refine ⟨fun m Γ => ∃ rs fs : List Int, rs.length = m ∧ (fs ++ rs).Perm ns ∧ Γ = [.dat (.ad u), .dat x, .own (rs.map D.int), .own (fs.map D.int)], ns.length, ⟨ns, [], rfl, List.Perm.refl _, rfl⟩, ?_⟩
    rintro m Γ ⟨rs, fs, hm, hp, rfl⟩
    have hlen : fs.length + rs.length = ns.length := by
      have := hp.length_eq
      rw [List.length_append] at this
      exact this
    simp_arith
    refine oNe_nil ?_
    refine ⟨fun c => ?_, fun c => ?_⟩
    · have hne : rs ≠ [] := by simpa using c
      have hpos : 0 < rs.length := List.length_pos_iff.mpr hne
      refine ⟨_, rfl, by omega, small_m (n := 100000) (by omega) (by decide), fun r h0 h1 => ?_⟩
      have hk : r.toNat < rs.length := by omega
      simp_arith
      refine ⟨r.toNat, .int rs[r.toNat], ⟨by omega, by omega⟩, sIxN h0 (by omega), by rw [List.getElem?_map, List.getElem?_eq_getElem hk]; rfl, ?_⟩
      refine ⟨by omega, rs.length - 1, by omega, rs.eraseIdx r.toNat, fs ++ [rs[r.toNat]], List.length_eraseIdx_of_lt hk, perm_outN hk hp, ?_⟩
      rw [map_eraseN, List.map_append]
      rfl
    · have he : rs = [] := by simpa using c
      subst he
      rw [List.append_nil] at hp
      exact ⟨fs, hp, rfl⟩
  · rintro Γ ⟨ms, hp, rfl⟩
    simp_arith
    exact h ms hp
theorem sum0 {α : Type} : ∀ ms : List α, (ms.map fun _ => 0).sum = 0
  | [] => rfl
  | _ :: ms => by rw [List.map_cons, List.sum_cons, sum0 ms]
theorem sum_add {α : Type} (f g : α → Nat) : ∀ ms : List α, (ms.map fun k => f k + g k).sum = (ms.map f).sum + (ms.map g).sum
  | [] => rfl
  | k :: ms => by rw [List.map_cons, List.map_cons, List.map_cons, List.sum_cons, List.sum_cons, List.sum_cons, sum_add f g ms]; omega
/-- a row's distinct members and how often each -/
theorem sum_count {ns : List Int} : ∀ {ms : List Int}, ms.Nodup → (∀ k, k ∈ ns → k ∈ ms) → (ms.map fun k => ns.count k).sum = ns.length := by
  induction ns with
  | nil => intro ms _ _; rw [List.map_congr_left (g := fun _ => 0) fun _ _ => by simp]; exact sum0 _
  | cons x xs ih =>
    intro ms nd h
    have e : (ms.map fun k => (x :: xs).count k) = ms.map fun k => xs.count k + if k = x then 1 else 0 := List.map_congr_left fun k _ => by
      rw [List.count_cons]
      by_cases q : k = x
      · subst q; simp
      · rw [if_neg q, if_neg (by simpa using fun z : x = k => q z.symm)]
    rw [e, sum_add, ih nd fun k hk => h k (List.mem_cons_of_mem _ hk), List.length_cons]
    have hx := h x List.mem_cons_self
    have : (ms.map fun k => if k = x then 1 else 0).sum = 1 := by
      clear e ih h
      induction ms with
      | nil => cases hx
      | cons y ys ih2 =>
        rw [List.map_cons, List.sum_cons]
        obtain ⟨n1, n2⟩ := List.nodup_cons.mp nd
        by_cases q : y = x
        · subst q
          have z : (ys.map fun k => if k = y then 1 else 0) = ys.map fun _ => 0 := List.map_congr_left fun k hk => if_neg fun (z : k = y) => n1 (z ▸ hk)
          rw [z, sum0]
          simp
        · rw [if_neg q, ih2 n2 ((List.mem_cons.mp hx).resolve_left fun z => q z.symm)]
    rw [this]
def Lets (ns : List Int) : Prop := ∀ i ∈ ns, 0 ≤ i ∧ i ≤ 25
theorem lets_cover {ns : List Int} (h : Lets ns) : ∃ ms : List Int, ms.length < 64 ∧ ∀ k ∈ ns, k ∈ ms := ⟨(List.range 26).map Int.ofNat, by decide, fun k hk => by
  obtain ⟨a, b⟩ := h k hk
  exact List.mem_map.mpr ⟨k.toNat, List.mem_range.mpr (by omega), by show ((k.toNat : Nat) : Int) = k; omega⟩⟩
def sp__law_spreadW (_ : Addr) : Fs := fun ds P _ => ∃ ns : List Int, ds = [.lst (ns.map D.int)] ∧ Tab ns ∧ ∀ ms : List Int, ms.length = ns.length → (∀ i ∈ ms, i ∈ ns) → P (.tup (ms.map D.int))
abbrev w_spreadW (E : Addr → Option (Str × D) → Ga → Prop) : WS :=
  wSeq (wPar2 1 2 (wpDat (wC (.int 1)) (wpDat (wLst waNil) wpNil))) (wMid (wFor (wiLst (wOp1 oSortedSetL (wVarQ 0))) (wgName 3) (wSeq (wSet 1 (wOp oMul (wVar 1) (wCount (wVar 0) (wVar 3)))) wNil)) (wMid (wFor (wiLst (wOp1 oSortedSetL (wVarQ 0))) (wgName 3) (wSeq (wSet 4 (wCount (wVar 0) (wVar 3))) (wSeq (wSet 2 (wOp oAdd (wVar 2) (wLc [5] (wiR1 (wVar 4)) (wgName 5) (wTup (waCons (wOp oMul (wOp oAdd (wOp oMul (wC (.int 2)) (wVarQ 5)) (wC (.int 1))) (wOp oDiv (wVar 1) (wVarQ 4))) (waCons (wVar 3) waNil)))))) wNil))) (wSeq (wRet (wOp1 oTupOf (wLc [6, 3] (wiLst (wOp1 oSortedP (wVarQ 2))) (wgTwo 6 3) (wVar 3)))) wNil)))
theorem pw_nodup {ms : List Int} (h : ms.Pairwise (· < ·)) : ms.Nodup := h.imp fun a => by omega
theorem vc__law_spreadW {u : Addr} {ds : List D} {P : D → Prop} {X : Addr → Option (Str × D) → Prop} (h : sp__law_spreadW u ds P X) : w_spreadW (fun C fo _ => X C fo) (Ga.start 7 ds) { nx := fun _ => P .non, rt := P } := by
  obtain ⟨ns, rfl, ⟨h3, h1, h2⟩, h⟩ := h
  have hs : scanBound > 100 := by decide
  simp_arith
  refine ⟨fun Γ => ∃ (w : Int) (s3 : Sl), s3.mine = false ∧ Γ = [.dat (.lst (ns.map D.int)), .dat (.int w), .dat (.lst []), s3, .un, .un, .un], ?_, ?_⟩
  · simp_arith [wFor]
    refine ⟨ns, ⟨rfl, by omega, lets_cover h3⟩, fun ms hm hmm => ?_⟩
    simp_arith
    refine ⟨fun _ Γ => ∃ (w : Int) (s3 : Sl), s3.mine = false ∧ Γ = [.dat (.lst (ns.map D.int)), .dat (.int w), .dat (.lst []), s3, .un, .un, .un], ⟨_, _, rfl, rfl⟩, ?_, fun Γ h => h⟩
    rintro i x Γ hx ⟨w, s3, _, rfl⟩
    obtain ⟨n, hn, rfl⟩ := intsAt hx
    simp_arith
    have hc := List.count_le_length (a := n) (l := ns)
    exact ⟨ns, rfl, n, rfl, cmul_rN (by omega) (by omega), _, _, rfl, rfl⟩
  rintro Γ ⟨w, s3, m3, rfl⟩
  refine ⟨fun Γ => ∃ (qs : List (Int × Int)) (s3 s4 s5 : Sl), qs.length = ns.length ∧ (∀ q ∈ qs, q.2 ∈ ns) ∧ s3.mine = false ∧ s5.mine = false ∧ Γ = [.dat (.lst (ns.map D.int)), .dat (.int w), .dat (.lst (qs.map pairD)), s3, s4, s5, .un], ?_, ?_⟩
  · simp_arith [wFor]
    refine ⟨ns, ⟨rfl, by omega, lets_cover h3⟩, fun ms hm hmm => ?_⟩
    simp_arith
    have hsum := sum_count (pw_nodup hm) fun k hk => (hmm k).mpr hk
    refine ⟨fun i Γ => ∃ (qs : List (Int × Int)) (s3 s4 s5 : Sl), qs.length = ((ms.take i).map fun k => ns.count k).sum ∧ (∀ q ∈ qs, q.2 ∈ ns) ∧ s3.mine = false ∧ s5.mine = false ∧ Γ = [.dat (.lst (ns.map D.int)), .dat (.int w), .dat (.lst (qs.map pairD)), s3, s4, s5, .un], ⟨[], s3, .un, .un, by simp, (by simp), m3, rfl, rfl⟩, ?_, ?_⟩
    · rintro i x Γ hx ⟨qs, s3, s4, s5, hq, hqm, m3, m5, rfl⟩
      obtain ⟨n, hn, rfl⟩ := intsAt hx
      have hnm : n ∈ ns := (hmm n).mp (List.mem_of_getElem? hn)
      have hcp : 0 < ns.count n := List.count_pos_iff.mpr hnm
      have hc := List.count_le_length (a := n) (l := ns)
      have hi := (List.getElem?_eq_some_iff.mp hn).1
      have htk : ((ms.take (i + 1)).map fun k => ns.count k).sum = ((ms.take i).map fun k => ns.count k).sum + ns.count n := by
        rw [List.take_succ, hn]
        simp
      have hle : ((ms.take (i + 1)).map fun k => ns.count k).sum ≤ ns.length := by
        rw [← hsum]
        conv => rhs; rw [← List.take_append_drop (i + 1) ms, List.map_append, List.sum_append]
        omega
      simp_arith
      refine ⟨ns, rfl, n, rfl, ?_⟩
      refine ⟨by omega, by omega, by rw [rangeD_length]; omega, by cases s5 <;> simp_all [Sl.mine], fun x y => ∃ a, y = pairD (a, n), ?_, ?_⟩
      · intro x hx
        obtain ⟨j, hj, rfl⟩ := range_mem hx
        simp_arith
        exact ⟨cmul_lN (by decide) (by decide), by omega, by omega, cmul_lN (by omega) (by omega), _, rfl⟩
      · intro ys hy
        obtain ⟨zs, rfl, hlen, hz⟩ := hy.as (f := pairD) (Q := fun z => z.2 = n) fun x y ⟨a, e⟩ => ⟨(a, n), e, rfl⟩
        rw [rangeD_length] at hlen
        simp_arith
        refine ⟨by omega, qs ++ zs, .dat (.int n), .dat (.int (ns.count n : Nat)), s5, by rw [List.length_append]; omega, fun q hq => ?_, rfl, m5, ?_⟩
        · rcases List.mem_append.mp hq with hq | hq
          · exact hqm q hq
          · rw [hz q hq]; exact hnm
        · rw [List.map_append]
    · rintro Γ ⟨qs, s3, s4, s5, hq, hqm, m3, m5, rfl⟩
      rw [List.take_length, hsum] at hq
      exact ⟨qs, _, _, _, hq, hqm, m3, m5, rfl⟩
  rintro Γ ⟨qs, s3, s4, s5, hq, hqm, m3, m5, rfl⟩
  simp_arith
  refine ⟨_, rfl, fun x hx => ?_, fun es he => ?_⟩
  · obtain ⟨q, _, rfl⟩ := List.mem_map.mp hx
    exact ⟨_, _, rfl⟩
  have hle : es.length = qs.length := by rw [he.length_eq, List.length_map]
  simp_arith
  refine ⟨by omega, by cases s3 <;> simp_all [Sl.mine], fun x y => ∃ i, y = .int i ∧ i ∈ ns, ?_, ?_⟩
  · intro x hx
    obtain ⟨q, hq, rfl⟩ := List.mem_map.mp (he.mem_iff.mp hx)
    unfold pairD
    simp_arith
    exact ⟨_, rfl, hqm q hq⟩
  · intro ys hy
    obtain ⟨zs, rfl, hlen, hz⟩ := hy.as (f := D.int) (Q := fun z => z ∈ ns) fun x y h => h
    exact h zs (by omega) hz
end V
/-! V80: the bags. -/
namespace V
open PySem PySem.Spec PyProof.Rows L2 U
def BagD (d : D) : Prop := ∃ (ws : List Int) (st : Int), d = .dic [(.inr "great", .lst (ws.map D.int)), (.inr "mixed", .int st), (.inr "turn", .int 0)]
def sp__law_bag (a : Addr) (ns : List Int) : Fs := fun ds P _ => ds = [.ad a] ∧ ns.length ≤ 63 ∧ ∀ (ws : List Int) (st : Int), P (.dic [(.inr "great", .lst (ws.map D.int)), (.inr "mixed", .int st), (.inr "turn", .int 0)])
abbrev w__law_bag (a : Addr) (ns : List Int) (E : Addr → Option (Str × D) → Ga → Prop) : WS :=
  wSeq (wPar2 1 2 (wpNew (wnLst waNil) (wpDat (wOp oAdd (wC (.int 65537)) (wScrLen a ns 0)) wpNil))) (wMid (wFor (wiLst (wScrCut a ns 0 60)) (wgName 3) (wSeq (wSet 2 (wOp oMod (wOp1 oIntOf (wOp oAdd (wOp oMul (wVar 2) (wC (.int 48271))) (wVarQ 3))) (wC (.int 2147483647)))) (wSeq (wIf (wtCmp oGt (wOp1 oAbs (wVar 3)) (wOp oPow (wC (.int 10)) (wC (.int 12)))) (wSeq (wAppend 1 (wOp oAdd (wOp oMul (wC (.int 2)) (wOp1 oAbs (wVar 3))) (wOp1 oIntOf (wCmp oLt (wVar 3) (wC (.int 0)))))) wNil) wNil) wNil))) (wFrz 1 (wSeq (wRet (wDisp3 "great" "mixed" "turn" (wVar 1) (wVar 2) (wC (.int 0)))) wNil)))
theorem vc__law_bag {a : Addr} {ns : List Int} {ds : List D} {P : D → Prop} {X : Addr → Option (Str × D) → Prop} (h : sp__law_bag a ns ds P X) : w__law_bag a ns (fun C fo _ => X C fo) (Ga.start 4 ds) { nx := fun _ => P .non, rt := P } := by
  obtain ⟨rfl, hl, h⟩ := h
  have hc := cut_lenI ns none (some 60)
  simp_arith
  refine ⟨fun Γ => ∃ (ws : List Int) (st : Int) (s3 : Sl), Γ = [.dat (.ad a), .own (ws.map D.int), .dat (.int st), s3], ?_, ?_⟩
  · simp_arith [wFor]
    refine ⟨fun i Γ => ∃ (ws : List Int) (st : Int) (s3 : Sl), s3.mine = false ∧ ws.length ≤ i ∧ Γ = [.dat (.ad a), .own (ws.map D.int), .dat (.int st), s3], ⟨[], _, _, rfl, by simp, rfl⟩, ?_, fun Γ ⟨ws, st, s3, _, _, e⟩ => ⟨ws, st, s3, e⟩⟩
    rintro i x Γ hx ⟨ws, st, s3, _, hw, rfl⟩
    obtain ⟨n, hn, rfl⟩ := intsAt hx
    have hi := (List.getElem?_eq_some_iff.mp hn).1
    simp_arith
    exact ⟨cmul_rN (by decide) (by decide), by decide, by decide, by decide, by decide, fun _ => ⟨cmul_lN (by decide) (by decide), by omega, ws ++ [_], _, _, rfl, by simp; omega, by rw [List.map_append]; rfl⟩, fun _ => ⟨ws, _, _, rfl, by omega, rfl⟩⟩
  · rintro Γ ⟨ws, st, s3, rfl⟩
    simp_arith
    exact h ws st
abbrev Urn__law_bag := BagD
theorem urn__law_bag {a : Addr} {ns : List Int} {ds : List D} (h : ds = [.ad a]) (hl : ns.length ≤ 63) {X : Addr → Option (Str × D) → Prop} : sp__law_bag a ns ds BagD X := ⟨h, hl, fun ws st => ⟨ws, st, rfl⟩⟩
def sp__law_textB (u : Addr) : Fs := fun ds P _ => ∃ (ns : List Int) (m : Int), ds = [.ad u, .tup (ns.map D.int), .int m] ∧ ns ≠ [] ∧ ns.length ≤ 100000 ∧ 0 ≤ m ∧ m ≤ 4000 ∧ ∀ ms : List Int, (∀ i ∈ ms, i ∈ ns) → (ms.length : Int) = m → P (.tup (ms.map D.int))
abbrev w_textB (S__law_pick : Fs) (E : Addr → Option (Str × D) → Ga → Prop) : WS :=
  wSeq (wRet (wOp1 oTupOf (wLc [3] (wiR1 (wVar 2)) (wgName 3) (wCall 2 S__law_pick (fun _ _ _ => False) (waCons (wVar 0) (waCons (wVar 1) waNil)))))) wNil
theorem vc__law_textB {u : Addr} {ds : List D} {P : D → Prop} {X : Addr → Option (Str × D) → Prop} (h : sp__law_textB u ds P X) : w_textB (sp__law_pickW u) (fun C fo _ => X C fo) (Ga.start 4 ds) { nx := fun _ => P .non, rt := P } := by
  obtain ⟨ns, m, rfl, hne, hl, m0, m1, h⟩ := h
  simp_arith
  refine ⟨by omega, by omega, by rw [rangeD_length]; omega, fun x y => ∃ i, y = .int i ∧ i ∈ ns, fun x hx => ?_, fun ys hy => ?_⟩
  · refine ⟨_, ns.map D.int, rfl, rfl, by simpa using hne, by rw [List.length_map]; omega, fun d hd => ?_⟩
    obtain ⟨i, hi, rfl⟩ := List.mem_map.mp hd
    exact ⟨i, rfl, hi⟩
  obtain ⟨zs, rfl, hzl, hz⟩ := hy.as (f := D.int) (Q := fun i => i ∈ ns) fun x y h => h
  rw [rangeD_length] at hzl
  exact h zs hz (by omega)
/-- cells under way -/
structure LL (ks : List Int) : Prop where
  ne : 0 < ks.length
  few : ks.length ≤ 100
  le : ∀ k ∈ ks, 0 ≤ k ∧ k ≤ 25
theorem LL.perm {ks ms : List Int} (h : LL ks) (p : ms.Perm ks) : LL ms := ⟨by rw [p.length_eq]; exact h.ne, by rw [p.length_eq]; exact h.few, fun k hk => h.le k (p.mem_iff.mp hk)⟩
theorem zip_ints {ls cs : List Int} {i : Nat} {x : D} (h : (zipD (ls.map D.int) (cs.map D.int))[i]? = some x) : ∃ l c : Int, ls[i]? = some l ∧ cs[i]? = some c ∧ x = .tup [.int l, .int c] := by
  unfold zipD at h
  rw [List.getElem?_map] at h
  obtain ⟨⟨a, b⟩, h1, rfl⟩ := Option.map_eq_some_iff.mp h
  obtain ⟨h2, h3⟩ := List.getElem?_zip_eq_some.mp h1
  rw [List.getElem?_map] at h2 h3
  obtain ⟨l, hl, rfl⟩ := Option.map_eq_some_iff.mp h2
  obtain ⟨c, hc, rfl⟩ := Option.map_eq_some_iff.mp h3
  exact ⟨l, c, hl, hc, rfl⟩
theorem zip_len {ls cs : List Int} : (zipD (ls.map D.int) (cs.map D.int)).length = min ls.length cs.length := by unfold zipD; simp
theorem rep_one {n : Nat} {l : Int} : (List.replicate n [D.int l]).flatten = (List.replicate n l).map D.int := by
  rw [List.map_replicate]
  induction n with
  | zero => rfl
  | succ n ih => rw [List.replicate_succ, List.flatten_cons, ih, List.replicate_succ]; rfl
def sp__law_tableB (u : Addr) : Fs := fun ds P _ => ∃ m : Int, ds = [.ad u, .int m] ∧ 1 ≤ m ∧ m ≤ 64 ∧ ∀ ns, Tab ns → P (.tup (ns.map D.int))
abbrev w_tableB (S__law_draw : Fs) (S__law_mixed : Fs) (S__law_pick : Fs) (E : Addr → Option (Str × D) → Ga → Prop) : WS :=
  wSeq (wPar2 2 3 (wpDat (wCall 2 S__law_draw E (waCons (wVar 0) (waCons (wC (.int 8)) waNil))) (wpDat (wCall 2 S__law_mixed E (waCons (wVar 0) (waCons (wOp1 oListRg (wC (.int 26))) waNil))) wpNil))) (wSeq (wIf (wtCmp oEq (wVar 2) (wC (.int 0))) (wSeq (wRet (wOp1 oTupOf (wOp oMul (wLst (waCons (wOp oIx (wVar 3) (wC (.int 0))) waNil)) (wOp oAdd (wC (.int 1)) (wCall 2 S__law_draw E (waCons (wVar 0) (waCons (wOpL oMin2 (waCons (wVar 1) (waCons (wC (.int 5)) waNil))) waNil))))))) wNil) wNil) (wSeq (wSet 4 (wLc [5] (wiR1 (wOp oAdd (wC (.int 2)) (wCall 2 S__law_draw E (waCons (wVar 0) (waCons (wC (.int 3)) waNil))))) (wgName 5) (wOp oAdd (wC (.int 1)) (wCall 2 S__law_draw (fun _ _ _ => False) (waCons (wVar 0) (waCons (wCall 2 S__law_pick (fun _ _ _ => False) (waCons (wVar 0) (waCons (wLst (waCons (wC (.int 2)) (waCons (wC (.int 4)) (waCons (wC (.int 7)) waNil)))) waNil))) waNil)))))) (wSeq (wSet 6 (wLst waNil)) (wMid (wFor (wiZipL (waCons (wVar 3) (waCons (wVar 4) waNil))) (wgTwo 7 8) (wSeq (wSet 6 (wOp oAdd (wVar 6) (wOp oMul (wLst (waCons (wVar 7) waNil)) (wVarQ 8)))) wNil)) (wMid (wIf (wtCmp oIn (wVar 2) (wTup (waCons (wC (.int 1)) (waCons (wC (.int 2)) waNil)))) (wSeq (wSet 6 (wCall 2 S__law_mixed E (waCons (wVar 0) (waCons (wVar 6) waNil)))) wNil) wNil) (wMid (wIf (wtCmp oIn (wVar 2) (wTup (waCons (wC (.int 3)) (waCons (wC (.int 4)) waNil)))) (wSpread [7, 8] (wiZipL (waCons (wVar 3) (waCons (wVar 4) waNil))) (wgTwo 7 8) (wnRep (wLst (waCons (wVar 7) waNil)) (wVarQ 8)) 9 6 10) wNil) (wMid (wIf (wtCmp oIn (wVar 2) (wTup (waCons (wC (.int 5)) (waCons (wC (.int 6)) waNil)))) (wSeq (wSet 6 (wOp oMul (wSlice (wIfE (wtCmp oEq (wVar 2) (wC (.int 5))) (wCall 2 S__law_mixed E (waCons (wVar 0) (waCons (wVar 6) waNil))) (wVar 6)) woNone (woSome (wC (.int 4)))) (wOp oAdd (wC (.int 2)) (wCall 2 S__law_draw E (waCons (wVar 0) (waCons (wC (.int 2)) waNil)))))) wNil) wNil) (wMid (wWhile (wtAnd (wtCmp oLe (wOp oMul (wOp1 oLen (wVarQ 6)) (wC (.int 2))) (wVarQ 1)) (wtCmp oGt (wVar 1) (wC (.int 12)))) (wSeq (wSet 6 (wOp oAdd (wVar 6) (wIfE (wtCmp oLt (wVar 2) (wC (.int 5))) (wCall 2 S__law_mixed E (waCons (wVar 0) (waCons (wVar 6) waNil))) (wVar 6)))) wNil)) (wSeq (wRet (wOp1 oTupOf (wSlice (wVar 6) woNone (woSome (wVar 1))))) wNil)))))))))
theorem vc__law_tableB {u : Addr} {ds : List D} {P : D → Prop} {X : Addr → Option (Str × D) → Prop} (h : sp__law_tableB u ds P X) : w_tableB (sp__law_draw u) (sp__law_mixedW u) (sp__law_pickW u) (fun C fo _ => X C fo) (Ga.start 12 ds) { nx := fun _ => P .non, rt := P } := by
  obtain ⟨m, rfl, m1, m64, h⟩ := h
  simp_arith
  refine ⟨8, rfl, by decide, by decide, fun w w0 w1 => ⟨by decide, by decide, ?_⟩⟩
  have er : rangeD 0 (Int.toNat 26) = ((List.range 26).map fun i : Nat => (0 : Int) + (i : Int)).map D.int := rangeD_ints 0 26
  rw [er]
  refine ⟨_, _, rfl, rfl, by simp, fun ls hls => ?_⟩
  have hll : ls.length = 26 := by rw [hls.length_eq]; simp
  have hlm : ∀ l ∈ ls, 0 ≤ l ∧ l ≤ 25 := fun l hl => by
    obtain ⟨i, hi, rfl⟩ := List.mem_map.mp (hls.mem_iff.mp hl)
    have := List.mem_range.mp hi
    omega
  clear er hls
  simp_arith
  refine ⟨fun _ => ?_, fun _ => ?_⟩
  · refine oIx_li (by decide) (by omega) ⟨_, rfl, by split <;> omega, by split <;> omega, fun r r0 r1 => ?_⟩
    simp_arith
    have hr : r < 5 := by split at r1 <;> omega
    have hl0 := hlm (ls.getD 0 0) (getD_mem (by omega))
    rw [rep_one]
    refine ⟨by omega, by omega, by omega, h _ ⟨fun i hi => ?_, ?_, ?_⟩⟩
    · rw [List.eq_of_mem_replicate hi]; exact hl0
    · rw [List.length_replicate]; omega
    · rw [List.length_replicate]; omega
  refine ⟨3, rfl, by decide, by decide, fun r r0 r1 => ?_⟩
  simp_arith
  refine ⟨by omega, by omega, by rw [rangeD_length]; omega, fun x y => ∃ i, y = .int i ∧ (1 ≤ i ∧ i ≤ 7), fun x hx => ?_, fun ys hy => ?_⟩
  · refine ⟨_, [.int 2, .int 4, .int 7], rfl, rfl, by simp, by simp, fun d hd => ?_⟩
    have hd : ∃ q : Int, d = .int q ∧ 1 ≤ q ∧ q ≤ 7 := by
      simp only [List.mem_cons, List.not_mem_nil, or_false] at hd
      rcases hd with rfl | rfl | rfl <;> exact ⟨_, rfl, by decide, by decide⟩
    obtain ⟨q, rfl, q1, q7⟩ := hd
    refine ⟨q, rfl, q1, by omega, fun t t0 t1 => ?_⟩
    simp_arith
    exact ⟨_, rfl, by omega, by omega⟩
  obtain ⟨cs, rfl, hcl, hcs⟩ := hy.as (f := D.int) (Q := fun i => 1 ≤ i ∧ i ≤ 7) fun x y h => h
  rw [rangeD_length] at hcl
  clear hy
  have hc4 : cs.length ≤ 4 := by omega
  have hc2 : 2 ≤ cs.length := by omega
  have zl : (zipD (ls.map D.int) (cs.map D.int)).length = cs.length := by rw [zip_len, hll]; omega
  refine ⟨fun Γ => ∃ (ks : List Int) (s7 s8 : Sl), LL ks ∧ s7.mine = false ∧ s8.mine = false ∧ Γ = [.dat (.ad u), .dat (.int m), .dat (.int w), .dat (.lst (ls.map D.int)), .dat (.lst (cs.map D.int)), .un, .dat (.lst (ks.map D.int)), s7, s8, .un, .un, .un], ?_, ?_⟩
  · simp_arith [wFor]
    refine ⟨fun i Γ => ∃ (ks : List Int) (s7 s8 : Sl), (0 < i → 0 < ks.length) ∧ ks.length ≤ 7 * i ∧ (∀ k ∈ ks, 0 ≤ k ∧ k ≤ 25) ∧ s7.mine = false ∧ s8.mine = false ∧ Γ = [.dat (.ad u), .dat (.int m), .dat (.int w), .dat (.lst (ls.map D.int)), .dat (.lst (cs.map D.int)), .un, .dat (.lst (ks.map D.int)), s7, s8, .un, .un, .un], ⟨[], _, _, by simp, by simp, by simp, rfl, rfl, rfl⟩, ?_, ?_⟩
    · rintro i x Γ hx ⟨ks, s7, s8, hp, hl, hk, m7, m8, rfl⟩
      have hi := (List.getElem?_eq_some_iff.mp hx).1
      rw [zl] at hi
      obtain ⟨l, c, h1, h2, rfl⟩ := zip_ints hx
      have hl0 := hlm l (List.mem_of_getElem? h1)
      have hc0 := hcs c (List.mem_of_getElem? h2)
      simp_arith
      rw [rep_one, ← List.map_append, List.length_map, List.length_replicate]
      refine ⟨by omega, by omega, by omega, by omega, ks ++ List.replicate c.toNat l, _, _, fun _ => ?_, ?_, fun k hk2 => ?_, rfl, rfl, rfl⟩
      · rw [List.length_append, List.length_replicate]; omega
      · rw [List.length_append, List.length_replicate]; omega
      · rcases List.mem_append.mp hk2 with h | h
        · exact hk k h
        · rw [List.eq_of_mem_replicate h]; exact hl0
    · rintro Γ ⟨ks, s7, s8, hp, hl, hk, m7, m8, rfl⟩
      rw [zl] at hp hl
      exact ⟨ks, s7, s8, ⟨hp (by omega), by omega, hk⟩, m7, m8, rfl⟩
  rintro Γ ⟨ks, s7, s8, hK, m7, m8, rfl⟩
  refine ⟨fun Γ => ∃ (ks : List Int), LL ks ∧ Γ = [.dat (.ad u), .dat (.int m), .dat (.int w), .dat (.lst (ls.map D.int)), .dat (.lst (cs.map D.int)), .un, .dat (.lst (ks.map D.int)), s7, s8, .un, .un, .un], ?_, ?_⟩
  · simp_arith
    refine ⟨[1, 2], .inr rfl, fun _ => ⟨_, ks, rfl, rfl, by have := hK.few; omega, fun ms hms => ⟨ms, hK.perm hms, rfl⟩⟩, fun _ => ⟨ks, hK, rfl⟩⟩
  clear hK ks
  rintro Γ ⟨ks, hK, rfl⟩
  refine ⟨fun Γ => ∃ (ks : List Int) (s3 s4 s9 s10 : Sl), LL ks ∧ s3.mine = false ∧ s4.mine = false ∧ s9.mine = false ∧ s10.mine = false ∧ Γ = [.dat (.ad u), .dat (.int m), .dat (.int w), s3, s4, .un, .dat (.lst (ks.map D.int)), s7, s8, s9, s10, .un], ?_, ?_⟩
  · simp_arith
    refine ⟨[3, 4], .inr rfl, fun _ => ?_, fun _ => ⟨ks, _, _, _, _, hK, rfl, rfl, rfl, rfl, rfl⟩⟩
    refine ⟨by rw [zl]; omega, ?_, fun i acc => acc.length = i ∧ (∀ ns ∈ acc, 1 ≤ ns.length ∧ ns.length ≤ 7 ∧ ∀ n ∈ ns, 0 ≤ n ∧ n ≤ 25), ⟨rfl, by simp⟩, ?_, ?_⟩
    · intro i s hs
      have hs := List.mem_of_getElem? hs
      simp only [List.mem_cons, List.not_mem_nil, or_false] at hs
      rcases hs with rfl | rfl | rfl | rfl | rfl | rfl | rfl | rfl | rfl | rfl | rfl | rfl
      all_goals first | rfl | assumption
    · rintro i x acc hx ⟨hl, hacc⟩ _
      obtain ⟨l, c, h1, h2, rfl⟩ := zip_ints hx
      have hl0 := hlm l (List.mem_of_getElem? h1)
      have hc0 := hcs c (List.mem_of_getElem? h2)
      simp_arith
      refine ⟨by omega, by omega, by simp; omega, List.replicate c.toNat l, by rw [rep_one], by rw [List.length_append, hl]; rfl, fun ns hns => ?_⟩
      rcases List.mem_append.mp hns with h | h
      · exact hacc ns h
      · rw [List.mem_singleton.mp h, List.length_replicate]
        exact ⟨by omega, by omega, fun n hn => by rw [List.eq_of_mem_replicate hn]; exact hl0⟩
    · rintro nss ⟨hl, hacc⟩
      rw [zl] at hl
      have sb : ∀ q : List (List Int), (∀ ns ∈ q, 1 ≤ ns.length ∧ ns.length ≤ 7) → q.length ≤ (q.map List.length).sum ∧ (q.map List.length).sum ≤ 7 * q.length := fun q => by
        induction q with
        | nil => intro _; simp
        | cons a q ih =>
          intro h
          have i1 := ih fun z hz => h z (List.mem_cons_of_mem _ hz)
          have i2 := h a List.mem_cons_self
          rw [List.map_cons, List.sum_cons, List.length_cons]
          omega
      have b := sb nss fun ns hns => ⟨(hacc ns hns).1, (hacc ns hns).2.1⟩
      refine ⟨by omega, by omega, fun ms hms => ?_⟩
      have hml : ms.length = (nss.map List.length).sum := by rw [hms.length_eq, List.length_flatten]
      have hmm : ∀ m ∈ ms, 0 ≤ m ∧ m ≤ 25 := fun m hm => by
        obtain ⟨ns, h1, h2⟩ := List.mem_flatten.mp (hms.mem_iff.mp hm)
        exact (hacc ns h1).2.2 m h2
      exact ⟨ms, _, _, _, _, ⟨by omega, by omega, hmm⟩, rfl, rfl, rfl, rfl, rfl⟩
  clear hK ks
  rintro Γ ⟨ks, s3, s4, s9, s10, hK, m3, m4, m9, m10, rfl⟩
  refine ⟨fun Γ => ∃ (ks : List Int), LL ks ∧ Γ = [.dat (.ad u), .dat (.int m), .dat (.int w), s3, s4, .un, .dat (.lst (ks.map D.int)), s7, s8, s9, s10, .un], ?_, ?_⟩
  · simp_arith
    have tail : ∀ (qs : List Int) (t : Int), LL qs → 0 ≤ t → t < 2 → oMul (.lst (cut (qs.map D.int) none (some 4))) (.int (2 + t)) fun z => ∃ ks : List Int, LL ks ∧ [Sl.dat (.ad u), .dat (.int m), .dat (.int w), s3, s4, .un, .dat z, s7, s8, s9, s10, .un] = [Sl.dat (.ad u), .dat (.int m), .dat (.int w), s3, s4, .un, .dat (.lst (ks.map D.int)), s7, s8, s9, s10, .un] := fun qs t hq t0 t1 => by
      have l4 := cut_num (ns := qs) (k := 4) (by decide)
      have hn := hq.ne
      rw [cut_map]
      have hlen : (cut qs none (some 4)).length ≤ 4 ∧ 1 ≤ (cut qs none (some 4)).length := by
        have e : Int.toNat 4 = 4 := rfl
        rw [l4, e]; omega
      have n3 : (2 + t).toNat = 2 ∨ (2 + t).toNat = 3 := by omega
      have fl : (List.replicate (2 + t).toNat ((cut qs none (some 4)).map D.int)).flatten = ((List.replicate (2 + t).toNat (cut qs none (some 4))).flatten).map D.int := by rw [List.map_flatten, List.map_replicate]
      have ln : ((List.replicate (2 + t).toNat (cut qs none (some 4))).flatten).length = (2 + t).toNat * (cut qs none (some 4)).length := by simp
      have sz : (2 + t).toNat * (cut qs none (some 4)).length ≤ 12 ∧ 1 ≤ (2 + t).toNat * (cut qs none (some 4)).length := by
        rcases n3 with e | e <;> rw [e] <;> omega
      refine ⟨by omega, by omega, ?_, (List.replicate (2 + t).toNat (cut qs none (some 4))).flatten, ⟨by omega, by omega, fun k hk => ?_⟩, by rw [fl]⟩
      · rw [List.length_map, Nat.mul_comm]; omega
      · obtain ⟨l, h1, h2⟩ := List.mem_flatten.mp hk
        rw [List.eq_of_mem_replicate h1] at h2
        exact hq.le k (mem_cutN h2)
    refine ⟨[5, 6], .inr rfl, fun _ => ⟨fun _ => ⟨_, ks, rfl, rfl, by have := hK.few; omega, fun ms hms => ?_⟩, fun _ => ⟨2, rfl, by decide, by decide, fun t t0 t1 => ?_⟩⟩, fun _ => ⟨ks, hK, rfl⟩⟩
    · simp_arith
      refine ⟨2, rfl, by decide, by decide, fun t t0 t1 => ?_⟩
      simp_arith
      exact tail ms t (hK.perm hms) t0 t1
    · simp_arith
      exact tail ks t hK t0 t1
  clear hK ks
  rintro Γ ⟨ks, hK, rfl⟩
  refine ⟨fun Γ => ∃ (ks : List Int), LL ks ∧ Γ = [.dat (.ad u), .dat (.int m), .dat (.int w), s3, s4, .un, .dat (.lst (ks.map D.int)), s7, s8, s9, s10, .un], ?_, ?_⟩
  · refine ⟨fun q Γ => ∃ (ks : List Int), q = 200 - ks.length ∧ LL ks ∧ Γ = [.dat (.ad u), .dat (.int m), .dat (.int w), s3, s4, .un, .dat (.lst (ks.map D.int)), s7, s8, s9, s10, .un], _, ⟨ks, rfl, hK, rfl⟩, ?_⟩
    clear hK ks
    rintro q Γ ⟨ks, rfl, hK, rfl⟩
    have hn := hK.ne
    simp_arith
    have two : ∀ ms : List Int, ms.length = ks.length → (∀ k ∈ ms, 0 ≤ k ∧ k ≤ 25) → (ks.length : Int) * 2 ≤ m → LL (ks ++ ms) := fun ms h1 h2 h3 => ⟨by rw [List.length_append]; omega, by rw [List.length_append]; omega, fun k hk => by
      rcases List.mem_append.mp hk with h | h
      · exact hK.le k h
      · exact h2 k h⟩
    refine ⟨cmul_rN (by decide) (by decide), fun c1 => ⟨fun _ => ⟨fun _ => ⟨_, ks, rfl, rfl, by have := hK.few; omega, fun ms hms => ?_⟩, fun _ => ?_⟩, fun _ => ⟨ks, hK, rfl⟩⟩, fun _ => ⟨ks, hK, rfl⟩⟩
    · have c1 := of_decide_eq_true c1
      have l := hms.length_eq
      simp_arith
      refine ⟨by omega, _, ?_, ks ++ ms, rfl, two ms l (fun k hk => hK.le k (hms.mem_iff.mp hk)) c1, by rw [List.map_append]⟩
      rw [List.length_append]
      omega
    · have c1 := of_decide_eq_true c1
      refine ⟨by omega, _, ?_, ks ++ ks, rfl, two ks rfl hK.le c1, by rw [List.map_append]⟩
      rw [List.length_append]
      omega
  clear hK ks
  rintro Γ ⟨ks, hK, rfl⟩
  simp_arith
  have l := cut_num (ns := ks) (k := m) (by omega)
  have hn := hK.ne
  rw [cut_map]
  exact h _ ⟨fun i hi => hK.le i (mem_cutN hi), by omega, by omega⟩
end V
/-! V32: what is a table, what is a book: checks of any thing. -/
namespace V
open PySem PySem.Spec PyProof.Rows L2 U
theorem isTup_ty {d : D} (h : d.isAd = false) : isTyN "tuple" (tyOf d) = (match d with | .tup _ => true | _ => false) := by
  cases d <;> first | rfl | (cases h)
theorem em_ad {d : D} (h : d.em = true) : d.isAd = false := by
  cases d <;> first | rfl | (simp [D.em] at h)
theorem emA_mem : ∀ {xs : List D}, D.emA xs = true → ∀ x ∈ xs, x.em = true
  | x :: xs, h, y, hy => by
    simp only [D.emA, Bool.and_eq_true] at h
    rcases List.mem_cons.mp hy with rfl | hy
    · exact h.1
    · exact emA_mem h.2 y hy
theorem emT {xs : List D} (h : (D.tup xs).em = true) : ∀ x ∈ xs, x.em = true := emA_mem (by simpa only [D.em] using h)
def tupIn (d : D) (a b : Int) : Bool := match d with
  | .tup xs => decide (a ≤ (xs.length : Nat)) && decide (((xs.length : Nat) : Int) ≤ b)
  | _ => false
def sp_is_tuple (_ : Addr) : Fs := fun ds P _ => ∃ (d : D) (a b : Int), ds = [d, .int a, .int b] ∧ d.isAd = false ∧ P (.bl (tupIn d a b))
abbrev w_is_tuple (E : Addr → Option (Str × D) → Ga → Prop) : WS :=
  wSeq (wRet (wAnd (wOp1 (oIsi "tuple") (wVarQ 0)) (wChain oLe oLe (wVar 1) (wOp1 oLen (wVarQ 0)) (wVar 2)))) wNil
theorem vc_is_tuple {u : Addr} {ds : List D} {P : D → Prop} {X : Addr → Option (Str × D) → Prop} (h : sp_is_tuple u ds P X) : w_is_tuple (fun C fo _ => X C fo) (Ga.start 3 ds) { nx := fun _ => P .non, rt := P } := by
  obtain ⟨d, a, b, rfl, hd, h⟩ := h
  simp_arith [oIsi]
  rw [isTup_ty hd]
  refine ⟨hd, ?_⟩
  cases d with
  | tup xs =>
    have h : P (.bl (decide (a ≤ (xs.length : Nat)) && decide (((xs.length : Nat) : Int) ≤ b))) := h
    simp_arith
    refine ⟨fun e => ?_, fun e => ?_⟩
    · rw [e] at h; exact h
    · rw [e] at h; exact h
  | _ =>
    simp_arith
    exact h
theorem enumAt {xs : List D} {i : Nat} {x : D} (h : (enumD xs)[i]? = some x) : ∃ y, xs[i]? = some y ∧ x = .tup [.int (i : Nat), y] := by
  have hi := (List.getElem?_eq_some_iff.mp h).1
  rw [enumD_length] at hi
  have e := enumD_at (List.getElem?_eq_getElem hi)
  rw [e] at h
  exact ⟨_, List.getElem?_eq_getElem hi, (Option.some.inj h).symm⟩
theorem fi_none {p : D → Bool} {xs : List D} (h : ∀ x ∈ xs, p x = false) : xs.findIdx? p = none := by
  rw [List.findIdx?_eq_none_iff]
  exact h
theorem fi_some {p : D → Bool} {y : D} : ∀ {xs : List D} {i : Nat}, xs[i]? = some y → p y = true → (∀ x ∈ xs.take i, p x = false) → xs.findIdx? p = some i
  | x :: xs, 0, h, hp, _ => by
    cases h
    rw [List.findIdx?_cons, if_pos hp]
  | x :: xs, i + 1, h, hp, ha => by
    rw [List.findIdx?_cons, if_neg (by rw [ha x (by rw [List.take_succ_cons]; exact List.mem_cons_self)]; decide), fi_some (xs := xs) (i := i) (by simpa using h) hp fun z hz => ha z (by rw [List.take_succ_cons]; exact List.mem_cons_of_mem _ hz)]
    rfl
theorem take_all {p : D → Prop} {xs : List D} {i : Nat} {y : D} (hi : xs[i]? = some y) (h : ∀ x ∈ xs.take i, p x) (hy : p y) : ∀ x ∈ xs.take (i + 1), p x := fun x hx => by
  rw [List.take_succ, hi] at hx
  rcases List.mem_append.mp hx with hx | hx
  · exact h x hx
  · rw [Option.toList_some, List.mem_singleton] at hx; subst hx; exact hy
def notLet (x : D) : Bool := !isLet x
def cellE (i : Nat) : D := .tup [.str "cell", .int i]
def tErr : D → D
  | .tup xs => if 1 ≤ xs.length ∧ xs.length ≤ 64 then (match xs.findIdx? notLet with
    | some i => cellE i
    | none => .non) else .str "form"
  | _ => .str "form"
theorem tErr_form {d : D} (h : tupIn d 1 64 = false) : tErr d = .str "form" := by
  cases d with
  | tup xs =>
    unfold tupIn at h
    rw [tErr.eq_1]
    rw [if_neg]
    rintro ⟨a, b⟩
    simp only [Bool.and_eq_false_iff, decide_eq_false_iff_not] at h
    omega
  | _ => rfl
theorem tupIn_true {d : D} {a b : Int} (h : tupIn d a b = true) : ∃ xs, d = .tup xs ∧ a ≤ (xs.length : Nat) ∧ ((xs.length : Nat) : Int) ≤ b := by
  cases d with
  | tup xs =>
    unfold tupIn at h
    simp only [Bool.and_eq_true, decide_eq_true_eq] at h
    exact ⟨xs, rfl, h.1, h.2⟩
  | _ => cases h
theorem tErr_cell {xs : List D} {i : Nat} {y : D} (h1 : 1 ≤ xs.length) (h2 : xs.length ≤ 64) (hi : xs[i]? = some y) (hy : isLet y = false) (ha : ∀ x ∈ xs.take i, isLet x = true) : tErr (.tup xs) = cellE i := by
  rw [tErr.eq_1]
  rw [if_pos ⟨h1, h2⟩, fi_some hi (by unfold notLet; rw [hy]; rfl) fun x hx => by unfold notLet; rw [ha x hx]; rfl]
theorem tErr_non {xs : List D} (h1 : 1 ≤ xs.length) (h2 : xs.length ≤ 64) (ha : ∀ x ∈ xs, isLet x = true) : tErr (.tup xs) = .non := by
  rw [tErr.eq_1]
  rw [if_pos ⟨h1, h2⟩, fi_none fun x hx => by unfold notLet; rw [ha x hx]; rfl]
def sp_table_error (_ : Addr) : Fs := fun ds P _ => ∃ d : D, ds = [d] ∧ d.em = true ∧ P (tErr d)
abbrev w_table_error (S_is_tuple : Fs) (S_is_letter : Fs) (E : Addr → Option (Str × D) → Ga → Prop) : WS :=
  wSeq (wIf (wtNot (wtVal (wCall 3 S_is_tuple E (waCons (wVar 0) (waCons (wC (.int 1)) (waCons (wC (.int 64)) waNil)))))) (wSeq (wRet (wC (.str "form"))) wNil) wNil) (wMid (wFor (wiEnumT (wVar 0)) (wgTwo 1 2) (wSeq (wIf (wtNot (wtVal (wCall 1 S_is_letter E (waCons (wVar 2) waNil)))) (wSeq (wRet (wTup (waCons (wC (.str "cell")) (waCons (wVar 1) waNil)))) wNil) wNil) wNil)) (wSeq (wRet (wC .non)) wNil))
theorem vc_table_error {u : Addr} {ds : List D} {P : D → Prop} {X : Addr → Option (Str × D) → Prop} (h : sp_table_error u ds P X) : w_table_error (sp_is_tuple u) (sp_is_letter u) (fun C fo _ => X C fo) (Ga.start 3 ds) { nx := fun _ => P .non, rt := P } := by
  obtain ⟨d, rfl, hd, h⟩ := h
  simp_arith
  refine ⟨d, 1, 64, rfl, em_ad hd, ?_⟩
  simp_arith
  refine ⟨fun c => ?_, fun c => ?_⟩
  · rw [tErr_form (by simpa using c)] at h
    exact h
  obtain ⟨xs, rfl, h1, h2⟩ := tupIn_true (by simpa using c)
  have h1 : 1 ≤ xs.length := by omega
  have h2 : xs.length ≤ 64 := by omega
  refine ⟨fun Γ => (∀ x ∈ xs, isLet x = true) ∧ ∃ s1 s2, Γ = [.dat (.tup xs), s1, s2], ?_, ?_⟩
  · simp_arith [wFor, oTup]
    refine ⟨fun i Γ => (∀ x ∈ xs.take i, isLet x = true) ∧ ∃ s1 s2, Γ = [.dat (.tup xs), s1, s2], ⟨by simp, _, _, rfl⟩, ?_, ?_⟩
    · rintro i x Γ hx ⟨ha, s1, s2, rfl⟩
      obtain ⟨y, hy, rfl⟩ := enumAt hx
      simp_arith
      refine ⟨y, rfl, em_ad (emT hd y (List.mem_of_getElem? hy)), ?_⟩
      simp_arith
      refine ⟨fun c => ?_, fun c => ⟨take_all hy ha (by simpa using c), _, _, rfl⟩⟩
      rw [tErr_cell h1 h2 hy (by simpa using c) ha] at h
      exact h
    · rintro Γ ⟨ha, s1, s2, rfl⟩
      rw [enumD_length, List.take_length] at ha
      exact ⟨ha, _, _, rfl⟩
  · rintro Γ ⟨ha, s1, s2, rfl⟩
    rw [tErr_non h1 h2 ha] at h
    simp_arith
    exact h
/-! ### books -/
def lenD : D → Nat
  | .tup xs => xs.length
  | _ => 0
def badT (x : D) : Bool := !(tErr x).isNon
def tabE (i : Nat) (e : D) : D := .tup [.str "table", .int i, e]
def unlike (xs : List D) (x : D) : Bool := decide (lenD x ≠ lenD (xs.getD 0 .non))
def bErr : D → D
  | .tup xs => if 1 ≤ xs.length ∧ xs.length ≤ 8 then (match xs.findIdx? badT with
    | some i => tabE i (tErr (xs.getD i .non))
    | none => if xs.any (unlike xs) then .str "cells" else .non) else .str "form"
  | _ => .str "form"
theorem bErr_form {d : D} (h : tupIn d 1 8 = false) : bErr d = .str "form" := by
  cases d with
  | tup xs =>
    unfold tupIn at h
    rw [bErr.eq_1]
    rw [if_neg]
    rintro ⟨a, b⟩
    simp only [Bool.and_eq_false_iff, decide_eq_false_iff_not] at h
    omega
  | _ => rfl
theorem bErr_tab {xs : List D} {i : Nat} {y : D} (h1 : 1 ≤ xs.length) (h2 : xs.length ≤ 8) (hi : xs[i]? = some y) (hy : tErr y ≠ .non) (ha : ∀ x ∈ xs.take i, tErr x = .non) : bErr (.tup xs) = tabE i (tErr y) := by
  have hn : (tErr y).isNon = false := by
    cases h : tErr y with
    | non => exact absurd h hy
    | _ => rfl
  rw [bErr.eq_1]
  rw [if_pos ⟨h1, h2⟩, fi_some hi (by unfold badT; rw [hn]; rfl) fun x hx => by unfold badT; rw [ha x hx]; rfl]
  show tabE i (tErr (xs.getD i .non)) = _
  rw [List.getD_eq_getElem?_getD, hi]
  rfl
theorem bErr_cells {xs : List D} (h1 : 1 ≤ xs.length) (h2 : xs.length ≤ 8) (ha : ∀ x ∈ xs, tErr x = .non) : bErr (.tup xs) = if xs.any (unlike xs) then .str "cells" else .non := by
  rw [bErr.eq_1]
  rw [if_pos ⟨h1, h2⟩, fi_none fun x hx => by unfold badT; rw [ha x hx]; rfl]
theorem tErr_tup {x : D} (h : tErr x = .non) : ∃ ys, x = .tup ys ∧ 1 ≤ ys.length ∧ ys.length ≤ 64 ∧ ∀ y ∈ ys, isLet y = true := by
  cases x with
  | tup ys =>
    rw [tErr.eq_1] at h
    split at h
    · rename_i c
      refine ⟨ys, rfl, c.1, c.2, fun y hy => ?_⟩
      split at h
      · cases h
      · rename_i e
        rw [List.findIdx?_eq_none_iff] at e
        have := e y hy
        simpa [notLet] using this
    · cases h
  | _ => cases h
theorem at_zero {xs : List D} (h : 1 ≤ xs.length) : xs[0]? = some (xs.getD 0 .non) := by
  cases xs with
  | nil => simp at h
  | cons a b => rfl
theorem mem_zero {xs : List D} (h : 1 ≤ xs.length) : xs.getD 0 .non ∈ xs := List.mem_of_getElem? (at_zero h)
def sp_book_error (_ : Addr) : Fs := fun ds P _ => ∃ d : D, ds = [d] ∧ d.em = true ∧ P (bErr d)
abbrev w_book_error (S_is_tuple : Fs) (S_table_error : Fs) (E : Addr → Option (Str × D) → Ga → Prop) : WS :=
  wSeq (wIf (wtNot (wtVal (wCall 3 S_is_tuple E (waCons (wVar 0) (waCons (wC (.int 1)) (waCons (wC (.int 8)) waNil)))))) (wSeq (wRet (wC (.str "form"))) wNil) wNil) (wMid (wFor (wiEnumT (wVar 0)) (wgTwo 1 2) (wSeq (wSet 3 (wCall 1 S_table_error E (waCons (wVar 2) waNil))) (wSeq (wIf (wtCmp oIsNot (wVar 3) (wC .non)) (wSeq (wRet (wTup (waCons (wC (.str "table")) (waCons (wVar 1) (waCons (wVar 3) waNil))))) wNil) wNil) wNil))) (wSeq (wIf (wtNot (wtVal (wOp1 oAll (wLc [4] (wiTup (wVar 0)) (wgName 4) (wCmp oEq (wOp1 oLen (wVarQ 4)) (wOp1 oLen (wOp oIx (wVar 0) (wC (.int 0))))))))) (wSeq (wRet (wC (.str "cells"))) wNil) wNil) (wSeq (wRet (wC .non)) wNil)))
theorem vc_book_error {u : Addr} {ds : List D} {P : D → Prop} {X : Addr → Option (Str × D) → Prop} (h : sp_book_error u ds P X) : w_book_error (sp_is_tuple u) (sp_table_error u) (fun C fo _ => X C fo) (Ga.start 5 ds) { nx := fun _ => P .non, rt := P } := by
  obtain ⟨d, rfl, hd, h⟩ := h
  simp_arith
  refine ⟨d, 1, 8, rfl, em_ad hd, ?_⟩
  simp_arith
  refine ⟨fun c => ?_, fun c => ?_⟩
  · rw [bErr_form (by simpa using c)] at h
    exact h
  obtain ⟨xs, rfl, h1, h2⟩ := tupIn_true (by simpa using c)
  have h1 : 1 ≤ xs.length := by omega
  have h2 : xs.length ≤ 8 := by omega
  refine ⟨fun Γ => (∀ x ∈ xs, tErr x = .non) ∧ ∃ s1 s2 s3, Γ = [.dat (.tup xs), s1, s2, s3, .un], ?_, ?_⟩
  · simp_arith [wFor, oTup]
    refine ⟨fun i Γ => (∀ x ∈ xs.take i, tErr x = .non) ∧ ∃ s1 s2 s3, Γ = [.dat (.tup xs), s1, s2, s3, .un], ⟨by simp, _, _, _, rfl⟩, ?_, ?_⟩
    · rintro i x Γ hx ⟨ha, s1, s2, s3, rfl⟩
      obtain ⟨y, hy, rfl⟩ := enumAt hx
      simp_arith
      refine ⟨y, rfl, emT hd y (List.mem_of_getElem? hy), ?_⟩
      simp_arith
      by_cases hz : tErr y = .non
      · rw [hz]
        simp_arith [D.isNon]
        exact ⟨take_all hy ha hz, _, _, _, rfl⟩
      · rw [bErr_tab h1 h2 hy hz ha] at h
        have hn : (tErr y).isNon = false := by
          cases h : tErr y with
          | non => exact absurd h hz
          | _ => rfl
        rw [hn]
        simp_arith
        exact h
    · rintro Γ ⟨ha, s1, s2, s3, rfl⟩
      rw [enumD_length, List.take_length] at ha
      exact ⟨ha, _, _, _, rfl⟩
  · rintro Γ ⟨ha, s1, s2, s3, rfl⟩
    rw [bErr_cells h1 h2 ha] at h
    simp_arith
    refine ⟨by omega, fun x y => y = .bl (!unlike xs x), fun x hx => ?_, fun ys hy => ?_⟩
    · obtain ⟨zs, rfl, z1, z2, _⟩ := tErr_tup (ha x hx)
      simp_arith
      refine oIx_t (j := 0) (at_zero h1) ?_
      obtain ⟨ws, e, _⟩ := tErr_tup (ha _ (mem_zero h1))
      unfold unlike
      rw [e]
      simp_arith
      refine congrArg D.bl ?_
      show decide (((zs.length : Nat) : Int) = ((ws.length : Nat) : Int)) = !decide (¬ zs.length = ws.length)
      by_cases q : zs.length = ws.length
      · rw [decide_eq_true (by rw [q]), decide_eq_false (by simpa using q)]; rfl
      · rw [decide_eq_false (by omega), decide_eq_true q]; rfl
    · refine ⟨xs.map fun x => !unlike xs x, by rw [All2.eq hy, List.map_map]; rfl, ?_⟩
      rw [List.all_map]
      have e : xs.all (id ∘ fun x => !unlike xs x) = !xs.any (unlike xs) := by
        rw [List.all_eq_not_any_not]
        congr 2
        funext x
        simp
      rw [e]
      simp_arith
      cases q : xs.any (unlike xs) with
      | true => rw [q] at h; simp_arith; exact h
      | false => rw [q] at h; simp_arith; exact h
end V
/-! V81: what is a table or a text. -/
namespace V
open PySem PySem.Spec PyProof.Rows L2 U
def gErr (least most : Nat) (bad : D → Bool) (word : Str) : D → D
  | .tup xs => if least ≤ xs.length ∧ xs.length ≤ most then (match xs.findIdx? bad with
    | some i => .tup [.str word, .int i]
    | none => .non) else .str "form"
  | _ => .str "form"
theorem tErr_g (d : D) : tErr d = gErr 1 64 notLet "cell" d := by cases d <;> rfl
theorem gErr_form {least most : Nat} {bad : D → Bool} {word : Str} {d : D} (h : tupIn d least most = false) : gErr least most bad word d = .str "form" := by
  cases d with
  | tup xs =>
    unfold tupIn at h
    rw [gErr.eq_1]
    rw [if_neg]
    rintro ⟨a, b⟩
    simp only [Bool.and_eq_false_iff, decide_eq_false_iff_not] at h
    omega
  | _ => rfl
theorem gErr_at {least most : Nat} {bad : D → Bool} {word : Str} {xs : List D} {i : Nat} {y : D} (h1 : least ≤ xs.length) (h2 : xs.length ≤ most) (hi : xs[i]? = some y) (hy : bad y = true) (ha : ∀ x ∈ xs.take i, bad x = false) : gErr least most bad word (.tup xs) = .tup [.str word, .int i] := by
  rw [gErr.eq_1]
  rw [if_pos ⟨h1, h2⟩, fi_some hi hy ha]
theorem gErr_non {least most : Nat} {bad : D → Bool} {word : Str} {xs : List D} (h1 : least ≤ xs.length) (h2 : xs.length ≤ most) (ha : ∀ x ∈ xs, bad x = false) : gErr least most bad word (.tup xs) = .non := by
  rw [gErr.eq_1]
  rw [if_pos ⟨h1, h2⟩, fi_none ha]
def notOf (ns : List Int) (x : D) : Bool := !isLetOf ns x
def xErr (ns : List Int) (d : D) : D := gErr 0 2000 (notOf ns) "letter" d
def sp_text_error (_ : Addr) : Fs := fun ds P _ => ∃ (ns : List Int) (d : D), ds = [.tup (ns.map D.int), d] ∧ d.em = true ∧ P (xErr ns d)
abbrev w_text_error (S_is_tuple : Fs) (S_is_letter_of : Fs) (E : Addr → Option (Str × D) → Ga → Prop) : WS :=
  wSeq (wIf (wtNot (wtVal (wCall 3 S_is_tuple E (waCons (wVar 1) (waCons (wC (.int 0)) (waCons (wC (.int 2000)) waNil)))))) (wSeq (wRet (wC (.str "form"))) wNil) wNil) (wMid (wFor (wiEnumT (wVar 1)) (wgTwo 2 3) (wSeq (wIf (wtNot (wtVal (wCall 2 S_is_letter_of E (waCons (wVar 0) (waCons (wVar 3) waNil))))) (wSeq (wRet (wTup (waCons (wC (.str "letter")) (waCons (wVar 2) waNil)))) wNil) wNil) wNil)) (wSeq (wRet (wC .non)) wNil))
theorem vc_text_error {u : Addr} {ds : List D} {P : D → Prop} {X : Addr → Option (Str × D) → Prop} (h : sp_text_error u ds P X) : w_text_error (sp_is_tuple u) (sp_is_letter_of u) (fun C fo _ => X C fo) (Ga.start 4 ds) { nx := fun _ => P .non, rt := P } := by
  obtain ⟨ns, d, rfl, hd, h⟩ := h
  unfold xErr at h
  simp_arith
  refine ⟨d, 0, 2000, rfl, em_ad hd, ?_⟩
  simp_arith
  refine ⟨fun c => ?_, fun c => ?_⟩
  · rw [gErr_form (by simpa using c)] at h
    exact h
  obtain ⟨xs, rfl, h1, h2⟩ := tupIn_true (by simpa using c)
  have h2 : xs.length ≤ 2000 := by omega
  refine ⟨fun Γ => (∀ x ∈ xs, notOf ns x = false) ∧ ∃ s2 s3, Γ = [.dat (.tup (ns.map D.int)), .dat (.tup xs), s2, s3], ?_, ?_⟩
  · simp_arith [wFor, oTup]
    refine ⟨fun i Γ => (∀ x ∈ xs.take i, notOf ns x = false) ∧ ∃ s2 s3, Γ = [.dat (.tup (ns.map D.int)), .dat (.tup xs), s2, s3], ⟨by simp, _, _, rfl⟩, ?_, ?_⟩
    · rintro i x Γ hx ⟨ha, s2, s3, rfl⟩
      obtain ⟨y, hy, rfl⟩ := enumAt hx
      simp_arith
      refine ⟨ns, y, rfl, em_ad (emT hd y (List.mem_of_getElem? hy)), ?_⟩
      simp_arith
      refine ⟨fun c => ?_, fun c => ⟨take_all hy ha (by unfold notOf; exact c), _, _, rfl⟩⟩
      rw [gErr_at (Nat.zero_le _) h2 hy (by unfold notOf; exact c) ha] at h
      exact h
    · rintro Γ ⟨ha, s2, s3, rfl⟩
      rw [enumD_length, List.take_length] at ha
      exact ⟨ha, _, _, rfl⟩
  · rintro Γ ⟨ha, s2, s3, rfl⟩
    rw [gErr_non (Nat.zero_le _) h2 ha] at h
    simp_arith
    exact h
theorem formT1 {d : D} (h : d.isAd = false) (n : isTyN "tuple" (tyOf d) = false) (a b : Int) : tupIn d a b = false := by
  rw [isTup_ty h] at n
  cases d with
  | tup xs => cases n
  | _ => rfl
theorem tupT1 {d : D} (h : d.isAd = false) (n : isTyN "tuple" (tyOf d) = true) : ∃ xs, d = .tup xs := by
  rw [isTup_ty h] at n
  cases d with
  | tup xs => exact ⟨_, rfl⟩
  | _ => cases n
theorem ty1 {i : Int} : isTyN "int" (tyOf (.int i)) = true := rfl
theorem ty2 {i : Int} : isTyN "bool" (tyOf (.int i)) = false := rfl
theorem ty3 {i : Bool} : isTyN "int" (tyOf (.bl i)) = true := rfl
theorem ty4 {i : Bool} : isTyN "bool" (tyOf (.bl i)) = true := rfl
theorem ty5 : isTyN "int" (tyOf .non) = false := rfl
theorem ty6 {x : Str} : isTyN "int" (tyOf (.str x)) = false := rfl
theorem ty7 {x : List D} : isTyN "int" (tyOf (.lst x)) = false := rfl
theorem ty8 {x : List D} : isTyN "int" (tyOf (.tup x)) = false := rfl
theorem ty9 {x : List (L2.Key × D)} : isTyN "int" (tyOf (.dic x)) = false := rfl
theorem lt26 (i : Int) : (decide (i < 26)) = decide (i ≤ 25) := by
  by_cases q : i < 26
  · rw [decide_eq_true q, decide_eq_true (by omega)]
  · rw [decide_eq_false q, decide_eq_false (by omega)]
def sp__law_error01 (_ : Addr) : Fs := fun ds P _ => ∃ (d L : D) (most least : Nat) (bad : D → Bool) (word : Str), ds = [d, .int most, L] ∧ d.em = true ∧ ((L = .non ∧ least = 1 ∧ bad = notLet ∧ word = "cell") ∨ (∃ ns : List Int, L = .tup (ns.map D.int) ∧ least = 0 ∧ bad = notOf ns ∧ word = "letter")) ∧ P (gErr least most bad word d)
abbrev w_error01 (E : Addr → Option (Str × D) → Ga → Prop) : WS :=
  wSeq (wIf (wtOr (wtNot (wtVal (wOp1 (oIsi "tuple") (wVarQ 0)))) (wtOr (wtCmp oGt (wOp1 oLen (wVarQ 0)) (wVarQ 1)) (wtAnd (wtCmp oIs (wVar 2) (wC .non)) (wtCmp oEq (wOp1 oLen (wVarQ 0)) (wC (.int 0)))))) (wSeq (wRet (wC (.str "form"))) wNil) wNil) (wMid (wSet 3 (wIfE (wtCmp oIs (wVar 2) (wC .non)) (wC (.str "cell")) (wC (.str "letter")))) (wMid (wFor (wiEnumT (wVar 0)) (wgTwo 4 5) (wSeq (wSet 6 (wAnd (wOp1 (oIsi "int") (wVarQ 5)) (wAnd (wNot (wOp1 (oIsi "bool") (wVarQ 5))) (wChain oLe oLt (wC (.int 0)) (wVar 5) (wC (.int 26)))))) (wSeq (wIf (wtOr (wtNot (wtVal (wVar 6))) (wtAnd (wtCmp oIsNot (wVar 2) (wC .non)) (wtCmp oNotIn (wVar 5) (wVarQ 2)))) (wSeq (wRet (wTup (waCons (wVar 3) (waCons (wVar 4) waNil)))) wNil) wNil) wNil))) (wSeq (wRet (wC .non)) wNil)))
theorem vc__law_error01 {u : Addr} {ds : List D} {P : D → Prop} {X : Addr → Option (Str × D) → Prop} (h : sp__law_error01 u ds P X) : w_error01 (fun C fo _ => X C fo) (Ga.start 7 ds) { nx := fun _ => P .non, rt := P } := by
  obtain ⟨d, L, most, least, bad, word, rfl, hd, hL, h⟩ := h
  simp_arith [oIsi]
  refine ⟨em_ad hd, fun c => ?_, fun c => ?_⟩
  rotate_left
  · rw [gErr_form (formT1 (em_ad hd) (by simpa using c) _ _)] at h
    exact h
  obtain ⟨xs, rfl⟩ := tupT1 (em_ad hd) (by simpa using c)
  have out : (least ≤ xs.length ∧ xs.length ≤ most) ∨ P (.str "form") := by
    by_cases q : least ≤ xs.length ∧ xs.length ≤ most
    · exact .inl q
    · refine .inr ?_
      have e : gErr least most bad word (.tup xs) = .str "form" := by rw [gErr.eq_1, if_neg q]
      rw [e] at h
      exact h
  rcases hL with ⟨rfl, rfl, rfl, rfl⟩ | ⟨ns, rfl, rfl, rfl, rfl⟩
  · simp_arith [D.isNon]
    refine ⟨fun c1 => ⟨fun c2 => ?_, fun c2 => ?_⟩, fun c1 => ?_⟩
    · have c2 := of_decide_eq_true c2
      exact out.elim (fun o => by omega) id
    rotate_left
    · have c1 := of_decide_eq_true c1
      exact out.elim (fun o => by omega) id
    have c1 := of_decide_eq_false c1
    have c2 := of_decide_eq_false c2
    have g1 : 1 ≤ xs.length := by omega
    have g2 : xs.length ≤ most := by omega
    clear out c1 c2
    refine ⟨fun Γ => Γ = [.dat (.tup xs), .dat (.int most), .dat .non, .dat (.str "cell"), .un, .un, .un], by simp_arith [D.isNon], ?_⟩
    rintro Γ rfl
    refine ⟨fun Γ => (∀ x ∈ xs, notLet x = false) ∧ ∃ s4 s5 s6, Γ = [.dat (.tup xs), .dat (.int most), .dat .non, .dat (.str "cell"), s4, s5, s6], ?_, ?_⟩
    · simp_arith [wFor, oTup]
      refine ⟨fun i Γ => (∀ x ∈ xs.take i, notLet x = false) ∧ ∃ s4 s5 s6, Γ = [.dat (.tup xs), .dat (.int most), .dat .non, .dat (.str "cell"), s4, s5, s6], ⟨by simp, _, _, _, rfl⟩, ?_, ?_⟩
      · rintro i x Γ hx ⟨ha, s4, s5, s6, rfl⟩
        obtain ⟨y, hy, rfl⟩ := enumAt hx
        have yad := em_ad (emT hd y (List.mem_of_getElem? hy))
        have bad : notLet y = true → P (.tup [.str "cell", .int i]) := fun e => by
          rw [gErr_at g1 g2 hy e ha] at h
          exact h
        have good : notLet y = false → ∀ x ∈ xs.take (i + 1), notLet x = false := take_all hy ha
        clear hx hy h
        cases y with
        | int v =>
          simp_arith [oIsi, D.isNon, D.isAd, ty1, ty2]
          rw [lt26]
          have e : notLet (.int v) = !(decide (0 ≤ v) && decide (v ≤ 25)) := rfl
          rw [e] at bad good
          refine ⟨fun q => bad (by rw [q]; rfl), fun q => ⟨fun q2 => ⟨good ?_, _, _, _, rfl⟩, fun q2 => bad ?_⟩⟩
          · rw [q]; simpa using q2
          · rw [q]; simpa using q2
        | bl v =>
          simp_arith [oIsi, D.isNon, D.isAd, ty3, ty4]
          exact bad rfl
        | ad v => cases yad
        | _ =>
          simp_arith [oIsi, D.isNon, D.isAd, ty5, ty6, ty7, ty8, ty9]
          exact bad rfl
      · rintro Γ ⟨ha, s4, s5, s6, rfl⟩
        rw [enumD_length, List.take_length] at ha
        exact ⟨ha, _, _, _, rfl⟩
    · rintro Γ ⟨ha, s4, s5, s6, rfl⟩
      rw [gErr_non g1 g2 ha] at h
      simp_arith
      exact h
  · simp_arith [D.isNon]
    refine ⟨fun c1 => ?_, fun c1 => ?_⟩
    rotate_left
    · have c1 := of_decide_eq_true c1
      exact out.elim (fun o => by omega) id
    have c1 := of_decide_eq_false c1
    have g2 : xs.length ≤ most := by omega
    clear out c1
    refine ⟨fun Γ => Γ = [.dat (.tup xs), .dat (.int most), .dat (.tup (ns.map D.int)), .dat (.str "letter"), .un, .un, .un], by simp_arith [D.isNon], ?_⟩
    rintro Γ rfl
    refine ⟨fun Γ => (∀ x ∈ xs, notOf ns x = false) ∧ ∃ s4 s5 s6, Γ = [.dat (.tup xs), .dat (.int most), .dat (.tup (ns.map D.int)), .dat (.str "letter"), s4, s5, s6], ?_, ?_⟩
    · simp_arith [wFor, oTup]
      refine ⟨fun i Γ => (∀ x ∈ xs.take i, notOf ns x = false) ∧ ∃ s4 s5 s6, Γ = [.dat (.tup xs), .dat (.int most), .dat (.tup (ns.map D.int)), .dat (.str "letter"), s4, s5, s6], ⟨by simp, _, _, _, rfl⟩, ?_, ?_⟩
      · rintro i x Γ hx ⟨ha, s4, s5, s6, rfl⟩
        obtain ⟨y, hy, rfl⟩ := enumAt hx
        have yad := em_ad (emT hd y (List.mem_of_getElem? hy))
        have bad : notOf ns y = true → P (.tup [.str "letter", .int i]) := fun e => by
          rw [gErr_at (Nat.zero_le _) g2 hy e ha] at h
          exact h
        have good : notOf ns y = false → ∀ x ∈ xs.take (i + 1), notOf ns x = false := take_all hy ha
        clear hx hy h
        cases y with
        | int v =>
          simp_arith [oIsi, D.isNon, D.isAd, ty1, ty2]
          rw [lt26]
          have e : notOf ns (.int v) = !((decide (0 ≤ v) && decide (v ≤ 25)) && decide (v ∈ ns)) := rfl
          rw [e] at bad good
          refine ⟨fun q => bad (by rw [q]; rfl), fun q => ⟨fun q2 => ?_, fun q2 => bad ?_⟩⟩
          · have q3 : decide (v ≤ 25) = true := by simpa using q2
            refine ⟨ns, .inr rfl, ?_⟩
            refine ⟨fun q4 => bad ?_, fun q4 => ⟨good ?_, _, _, _, rfl⟩⟩
            · rw [q, q3]; simpa using q4
            · rw [q, q3]; simpa using q4
          · have q3 : decide (v ≤ 25) = false := by simpa using q2
            rw [q, q3]
            rfl
        | bl v =>
          simp_arith [oIsi, D.isNon, D.isAd, ty3, ty4]
          exact bad rfl
        | ad v => cases yad
        | _ =>
          simp_arith [oIsi, D.isNon, D.isAd, ty5, ty6, ty7, ty8, ty9]
          exact bad rfl
      · rintro Γ ⟨ha, s4, s5, s6, rfl⟩
        rw [enumD_length, List.take_length] at ha
        exact ⟨ha, _, _, _, rfl⟩
    · rintro Γ ⟨ha, s4, s5, s6, rfl⟩
      rw [gErr_non (Nat.zero_le _) g2 ha] at h
      simp_arith
      exact h
def sp__law_spoilt01 (u : Addr) : Fs := fun ds P _ => ∃ (ns : List Int), ds = [.ad u, .tup (ns.map D.int)] ∧ (∀ i ∈ ns, 0 ≤ i ∧ i ≤ 25) ∧ ns.length ≤ 100 ∧ ∀ d : D, d.em = true → P d
abbrev w_spoilt01 (S__law_draw : Fs) (S__law_pick : Fs) (E : Addr → Option (Str × D) → Ga → Prop) : WS :=
  wSeq (wSet 2 (wCall 2 S__law_draw E (waCons (wVar 0) (waCons (wC (.int 7)) waNil)))) (wSeq (wIf (wtCmp oEq (wVar 2) (wC (.int 0))) (wSeq (wSet 3 (wJoin (wC (.str "")) (wLc [4] (wiTup (wVar 1)) (wgName 4) (wOp oIx (wC (.str "abcdefghijklmnopqrstuvwxyz")) (wVarQ 4))))) (wSeq (wRet (wCall 2 S__law_pick E (waCons (wVar 0) (waCons (wLst (waCons (wC .non) (waCons (wOp1 oListOf (wVarQ 1)) (waCons (wVar 3) (waCons (wC (.dic [])) (waCons (wC (.int 0)) (waCons (wC (.bl true)) (waCons (wTup (waCons (wVar 1) waNil)) (waCons (wTup waNil) waNil))))))))) waNil)))) wNil)) wNil) (wSeq (wSetN 5 (wnList (wVarQ 1))) (wMid (wFor (wiR1 (wIfE (wtCmpO oNeNil 5 (wLst waNil)) (wOp oAdd (wC (.int 1)) (wCall 2 S__law_draw E (waCons (wVar 0) (waCons (wC (.int 2)) waNil)))) (wC (.int 0)))) (wgName 6) (wSeq (wSet 7 (wLst (waCons (wOp1 oNeg (wC (.int 1))) (waCons (wC (.int 26)) (waCons (wOp oPow (wC (.int 10)) (wC (.int 30))) (waCons (wC (.bl true)) (waCons (wC (.bl false)) (waCons (wC .non) (waCons (wC (.str "a")) (waCons (wTup (waCons (wC (.int 0)) waNil)) (waCons (wLst (waCons (wC (.int 1)) waNil)) (waCons (wC (.dic [])) (waCons (wOp1 oNeg (wOp oPow (wC (.int 10)) (wC (.int 20)))) (waCons (wC (.int 25)) (waCons (wC (.int 0)) (waCons (wC (.str "")) (waCons (wTup waNil) (waCons (wC (.int 1)) waNil)))))))))))))))))) (wSeq (wPutL 5 (wCall 2 S__law_pick E (waCons (wVar 0) (waCons (wVar 7) waNil))) (wCall 2 S__law_draw E (waCons (wVar 0) (waCons (wOp1 oLen (wVarQ 5)) waNil)))) wNil))) (wFrz 5 (wSeq (wRet (wIfE (wtCmp oGt (wVar 2) (wC (.int 1))) (wOp1 oTupOf (wVarQ 5)) (wVar 5))) wNil)))))
theorem vc__law_spoilt01 {u : Addr} {ds : List D} {P : D → Prop} {X : Addr → Option (Str × D) → Prop} (h : sp__law_spoilt01 u ds P X) : w_spoilt01 (sp__law_draw u) (sp__law_pickW u) (fun C fo _ => X C fo) (Ga.start 8 ds) { nx := fun _ => P .non, rt := P } := by
  obtain ⟨ns, rfl, hle, hl, h⟩ := h
  simp_arith
  refine ⟨7, rfl, by decide, by decide, fun w w0 w1 => ?_⟩
  have ei : ∀ i : Int, (D.int i).em = true := fun i => rfl
  have er : ∀ ms : List Int, D.emA (ms.map D.int) = true := fun ms => by
    induction ms with
    | nil => rfl
    | cons m ms ih => rw [List.map_cons]; simp only [D.emA, D.em, ih, Bool.and_self]
  simp_arith
  refine ⟨fun _ => ?_, fun _ => ?_⟩
  · refine ⟨_, rfl, by omega, fun x y => ∃ z : Str, y = .str z ∧ z.length = 1, fun x hx => ?_, fun ys hy => ?_⟩
    · obtain ⟨i, hi, rfl⟩ := intsMem hx
      have hi2 := hle i hi
      obtain ⟨j, rfl⟩ := Int.eq_ofNat_of_zero_le hi2.1
      have hj : j < ("abcdefghijklmnopqrstuvwxyz" : Str).cps.toList.length := by
        have : ("abcdefghijklmnopqrstuvwxyz" : Str).cps.toList.length = 26 := by decide
        omega
      exact ⟨by decide, _, atI_nat (List.getElem?_eq_getElem hj), _, rfl, rfl⟩
    obtain ⟨zs, rfl, hzl, hz⟩ := hy.as (f := D.str) (Q := fun z => z.length = 1) fun x y h => h
    rw [List.length_map] at hzl
    refine ⟨zs, rfl, ?_, ?_⟩
    · have e : zs.map (fun z => z.length) = zs.map fun _ => 1 := List.map_congr_left hz
      rw [e]
      have e2 : (zs.map fun _ => 1).sum = zs.length := by
        clear hz hy e hzl
        induction zs with
        | nil => rfl
        | cons z zs ih => rw [List.map_cons, List.sum_cons, ih, List.length_cons]; omega
      rw [e2]
      show zs.length + zs.length * 0 ≤ _
      omega
    refine ⟨_, _, rfl, rfl, by simp, by simp, fun d hd => h d ?_⟩
    simp only [List.mem_cons, List.not_mem_nil, or_false] at hd
    rcases hd with rfl | rfl | rfl | rfl | rfl | rfl | rfl | rfl
    all_goals first | rfl | (simp only [D.em, D.emA, er, Bool.and_self]) | (show D.emA (ns.map D.int) = true; exact er ns)
  · refine ⟨fun Γ => ∃ (es : List D) (s6 s7 : Sl), D.emA es = true ∧ Γ = [.dat (.ad u), .dat (.tup (ns.map D.int)), .dat (.int w), .un, .un, .own es, s6, s7], ?_, ?_⟩
    · have emSet : ∀ (es : List D) (k : Nat) (d : D), D.emA es = true → d.em = true → D.emA (es.set k d) = true := fun es => by
        induction es with
        | nil => intro k d h _; exact h
        | cons e es ih =>
          intro k d h hd
          simp only [D.emA, Bool.and_eq_true] at h
          rcases k with _ | k
          · rw [List.set_cons_zero]; simp only [D.emA, hd, h.2, Bool.and_self]
          · rw [List.set_cons_succ]; simp only [D.emA, h.1, ih k d h.2 hd, Bool.and_self]
      simp_arith [wFor]
      refine ⟨_, rfl, rfl, fun q => ?_, fun q => ?_⟩
      · have hne : 0 < ns.length := by
          cases ns with
          | nil => cases q
          | cons a b => simp
        refine ⟨2, rfl, by decide, by decide, fun r r0 r1 => ?_⟩
        simp_arith
        refine ⟨by omega, by omega, fun _ Γ => ∃ (es : List D) (s6 s7 : Sl), s6.mine = false ∧ s7.mine = false ∧ es.length = ns.length ∧ D.emA es = true ∧ Γ = [.dat (.ad u), .dat (.tup (ns.map D.int)), .dat (.int w), .un, .un, .own es, s6, s7], ⟨_, _, _, rfl, rfl, by rw [List.length_map], er ns, rfl⟩, ?_, fun Γ ⟨es, s6, s7, _, _, _, he, e⟩ => ⟨es, s6, s7, he, e⟩⟩
        rintro i x Γ hx ⟨es, s6, s7, m6, m7, hel, he, rfl⟩
        simp_arith
        refine ⟨by decide, by decide, by decide, by decide, by decide, by decide, _, _, rfl, rfl, by simp, by simp, fun d hd => ?_⟩
        have hde : d.em = true := by
          simp only [List.mem_cons, List.not_mem_nil, or_false] at hd
          rcases hd with rfl | rfl | rfl | rfl | rfl | rfl | rfl | rfl | rfl | rfl | rfl | rfl | rfl | rfl | rfl | rfl
          all_goals rfl
        refine ⟨_, rfl, by omega, by omega, fun t t0 t1 => ?_⟩
        simp_arith
        obtain ⟨j, rfl⟩ := Int.eq_ofNat_of_zero_le t0
        refine ⟨j, ?_, _, _, _, rfl, rfl, by rw [List.length_set]; exact hel, emSet es j d he hde, rfl⟩
        unfold ixN
        rw [if_pos (by omega), if_pos (by omega)]
        rfl
      · refine ⟨by decide, by decide, fun _ Γ => ∃ (es : List D) (s6 s7 : Sl), D.emA es = true ∧ Γ = [.dat (.ad u), .dat (.tup (ns.map D.int)), .dat (.int w), .un, .un, .own es, s6, s7], ⟨_, _, _, er ns, rfl⟩, ?_, fun Γ h => h⟩
        rintro i x Γ hx _
        have := (List.getElem?_eq_some_iff.mp hx).1
        rw [rangeD_length] at this
        exact absurd this (Nat.not_lt_zero _)
    · rintro Γ ⟨es, s6, s7, he, rfl⟩
      simp_arith
      exact ⟨fun _ => h _ (by simpa only [D.em] using he), fun _ => h _ (by simpa only [D.em] using he)⟩
theorem sh_g {least most : Nat} {bad : D → Bool} {word : Str} (hw : word = "cell" ∨ word = "letter") (hm : most ≤ 100000) (d : D) : Shown (gErr least most bad word d) := by
  have f : Shown (.str "form") := .inl ⟨_, _, rk_str (k := 1) (by decide), by decide, by decide⟩
  cases d with
  | tup xs =>
    rw [gErr.eq_1]
    split
    · rename_i c
      split
      · rename_i i e
        have hi : i < xs.length := (List.findIdx?_eq_some_iff_getElem.mp e).1
        have r1 : Rk (.str word) 62 1 := by
          rcases hw with rfl | rfl
          · exact (rk_str (k := 1) (by decide)).le (by decide) (by decide)
          · exact (rk_str (k := 1) (by decide)).le (by decide) (by decide)
        exact .inl ⟨_, _, rk_tup (rka_cons r1 (rka_cons (rk_int (n := 20) (by
          show (i : Int).natAbs < 1048576
          omega) (by decide) (by decide)) rka_nil)), by decide, by decide⟩
      · exact .inl ⟨_, _, rk_non (k := 1), by decide, by decide⟩
    · exact f
  | _ => exact f
theorem emA_all : ∀ {xs : List D}, (∀ x ∈ xs, x.em = true) → D.emA xs = true
  | [], _ => rfl
  | x :: xs, h => by
    simp only [D.emA, h x List.mem_cons_self, emA_all fun y hy => h y (List.mem_cons_of_mem _ hy), Bool.and_self]
theorem em_cut {ns : List Int} {n : Nat} {lo hi : Option Int} : ∀ x ∈ cut (List.replicate n (ns.map D.int)).flatten lo hi, x.em = true := fun x hx => by
  obtain ⟨l, h1, h2⟩ := List.mem_flatten.mp (mem_cutN hx)
  rw [List.eq_of_mem_replicate h1] at h2
  obtain ⟨i, _, rfl⟩ := List.mem_map.mp h2
  rfl
theorem len_flat {ns : List Int} {n : Nat} : (List.replicate n (ns.map D.int)).flatten.length = n * ns.length := by simp
theorem cut_le' {α : Type} (xs : List α) (lo hi : Option Int) : (cut xs lo hi).length ≤ xs.length := U.cut_le xs lo hi
/- ['script', 'bag', 'table', 'text', 'rows', 'turn', 'value', 'told', 'texts'] -/
abbrev w_law_k01 (S__law_table : Fs) (S__law_text : Fs) (S__law_draw : Fs) (S__law_spoilt : Fs) (S__law_pick : Fs) (S_table_error : Fs) (S__law_error : Fs) (S_text_error : Fs) (E : Addr → Option (Str × D) → Ga → Prop) : WS :=
  wSeq (wSet 2 (wCall 2 S__law_table E (waCons (wVar 1) (waCons (wC (.int 12)) waNil)))) (wSeq (wSet 3 (wCall 3 S__law_text E (waCons (wVar 1) (waCons (wVar 2) (waCons (wCall 2 S__law_draw E (waCons (wVar 1) (waCons (wC (.int 10)) waNil))) waNil))))) (wSeq (wSet 4 (wLst (waCons (wVar 2) (waCons (wCall 2 S__law_spoilt E (waCons (wVar 1) (waCons (wVar 2) waNil))) (waCons (wCall 2 S__law_spoilt E (waCons (wVar 1) (waCons (wVar 2) waNil))) (waCons (wCall 2 S__law_spoilt E (waCons (wVar 1) (waCons (wVar 3) waNil))) (waCons (wVar 3) waNil))))))) (wMid (wIf (wtCmp oEq (wCall 2 S__law_draw E (waCons (wVar 1) (waCons (wC (.int 3)) waNil))) (wC (.int 0))) (wSeq (wSet 4 (wOp oAdd (wVar 4) (wLst (waCons (wSlice (wOp oMul (wVar 2) (wC (.int 64))) woNone (woSome (wOp oAdd (wC (.int 63)) (wCall 2 S__law_draw E (waCons (wVar 1) (waCons (wC (.int 3)) waNil)))))) (waCons (wOp oAdd (wTup (waCons (wCall 2 S__law_pick E (waCons (wVar 1) (waCons (wLst (waCons (wC (.int 26)) (waCons (wC .non) waNil))) waNil))) waNil)) (wSlice (wOp oMul (wVar 2) (wC (.int 64))) woNone (woSome (wC (.int 64))))) waNil))))) wNil) wNil) (wMid (wFor (wiEnumL (wVar 4)) (wgTwo 5 6) (wMid (wSet 7 (wIfE (wtCmp oEq (wVar 5) (wC (.int 2))) (wCall 1 S_table_error E (waCons (wVar 6) waNil)) (wCall 1 S_table_error E (waCons (wVar 6) waNil)))) (wSeq (wIf (wtCmp oNe (wOp1 oRepr (wVarQ 7)) (wOp1 oRepr (wCall 3 S__law_error E (waCons (wVar 6) (waCons (wC (.int 64)) (waCons (wC .non) waNil)))))) (wSeq (wRet (wC (.bl false))) wNil) wNil) wNil))) (wSeq (wSet 8 (wLst (waCons (wVar 3) (waCons (wCall 2 S__law_spoilt E (waCons (wVar 1) (waCons (wVar 3) waNil))) (waCons (wCall 2 S__law_spoilt E (waCons (wVar 1) (waCons (wVar 3) waNil))) (waCons (wCall 2 S__law_spoilt E (waCons (wVar 1) (waCons (wVar 2) waNil))) (waCons (wVar 2) waNil))))))) (wMid (wIf (wtCmp oEq (wCall 2 S__law_draw E (waCons (wVar 1) (waCons (wC (.int 6)) waNil))) (wC (.int 0))) (wSeq (wSet 8 (wOp oAdd (wVar 8) (wLst (waCons (wSlice (wOp oMul (wVar 2) (wC (.int 2001))) woNone (woSome (wOp oAdd (wC (.int 1999)) (wCall 2 S__law_draw E (waCons (wVar 1) (waCons (wC (.int 3)) waNil)))))) (waCons (wOp oAdd (wTup (waCons (wC .non) waNil)) (wSlice (wOp oMul (wVar 2) (wC (.int 2000))) woNone (woSome (wC (.int 2000))))) waNil))))) wNil) wNil) (wMid (wFor (wiEnumL (wVar 8)) (wgTwo 5 6) (wMid (wSet 7 (wIfE (wtCmp oEq (wVar 5) (wC (.int 2))) (wCallK2 S_text_error E (wVar 6) (wVar 2)) (wCall 2 S_text_error E (waCons (wVar 2) (waCons (wVar 6) waNil))))) (wSeq (wIf (wtCmp oNe (wOp1 oRepr (wVarQ 7)) (wOp1 oRepr (wCall 3 S__law_error E (waCons (wVar 6) (waCons (wC (.int 2000)) (waCons (wVar 2) waNil)))))) (wSeq (wRet (wC (.bl false))) wNil) wNil) wNil))) (wSeq (wRet (wC (.bl true))) wNil))))))))
theorem vc_law_k01 {a u : Addr} : w_law_k01 (sp__law_tableB u) (sp__law_textB u) (sp__law_draw u) (sp__law_spoilt01 u) (sp__law_pickW u) (sp_table_error u) (sp__law_error01 u) (sp_text_error u) (fun _ _ _ => False) [.dat (.ad a), .dat (.ad u), .un, .un, .un, .un, .un, .un, .un] { nx := fun _ => False, rt := fun d => d = .bl true } := by
  have er : ∀ ms : List Int, (D.tup (ms.map D.int)).em = true := fun ms => by
    induction ms with
    | nil => rfl
    | cons m ms ih => rw [List.map_cons]; simp only [D.emA, D.em, Bool.true_and] at *; exact ih
  simp_arith
  refine ⟨12, rfl, by decide, by decide, fun ns ht => ?_⟩
  have hn := ht.ne
  have hf := ht.few
  have hnn : ns ≠ [] := by intro z; subst z; simp at hn
  refine ⟨10, rfl, by decide, by decide, fun r r0 r1 => ⟨ns, r, rfl, hnn, by omega, r0, by omega, fun ks hk hkl => ?_⟩⟩
  have hks : ∀ i ∈ ks, 0 ≤ i ∧ i ≤ 25 := fun i hi => ht.le i (hk i hi)
  refine ⟨ns, rfl, ht.le, by omega, fun d1 h1 => ⟨ns, rfl, ht.le, by omega, fun d2 h2 => ⟨ks, rfl, hks, by omega, fun d3 h3 => ?_⟩⟩⟩
  have tn := er ns
  have tk := er ks
  have knn : ns.map D.int ≠ [] := by simpa using hnn
  refine ⟨fun Γ => ∃ es : List D, es.length ≤ 10 ∧ D.emA es = true ∧ Γ = [.dat (.ad a), .dat (.ad u), .dat (.tup (ns.map D.int)), .dat (.tup (ks.map D.int)), .dat (.lst es), .un, .un, .un, .un], ?_, ?_⟩
  · simp_arith
    refine ⟨3, rfl, by decide, by decide, fun t t0 t1 => ?_⟩
    simp_arith
    refine ⟨fun _ => ?_, fun _ => ⟨_, by simp, emA_all fun x hx => ?_, rfl⟩⟩
    · have c1 := fun lo hi => cut_le' (List.replicate (Int.toNat 64) (ns.map D.int)).flatten lo hi
      simp only [len_flat] at c1
      have e64 : Int.toNat 64 = 64 := rfl
      have z64 : ns.length * Int.toNat 64 ≤ 1000000 := Nat.le_trans (Nat.mul_le_mul_right _ hf) (by decide)
      have z65 : Int.toNat 64 * ns.length ≤ 10000 := by rw [Nat.mul_comm]; exact Nat.le_trans (Nat.mul_le_mul_right _ hf) (by decide)
      have c2 : ∀ lo hi, (cut (List.replicate (Int.toNat 64) (ns.map D.int)).flatten lo hi).length ≤ 10000 := fun lo hi => Nat.le_trans (c1 lo hi) z65
      refine ⟨knn, by decide, z64, 3, rfl, by decide, by decide, fun q q0 q1 => ?_⟩
      simp_arith
      refine ⟨_, _, rfl, rfl, by simp, by simp, fun d hd => ?_⟩
      have hde : d.em = true := by
        simp only [List.mem_cons, List.not_mem_nil, or_false] at hd
        rcases hd with rfl | rfl <;> rfl
      have c3 := c2 none (some 64)
      refine ⟨knn, by decide, z64, by omega, _, by simp, emA_all fun x hx => ?_, rfl⟩
      simp only [List.mem_cons, List.not_mem_nil, or_false] at hx
      rcases hx with rfl | rfl | rfl | rfl | rfl | rfl | rfl
      · exact tn
      · exact h1
      · exact h2
      · exact h3
      · exact tk
      · exact emA_all em_cut
      · refine emA_all fun x hx => ?_
        rcases List.mem_cons.mp hx with rfl | hx
        · exact hde
        · exact em_cut x hx
    · simp only [List.mem_cons, List.not_mem_nil, or_false] at hx
      rcases hx with rfl | rfl | rfl | rfl | rfl
      all_goals assumption
  rintro Γ ⟨es, hel, he, rfl⟩
  refine ⟨fun Γ => ∃ s4 s5 s6 s7 : Sl, Γ = [.dat (.ad a), .dat (.ad u), .dat (.tup (ns.map D.int)), .dat (.tup (ks.map D.int)), s4, s5, s6, s7, .un], ?_, ?_⟩
  · simp_arith [wFor]
    refine ⟨fun _ Γ => ∃ s5 s6 s7 : Sl, s5.mine = false ∧ s6.mine = false ∧ s7.mine = false ∧ Γ = [.dat (.ad a), .dat (.ad u), .dat (.tup (ns.map D.int)), .dat (.tup (ks.map D.int)), .dat (.lst es), s5, s6, s7, .un], ⟨_, _, _, rfl, rfl, rfl, rfl⟩, ?_, fun Γ ⟨s5, s6, s7, _, _, _, e⟩ => ⟨_, _, _, _, e⟩⟩
    rintro i x Γ hx ⟨s5, s6, s7, m5, m6, m7, rfl⟩
    obtain ⟨y, hy, rfl⟩ := enumAt hx
    have hye := emA_mem he y (List.mem_of_getElem? hy)
    simp_arith
    refine ⟨fun Γ => Γ = [.dat (.ad a), .dat (.ad u), .dat (.tup (ns.map D.int)), .dat (.tup (ks.map D.int)), .dat (.lst es), .dat (.int (i : Nat)), .dat y, .dat (tErr y), .un], ?_, ?_⟩
    · simp_arith
      exact ⟨fun _ => ⟨y, rfl, hye, rfl⟩, fun _ => ⟨y, rfl, hye, rfl⟩⟩
    · rintro Γ rfl
      simp_arith [oRepr]
      refine ⟨by rw [tErr_g]; exact sh_g (.inl rfl) (by decide) y, y, .non, 64, 1, notLet, "cell", rfl, hye, .inl ⟨rfl, rfl, rfl, rfl⟩, sh_g (.inl rfl) (by decide) y, ?_⟩
      rw [tErr_g]
      exact ⟨fun c => absurd c (by simp), fun _ => ⟨_, _, _, rfl, rfl, rfl, rfl⟩⟩
  rintro Γ ⟨s4, s5, s6, s7, rfl⟩
  clear he hel es h1 h2 h3 d1 d2 d3
  simp_arith
  refine ⟨ks, rfl, hks, by omega, fun d1 h1 => ⟨ks, rfl, hks, by omega, fun d2 h2 => ⟨ns, rfl, ht.le, by omega, fun d3 h3 => ?_⟩⟩⟩
  refine ⟨fun Γ => ∃ es : List D, es.length ≤ 10 ∧ D.emA es = true ∧ Γ = [.dat (.ad a), .dat (.ad u), .dat (.tup (ns.map D.int)), .dat (.tup (ks.map D.int)), s4, s5, s6, s7, .dat (.lst es)], ?_, ?_⟩
  · simp_arith
    refine ⟨6, rfl, by decide, by decide, fun t t0 t1 => ?_⟩
    simp_arith
    refine ⟨fun _ => ?_, fun _ => ⟨_, by simp, emA_all fun x hx => ?_, rfl⟩⟩
    · have z1 : ∀ n : Nat, n ≤ 2001 → ns.length * n ≤ 128064 := fun n hn => Nat.le_trans (Nat.mul_le_mul_right _ hf) (by omega)
      refine ⟨knn, by decide, Nat.le_trans (z1 (Int.toNat 2001) (by decide)) (by decide), 3, rfl, by decide, by decide, fun q q0 q1 => ?_⟩
      simp_arith
      have c3 := cut_le' (List.replicate (Int.toNat 2000) (ns.map D.int)).flatten none (some 2000)
      rw [len_flat] at c3
      have z2 := z1 2000 (by decide)
      have e20 : Int.toNat 2000 = 2000 := rfl
      have z3 : Int.toNat 2000 * ns.length ≤ 128064 := by rw [Nat.mul_comm]; exact z2
      refine ⟨knn, by decide, Nat.le_trans z2 (by decide), by omega, _, by simp, emA_all fun x hx => ?_, rfl⟩
      simp only [List.mem_cons, List.not_mem_nil, or_false] at hx
      rcases hx with rfl | rfl | rfl | rfl | rfl | rfl | rfl
      · exact tk
      · exact h1
      · exact h2
      · exact h3
      · exact tn
      · exact emA_all em_cut
      · refine emA_all fun x hx => ?_
        rcases List.mem_cons.mp hx with rfl | hx
        · rfl
        · exact em_cut x hx
    · simp only [List.mem_cons, List.not_mem_nil, or_false] at hx
      rcases hx with rfl | rfl | rfl | rfl | rfl
      all_goals assumption
  rintro Γ ⟨es, hel, he, rfl⟩
  refine ⟨fun Γ => True, ?_, fun Γ _ => rfl⟩
  · simp_arith [wFor]
    refine ⟨fun _ Γ => ∃ s5 s6 s7 : Sl, Γ = [.dat (.ad a), .dat (.ad u), .dat (.tup (ns.map D.int)), .dat (.tup (ks.map D.int)), s4, s5, s6, s7, .dat (.lst es)], ⟨_, _, _, rfl⟩, ?_⟩
    rintro i x Γ hx ⟨s5, s6, s7, rfl⟩
    obtain ⟨y, hy, rfl⟩ := enumAt hx
    have hye := emA_mem he y (List.mem_of_getElem? hy)
    simp_arith
    refine ⟨fun Γ => Γ = [.dat (.ad a), .dat (.ad u), .dat (.tup (ns.map D.int)), .dat (.tup (ks.map D.int)), s4, .dat (.int (i : Nat)), .dat y, .dat (xErr ns y), .dat (.lst es)], ?_, ?_⟩
    · simp_arith
      exact ⟨fun _ => ⟨ns, y, rfl, hye, rfl⟩, fun _ => ⟨ns, y, rfl, hye, rfl⟩⟩
    · rintro Γ rfl
      simp_arith [oRepr]
      refine ⟨sh_g (.inr rfl) (by decide) y, y, .tup (ns.map D.int), 2000, 0, notOf ns, "letter", rfl, hye, .inr ⟨ns, rfl, rfl, rfl, rfl⟩, sh_g (.inr rfl) (by decide) y, ?_⟩
      rw [xErr]
      exact ⟨fun c => absurd c (by simp), fun _ => ⟨_, _, _, rfl⟩⟩
end V
/-! V100: letters as signs. -/
namespace V
open PySem PySem.Spec PyProof.Rows L2 U TL
def SG : Str := Str.ofString "abcdefghijklmnopqrstuvwxyz"
theorem SG_tl : SG.cps.toList = (List.range 26).map (97 + ·) := by decide +kernel
theorem SG_len : SG.length ≤ 16777216 := by decide +kernel
def isSg (c : Nat) : Bool := decide (97 ≤ c ∧ c ≤ 122)
def fI (c : Nat) : Int := if 97 ≤ c ∧ c ≤ 122 then (c : Int) - 97 else -1
theorem mem_sg (c : Nat) : c ∈ SG.cps.toList ↔ 97 ≤ c ∧ c ≤ 122 := by
  rw [SG_tl]
  simp only [List.mem_map, List.mem_range]
  exact ⟨fun ⟨a, h1, h2⟩ => by omega, fun h => ⟨c - 97, by omega, by omega⟩⟩
theorem find_in : ∀ i : Fin 26, Txt.find SG ⟨#[97 + i.val]⟩ = (i.val : Int) := by decide +kernel
theorem find_sg (c : Nat) : Txt.find SG ⟨#[c]⟩ = fI c := by
  unfold fI
  by_cases h : 97 ≤ c ∧ c ≤ 122
  · rw [if_pos h]
    have := find_in ⟨c - 97, by omega⟩
    have e : 97 + (c - 97) = c := by omega
    simp only [e] at this
    rw [this]
    omega
  · rw [if_neg h]
    have f := PySem.StrLaws.found_one SG c
    rw [decide_eq_false fun z => h ((mem_sg c).mp z)] at f
    have f : (Builtin.Str.occurrences SG ⟨#[c]⟩ 0 SG.length 1).isEmpty = true := by simpa using f
    have f := List.isEmpty_iff.mp f
    unfold Txt.find
    rw [f]
theorem atI_sg {k : Int} (h0 : 0 ≤ k) (h1 : k ≤ 25) : L2.atI SG.cps.toList k = some (97 + k.toNat) := by
  obtain ⟨n, rfl⟩ := Int.eq_ofNat_of_zero_le h0
  refine atI_nat ?_
  rw [SG_tl, List.getElem?_map, List.getElem?_range (by omega)]
  rfl
def codeS (k : Int) : Nat := 97 + k.toNat
def txtS (ns : List Int) : Str := ⟨(ns.map codeS).toArray⟩
theorem txtS_tl (ns : List Int) : (txtS ns).cps.toList = ns.map codeS := rfl
theorem txtS_len (ns : List Int) : (txtS ns).length = ns.length := by
  show (ns.map codeS).toArray.size = ns.length
  simp
theorem joinL_one : ∀ cs : List Nat, joinL [] (cs.map fun c => [c]) = cs
  | [] => rfl
  | [c] => rfl
  | c :: d :: r => by
    show [c] ++ ([] ++ joinL [] ((d :: r).map fun c => [c])) = _
    rw [joinL_one (d :: r)]
    rfl
theorem join_one (cs : List Nat) : Txt.join "" (cs.map fun c => (⟨#[c]⟩ : Str)) = ⟨cs.toArray⟩ := by
  rw [join_eq]
  refine ext_tl ?_
  rw [tl_join, List.map_map]
  exact joinL_one cs
def sp_signs_of (_ : Addr) : Fs := fun ds P _ => ∃ ns : List Int, ds = [.tup (ns.map D.int)] ∧ (∀ k ∈ ns, 0 ≤ k ∧ k ≤ 25) ∧ ns.length ≤ 200000 ∧ P (.str (txtS ns))
abbrev w_signs_of (E : Addr → Option (Str × D) → Ga → Prop) : WS :=
  wSeq (wRet (wJoin (wC (.str "")) (wLc [1] (wiTup (wVar 0)) (wgName 1) (wOp oIx (wC (.str "abcdefghijklmnopqrstuvwxyz")) (wVarQ 1))))) wNil
theorem vc_signs_of {u : Addr} {ds : List D} {P : D → Prop} {X : Addr → Option (Str × D) → Prop} (h : sp_signs_of u ds P X) : w_signs_of (fun C fo _ => X C fo) (Ga.start 2 ds) { nx := fun _ => P .non, rt := P } := by
  obtain ⟨ns, rfl, hk, hl, h⟩ := h
  simp_arith
  have e : (ns.map fun k => D.str ⟨#[codeS k]⟩) = ((ns.map codeS).map fun c => (⟨#[c]⟩ : Str)).map D.str := by rw [List.map_map, List.map_map]; rfl
  refine ⟨_, rfl, by omega, fun x y => ∃ k : Int, x = .int k ∧ y = .str ⟨#[codeS k]⟩, fun x hx => ?_, fun ys hy => ?_⟩
  · obtain ⟨k, hk2, rfl⟩ := intsMem hx
    obtain ⟨h0, h1⟩ := hk k hk2
    exact ⟨SG_len, _, atI_sg h0 h1, k, rfl, rfl⟩
  have ey : ys = ns.map fun k => D.str ⟨#[codeS k]⟩ := All2.of_map (f := D.int) (g := fun k => D.str ⟨#[codeS k]⟩) (as := ns) (fun p hp y ⟨i, e, ey⟩ => by
    injection e with e
    rw [ey, e]) hy
  refine ⟨(ns.map codeS).map fun c => (⟨#[c]⟩ : Str), by rw [ey, e], ?_, ?_⟩
  · have s1 : (((ns.map codeS).map fun c => (⟨#[c]⟩ : Str)).map fun z => z.length).sum = ns.length := by
      rw [List.map_map, List.map_map]
      clear hk hl h hy ey e
      induction ns with
      | nil => rfl
      | cons n ns ih =>
        rw [List.map_cons, List.sum_cons, ih, List.length_cons]
        show 1 + ns.length = _
        omega
    have s2 : (Str.ofString "").length = 0 := rfl
    rw [s1, s2]
    omega
  · rw [join_one]
    exact h
abbrev sp_table_text := sp_signs_of
abbrev w_table_text (S_signs_of : Fs) (E : Addr → Option (Str × D) → Ga → Prop) : WS :=
  wSeq (wRet (wCall 1 S_signs_of E (waCons (wVar 0) waNil))) wNil
theorem vc_table_text {u : Addr} {ds : List D} {P : D → Prop} {X : Addr → Option (Str × D) → Prop} (h : sp_table_text u ds P X) : w_table_text (sp_signs_of u) (fun C fo _ => X C fo) (Ga.start 1 ds) { nx := fun _ => P .non, rt := P } := by
  obtain ⟨ns, rfl, hk, hl, h⟩ := h
  simp_arith
  exact ⟨ns, rfl, hk, hl, h⟩
abbrev sp_letters_text := sp_signs_of
abbrev w_letters_text (S_signs_of : Fs) (E : Addr → Option (Str × D) → Ga → Prop) : WS :=
  wSeq (wRet (wCall 1 S_signs_of E (waCons (wVar 0) waNil))) wNil
theorem vc_letters_text {u : Addr} {ds : List D} {P : D → Prop} {X : Addr → Option (Str × D) → Prop} (h : sp_letters_text u ds P X) : w_letters_text (sp_signs_of u) (fun C fo _ => X C fo) (Ga.start 1 ds) { nx := fun _ => P .non, rt := P } := by
  obtain ⟨ns, rfl, hk, hl, h⟩ := h
  simp_arith
  exact ⟨ns, rfl, hk, hl, h⟩
abbrev sp__law_string := sp_signs_of
abbrev w__law_string (E : Addr → Option (Str × D) → Ga → Prop) : WS :=
  wSeq (wRet (wJoin (wC (.str "")) (wLc [1] (wiTup (wVar 0)) (wgName 1) (wOp oIx (wC (.str "abcdefghijklmnopqrstuvwxyz")) (wVarQ 1))))) wNil
theorem vc__law_string {u : Addr} {ds : List D} {P : D → Prop} {X : Addr → Option (Str × D) → Prop} (h : sp__law_string u ds P X) : w__law_string (fun C fo _ => X C fo) (Ga.start 2 ds) { nx := fun _ => P .non, rt := P } := vc_signs_of (u := u) h
def isS : D → Bool
  | .str _ => true
  | _ => false
def spE_letters_behind (c1 _u : Addr) : Fs := fun ds P X => ∃ d : D, ds = [d] ∧ d.isAd = false ∧ (∀ s, d = .str s → s.length ≤ 200000 ∧ P (.tup ((s.cps.toList.map fI).map D.int))) ∧ (isS d = false → X c1 none)
abbrev w_E_letters_behind (C_BadText : Addr) (E : Addr → Option (Str × D) → Ga → Prop) : WS :=
  wSeq (wIf (wtNot (wtVal (wOp1 (oIsi "str") (wVarQ 0)))) (wSeq (wRaise0 C_BadText E) wNil) wNil) (wSeq (wRet (wOp1 oTupOf (wLc [1] (wiStr (wVar 0)) (wgName 1) (wFind (wC (.str "abcdefghijklmnopqrstuvwxyz")) (wVar 1))))) wNil)
theorem vcE_letters_behind {c1 u : Addr} {ds : List D} {P : D → Prop} {X : Addr → Option (Str × D) → Prop} (h : spE_letters_behind c1 u ds P X) : w_E_letters_behind c1 (fun C fo _ => X C fo) (Ga.start 2 ds) { nx := fun _ => P .non, rt := P } := by
  obtain ⟨d, rfl, hd, h1, h2⟩ := h
  simp_arith
  have hs : isTyN "str" (tyOf d) = isS d := by
    cases d with
    | ad _ => cases hd
    | _ => rfl
  rw [hs]
  refine ⟨hd, fun c => h2 (by simpa using c), fun c => ?_⟩
  obtain ⟨s, rfl⟩ : ∃ s, d = .str s := by
    cases d with
    | str s => exact ⟨s, rfl⟩
    | _ => exact absurd c (by simp [isS])
  obtain ⟨hl, hp⟩ := h1 s rfl
  have e : signsD s = s.cps.toList.map fun c => D.str ⟨#[c]⟩ := rfl
  have hl2 : (signsD s).length ≤ 1000000 := by
    rw [e, List.length_map, Array.length_toList]
    have : s.cps.size ≤ 200000 := hl
    omega
  refine ⟨s, rfl, hl2, fun x y => ∃ c : Nat, x = .str ⟨#[c]⟩ ∧ y = .int (fI c), fun x hx => ?_, fun ys hy => ?_⟩
  · rw [e] at hx
    obtain ⟨c, hc, rfl⟩ := List.mem_map.mp hx
    refine ⟨_, rfl, _, rfl, c, rfl, ?_⟩
    show D.int (Txt.find SG ⟨#[c]⟩) = _
    rw [find_sg]
  rw [e] at hy
  have ey : ys = s.cps.toList.map fun c => D.int (fI c) := All2.of_map (f := fun c => D.str ⟨#[c]⟩) (g := fun c => D.int (fI c)) (as := s.cps.toList) (fun p hp y ⟨i, e, ey⟩ => by
    injection e with e
    have e := congrArg (fun z : Str => z.cps.toList) e
    have e : [p] = [i] := e
    injection e with e _
    rw [ey, e]) hy
  rw [ey]
  rw [List.map_map] at hp
  exact hp
end V
/-! V101: texts of signs read, and the law's own reading. -/
namespace V
open PySem PySem.Spec PyProof.Rows L2 U TL
def okT (t : Option (List Int)) (cs : List Nat) : Bool := cs.all isSg && (match t with
  | none => decide (0 < cs.length) && decide (cs.length < 65)
  | some ns => decide (cs.length < 2001) && cs.all fun c => decide (fI c ∈ ns))
theorem isLet_fI (c : Nat) : isLet (.int (fI c)) = isSg c := by
  unfold fI isSg
  by_cases h : 97 ≤ c ∧ c ≤ 122
  · rw [if_pos h, decide_eq_true h]
    simp [isLet, wi]
    omega
  · rw [if_neg h, decide_eq_false h]
    simp [isLet, wi]
theorem isLetOf_fI (ns : List Int) (c : Nat) : isLetOf ns (.int (fI c)) = (isSg c && decide (fI c ∈ ns)) := by
  unfold fI isSg
  by_cases h : 97 ≤ c ∧ c ≤ 122
  · rw [if_pos h, decide_eq_true h]
    simp [isLetOf]
    omega
  · rw [if_neg h, decide_eq_false h]
    simp [isLetOf]
def idsD (cs : List Nat) : D := .tup ((cs.map fI).map D.int)
theorem idsD_em (cs : List Nat) : (idsD cs).em = true := by
  unfold idsD
  simp only [D.em]
  refine emA_all fun x hx => ?_
  obtain ⟨i, _, rfl⟩ := intsMem hx
  rfl
theorem all_andB {p q : Nat → Bool} : ∀ cs : List Nat, cs.all (fun c => p c && q c) = (cs.all p && cs.all q)
  | [] => rfl
  | c :: cs => by
    rw [List.all_cons, List.all_cons, List.all_cons, all_andB cs]
    cases p c <;> cases q c <;> cases cs.all p <;> rfl
theorem gErr_isNon {least most : Nat} {bad : D → Bool} {word : Str} {xs : List D} : (gErr least most bad word (.tup xs)).isNon = (decide (least ≤ xs.length ∧ xs.length ≤ most) && xs.all fun x => !bad x) := by
  rw [gErr.eq_1]
  by_cases h : least ≤ xs.length ∧ xs.length ≤ most
  · rw [if_pos h, decide_eq_true h]
    cases f : xs.findIdx? bad with
    | none =>
      rw [List.findIdx?_eq_none_iff] at f
      have : (xs.all fun x => !bad x) = true := List.all_eq_true.mpr fun x hx => by rw [f x hx]; rfl
      rw [this]
      rfl
    | some i =>
      have : (xs.all fun x => !bad x) = false := Bool.eq_false_iff.mpr fun z => by
        have z2 : xs.findIdx? bad = none := List.findIdx?_eq_none_iff.mpr fun x hx => by
          have := List.all_eq_true.mp z x hx
          simpa using this
        rw [f] at z2
        cases z2
      rw [this]
      rfl
  · rw [if_neg h, decide_eq_false h]
    rfl
theorem tErr_ids (cs : List Nat) : (tErr (idsD cs)).isNon = okT none cs := by
  rw [tErr_g]
  unfold idsD
  have e : ((cs.map fI).map D.int).all (fun x => !notLet x) = cs.all isSg := by
    rw [List.all_map, List.all_map]
    exact congrArg (fun f => cs.all f) (funext fun c => by show (!(!isLet (.int (fI c)))) = isSg c; rw [Bool.not_not, isLet_fI])
  rw [gErr_isNon, e, List.length_map, List.length_map]
  unfold okT
  rw [Bool.and_comm, ← Bool.decide_and]
  exact congrArg (fun z => cs.all isSg && z) (decide_eq_decide.mpr ⟨fun h => by omega, fun h => by omega⟩)
theorem xErr_ids (ns : List Int) (cs : List Nat) : (xErr ns (idsD cs)).isNon = okT (some ns) cs := by
  unfold xErr idsD
  have e : ((cs.map fI).map D.int).all (fun x => !notOf ns x) = cs.all (fun c => isSg c && decide (fI c ∈ ns)) := by
    rw [List.all_map, List.all_map]
    exact congrArg (fun f => cs.all f) (funext fun c => by show (!(!isLetOf ns (.int (fI c)))) = _; rw [Bool.not_not, isLetOf_fI])
  have d1 : decide (0 ≤ cs.length ∧ cs.length ≤ 2000) = decide (cs.length < 2001) := decide_eq_decide.mpr ⟨fun h => by omega, fun h => by omega⟩
  rw [gErr_isNon, e, all_andB, List.length_map, List.length_map, d1]
  unfold okT
  show (decide (cs.length < 2001) && (cs.all isSg && cs.all fun c => decide (fI c ∈ ns))) = (cs.all isSg && (decide (cs.length < 2001) && cs.all fun c => decide (fI c ∈ ns)))
  cases decide (cs.length < 2001) <;> cases cs.all isSg <;> rfl
def spE_read_table (c1 _u : Addr) : Fs := fun ds P X => ∃ d : D, ds = [d] ∧ d.isAd = false ∧ (∀ s, d = .str s → s.length ≤ 200000 ∧ (okT none s.cps.toList = true → P (idsD s.cps.toList)) ∧ (okT none s.cps.toList = false → X c1 none)) ∧ (isS d = false → X c1 none)
abbrev w_E_read_table (S_letters_behind : Fs) (S_table_error : Fs) (C_BadText : Addr) (E : Addr → Option (Str × D) → Ga → Prop) : WS :=
  wSeq (wSet 1 (wCall 1 S_letters_behind E (waCons (wVar 0) waNil))) (wSeq (wIf (wtCmp oIsNot (wCall 1 S_table_error E (waCons (wVar 1) waNil)) (wC .non)) (wSeq (wRaise0 C_BadText E) wNil) wNil) (wSeq (wRetV 1) wNil))
theorem vcE_read_table {c1 u : Addr} {ds : List D} {P : D → Prop} {X : Addr → Option (Str × D) → Prop} (h : spE_read_table c1 u ds P X) : w_E_read_table (spE_letters_behind c1 u) (sp_table_error u) c1 (fun C fo _ => X C fo) (Ga.start 2 ds) { nx := fun _ => P .non, rt := P } := by
  obtain ⟨d, rfl, hd, h1, h2⟩ := h
  simp_arith
  refine ⟨d, rfl, hd, fun s e => ⟨(h1 s e).1, idsD s.cps.toList, rfl, idsD_em _, ?_⟩, h2⟩
  obtain ⟨_, g1, g2⟩ := h1 s e
  show (( !(tErr (idsD s.cps.toList)).isNon) = true → X c1 none) ∧ _
  rw [tErr_ids]
  exact ⟨fun c => g2 (by simpa using c), fun c => g1 (by simpa using c)⟩
def spE_read_letters (c1 _u : Addr) : Fs := fun ds P X => ∃ (d : D) (ns : List Int), ds = [.tup (ns.map D.int), d] ∧ d.isAd = false ∧ (∀ s, d = .str s → s.length ≤ 200000 ∧ (okT (some ns) s.cps.toList = true → P (idsD s.cps.toList)) ∧ (okT (some ns) s.cps.toList = false → X c1 none)) ∧ (isS d = false → X c1 none)
abbrev w_E_read_letters (S_letters_behind : Fs) (S_text_error : Fs) (C_BadText : Addr) (E : Addr → Option (Str × D) → Ga → Prop) : WS :=
  wSeq (wSet 2 (wCall 1 S_letters_behind E (waCons (wVar 1) waNil))) (wSeq (wIf (wtCmp oIsNot (wCall 2 S_text_error E (waCons (wVar 0) (waCons (wVar 2) waNil))) (wC .non)) (wSeq (wRaise0 C_BadText E) wNil) wNil) (wSeq (wRetV 2) wNil))
theorem vcE_read_letters {c1 u : Addr} {ds : List D} {P : D → Prop} {X : Addr → Option (Str × D) → Prop} (h : spE_read_letters c1 u ds P X) : w_E_read_letters (spE_letters_behind c1 u) (sp_text_error u) c1 (fun C fo _ => X C fo) (Ga.start 3 ds) { nx := fun _ => P .non, rt := P } := by
  obtain ⟨d, ns, rfl, hd, h1, h2⟩ := h
  simp_arith
  refine ⟨d, rfl, hd, fun s e => ⟨(h1 s e).1, ns, idsD s.cps.toList, rfl, idsD_em _, ?_⟩, h2⟩
  obtain ⟨_, g1, g2⟩ := h1 s e
  show ((!(xErr ns (idsD s.cps.toList)).isNon) = true → X c1 none) ∧ _
  rw [xErr_ids]
  exact ⟨fun c => g2 (by simpa using c), fun c => g1 (by simpa using c)⟩
def dueS (t : Option (List Int)) : D → D
  | .str s => if okT t s.cps.toList then .lst [.str "told", idsD s.cps.toList] else .lst [.str "bad"]
  | _ => .lst [.str "bad"]
theorem dueS_no {t : Option (List Int)} {d : D} (h : isS d = false) : dueS t d = .lst [.str "bad"] := by
  cases d with
  | str s => cases h
  | _ => rfl
theorem dueS_ok {t : Option (List Int)} {s : Str} (c : okT t s.cps.toList = true) : dueS t (.str s) = .lst [.str "told", idsD s.cps.toList] := by
  show (if okT t s.cps.toList = true then D.lst [.str "told", idsD s.cps.toList] else .lst [.str "bad"]) = _
  rw [if_pos c]
theorem dueS_bad {t : Option (List Int)} {s : Str} (c : okT t s.cps.toList = false) : dueS t (.str s) = .lst [.str "bad"] := by
  show (if okT t s.cps.toList = true then D.lst [.str "told", idsD s.cps.toList] else .lst [.str "bad"]) = _
  rw [if_neg (by rw [c]; exact Bool.false_ne_true)]
theorem ty_isS {d : D} (hd : d.isAd = false) : isTyN "str" (tyOf d) = isS d := by
  cases d with
  | ad _ => cases hd
  | _ => rfl
theorem isS_ex {d : D} (c : isS d = true) : ∃ s, d = .str s := by
  cases d with
  | str s => exact ⟨s, rfl⟩
  | _ => cases c
theorem isSg_mem (c : Nat) : decide (c ∈ SG.cps.toList) = isSg c := by
  unfold isSg
  exact decide_eq_decide.mpr (mem_sg c)
theorem oEq_nilI {ns : List Int} {P : Bool → Prop} (h : P (decide (ns = []))) : oEq (.lst (ns.map D.int)) (.lst []) P := by
  refine .inr ⟨eqk_lint ns, eqk_lint [], ?_⟩
  have e : PyData.eqv (toPy (.lst (ns.map D.int))) (toPy (.lst [])) = decide (ns = []) := by
    cases ns with
    | nil => rfl
    | cons n ns => rfl
  rw [e]
  exact h
def tabO : Option (List Int) → D
  | none => .non
  | some ns => .tup (ns.map D.int)
def sp__law_told03 (_ : Addr) : Fs := fun ds P _ => ∃ (d : D) (t : Option (List Int)) (q : Bool), ds = [d, tabO t, .bl q] ∧ d.isAd = false ∧ (∀ s, d = .str s → s.length ≤ 200000) ∧ P (dueS t d)
abbrev w_told03 (S_read_table : Fs) (S_read_letters : Fs) (m_BadText : Addr → Option Bool) (m_RingError : Addr → Option Bool) (E : Addr → Option (Str × D) → Ga → Prop) : WS :=
  wSeq (wTry E [.plain m_BadText "bad", .plain m_RingError "other"] (fun E1 => wSeq (wIf (wtCmp oIs (wVar 1) (wC .non)) (wSeq (wRet (wLst (waCons (wC (.str "told")) (waCons (wIfE (wtVal (wVar 2)) (wCall 1 S_read_table E1 (waCons (wVar 0) waNil)) (wCall 1 S_read_table E1 (waCons (wVar 0) waNil))) waNil)))) wNil) wNil) (wSeq (wRet (wLst (waCons (wC (.str "told")) (waCons (wIfE (wtVal (wVar 2)) (wCallK2 S_read_letters E1 (wVar 0) (wVar 1)) (wCall 2 S_read_letters E1 (waCons (wVar 1) (waCons (wVar 0) waNil)))) waNil)))) wNil))) wNil
theorem vc__law_told03 {u c1 : Addr} {m1 m2 : Addr → Option Bool} (e1 : m1 c1 = some true) {ds : List D} {P : D → Prop} {X : Addr → Option (Str × D) → Prop} (h : sp__law_told03 u ds P X) : w_told03 (spE_read_table c1 u) (spE_read_letters c1 u) m1 m2 (fun C fo _ => X C fo) (Ga.start 3 ds) { nx := fun _ => P .non, rt := P } := by
  obtain ⟨d, t, q, rfl, hd, hl, h⟩ := h
  cases t with
  | none =>
    unfold tabO
    simp_arith
    have hR : ∀ E : Addr → Option (Str × D) → Prop, (P (.lst [.str "bad"]) → E c1 none) → spE_read_table c1 u [d] (fun d => P (.lst [.str "told", d])) E := fun E y => by
      refine ⟨d, rfl, hd, fun s e => ⟨hl s e, fun c => ?_, fun c => y ?_⟩, fun c => y ?_⟩
      · rw [e] at h
        rw [dueS_ok c] at h
        exact h
      · rw [e] at h
        rw [dueS_bad c] at h
        exact h
      · rw [dueS_no c] at h
        exact h
    exact ⟨fun _ => ⟨fun _ => hR _ fun hp => ⟨true, e1, fun _ => hp, fun z => (by cases z)⟩, fun _ => hR _ fun hp => ⟨true, e1, fun _ => hp, fun z => (by cases z)⟩⟩, fun c => Bool.noConfusion (show true = false from c)⟩
  | some ns =>
    unfold tabO
    simp_arith
    have hR : ∀ E : Addr → Option (Str × D) → Prop, (P (.lst [.str "bad"]) → E c1 none) → spE_read_letters c1 u [.tup (ns.map D.int), d] (fun d => P (.lst [.str "told", d])) E := fun E y => by
      refine ⟨d, ns, rfl, hd, fun s e => ⟨hl s e, fun c => ?_, fun c => y ?_⟩, fun c => y ?_⟩
      · rw [e] at h
        rw [dueS_ok c] at h
        exact h
      · rw [e] at h
        rw [dueS_bad c] at h
        exact h
      · rw [dueS_no c] at h
        exact h
    exact ⟨fun c => Bool.noConfusion (show false = true from c), fun _ => ⟨fun _ => hR _ fun hp => ⟨true, e1, fun _ => hp, fun z => (by cases z)⟩, fun _ => hR _ fun hp => ⟨true, e1, fun _ => hp, fun z => (by cases z)⟩⟩⟩
def sp__law_due (_ : Addr) : Fs := fun ds P _ => ∃ (d : D) (t : Option (List Int)), ds = [d, tabO t] ∧ d.isAd = false ∧ (∀ s, d = .str s → s.length ≤ 200000) ∧ P (dueS t d)
abbrev w__law_due (E : Addr → Option (Str × D) → Ga → Prop) : WS :=
  wSeq (wIf (wtOr (wtNot (wtVal (wOp1 (oIsi "str") (wVarQ 0)))) (wtCmp oNe (wLcF [2] (wiStr (wVar 0)) (wgName 2) (wtCmp oNotInS (wVar 2) (wC (.str "abcdefghijklmnopqrstuvwxyz"))) (wC (.int 1))) (wLst waNil))) (wSeq (wRet (wLst (waCons (wC (.str "bad")) waNil))) wNil) wNil) (wSeq (wSet 3 (wOp1 oTupOf (wLc [2] (wiStr (wVar 0)) (wgName 2) (wOp oSub (wOp1 oOrd (wVarQ 2)) (wC (.int 97)))))) (wSeq (wIf (wtCmp oIs (wVar 1) (wC .non)) (wSeq (wRet (wIfE (wtChain oLt oLt (wC (.int 0)) (wOp1 oLen (wVarQ 3)) (wC (.int 65))) (wLst (waCons (wC (.str "told")) (waCons (wVar 3) waNil))) (wLst (waCons (wC (.str "bad")) waNil)))) wNil) wNil) (wSeq (wRet (wIfE (wtAnd (wtCmp oLt (wOp1 oLen (wVarQ 3)) (wC (.int 2001))) (wtCmp oEq (wLcF [4] (wiTup (wVar 3)) (wgName 4) (wtCmp oNotIn (wVar 4) (wVarQ 1)) (wC (.int 1))) (wLst waNil))) (wLst (waCons (wC (.str "told")) (waCons (wVar 3) waNil))) (wLst (waCons (wC (.str "bad")) waNil)))) wNil)))
theorem vc__law_due {u : Addr} {ds : List D} {P : D → Prop} {X : Addr → Option (Str × D) → Prop} (h : sp__law_due u ds P X) : w__law_due (fun C fo _ => X C fo) (Ga.start 5 ds) { nx := fun _ => P .non, rt := P } := by
  obtain ⟨d, t, rfl, hd, hl, h⟩ := h
  simp_arith
  rw [ty_isS hd]
  refine ⟨hd, fun c => ?_, fun c => ?_⟩
  rotate_left
  · rw [dueS_no (by simpa using c)] at h
    exact h
  obtain ⟨s, rfl⟩ := isS_ex (d := d) (by simpa using c)
  have hl := hl s rfl
  clear hd c
  have e : signsD s = s.cps.toList.map fun c => D.str ⟨#[c]⟩ := rfl
  have hl2 : s.cps.toList.length ≤ 200000 := by
    rw [Array.length_toList]
    exact hl
  have hb : okT t s.cps.toList = false → P (.lst [.str "bad"]) := fun c => by
    rw [dueS_bad c] at h
    exact h
  have hg : okT t s.cps.toList = true → P (.lst [.str "told", idsD s.cps.toList]) := fun c => by
    rw [dueS_ok c] at h
    exact h
  clear h
  generalize s.cps.toList = cs at e hl2 hb hg
  refine ⟨s, rfl, ?_⟩
  rw [e, List.length_map]
  refine ⟨by omega, fun i acc => ∃ ns : List Int, acc = ns.map D.int ∧ (ns = [] ↔ (cs.take i).all isSg = true), ⟨[], rfl, by simp⟩, ?_, ?_⟩
  · rintro i x acc hx ⟨ns, rfl, hns⟩ -
    rw [List.getElem?_map] at hx
    obtain ⟨c, hc, rfl⟩ := Option.map_eq_some_iff.mp hx
    have et : cs.take (i + 1) = cs.take i ++ [c] := by rw [List.take_succ, hc]; rfl
    refine ⟨c, SG, rfl, rfl, ?_⟩
    rw [isSg_mem]
    refine ⟨fun q => ⟨ns ++ [1], by rw [List.map_append]; rfl, ?_⟩, fun q => ⟨ns, rfl, ?_⟩⟩
    · have q : isSg c = false := by simpa using q
      rw [et, List.all_append]
      simp [q]
    · have q : isSg c = true := by simpa using q
      rw [et, List.all_append, hns]
      simp [q]
  rintro acc ⟨ns, rfl, hns⟩
  rw [List.take_length] at hns
  refine oNe_nil ⟨fun q => ?_, fun q => ?_⟩
  · have q : ns ≠ [] := by simpa using q
    have : cs.all isSg = false := Bool.eq_false_iff.mpr fun z => q (hns.mpr z)
    exact hb (by unfold okT; rw [this]; rfl)
  have q : ns = [] := Classical.byContradiction fun z => by
    rw [decide_eq_false z] at q
    cases q
  have all := hns.mp q
  clear hns
  refine ⟨s, rfl, ?_⟩
  rw [e, List.length_map]
  refine ⟨by omega, fun x y => ∃ c : Nat, x = .str ⟨#[c]⟩ ∧ y = .int ((c : Int) - 97), fun x hx => ?_, fun ys hy => ?_⟩
  · obtain ⟨c, hc, rfl⟩ := List.mem_map.mp hx
    exact ⟨rfl, c, rfl, rfl⟩
  have ey : ys = cs.map fun c => D.int (fI c) := All2.of_map (f := fun c => D.str ⟨#[c]⟩) (g := fun c => D.int (fI c)) (as := cs) (fun p hp y ⟨i, e, ey⟩ => by
    injection e with e
    have e := congrArg (fun z : Str => z.cps.toList) e
    have e : [p] = [i] := e
    injection e with e _
    have := List.all_eq_true.mp all p hp
    have : 97 ≤ p ∧ p ≤ 122 := of_decide_eq_true this
    rw [ey, ← e]
    unfold fI
    rw [if_pos this]) hy
  have ey : ys = (cs.map fI).map D.int := by rw [ey, List.map_map]; rfl
  rw [ey, List.length_map, List.length_map]
  clear hy
  cases t with
  | none =>
    refine ⟨fun _ => ⟨fun c => hb ?_, fun c1 => ⟨fun c2 => hg ?_, fun c2 => hb ?_⟩⟩, fun c => Bool.noConfusion (show true = false from c)⟩
    · have c := of_decide_eq_false c
      unfold okT
      rw [all, decide_eq_false (by omega)]
      rfl
    · have c1 := of_decide_eq_true c1
      have c2 := of_decide_eq_true c2
      unfold okT
      rw [all, decide_eq_true (by omega), decide_eq_true (by omega)]
      rfl
    · have c2 := of_decide_eq_false c2
      unfold okT
      rw [all, decide_eq_false (p := cs.length < 65) (by omega), Bool.and_false]
      rfl
  | some ns =>
    refine ⟨fun c => Bool.noConfusion (show false = true from c), fun _ => ⟨fun c1 => ⟨by omega, fun i acc => ∃ zs : List Int, acc = zs.map D.int ∧ (zs = [] ↔ (cs.take i).all (fun c => decide (fI c ∈ ns)) = true), ⟨[], rfl, by simp⟩, ?_, ?_⟩, fun c1 => hb ?_⟩⟩
    · rintro i x acc hx ⟨zs, rfl, hzs⟩ -
      rw [List.getElem?_map, List.getElem?_map] at hx
      obtain ⟨z, hz, rfl⟩ := Option.map_eq_some_iff.mp hx
      obtain ⟨c, hc, rfl⟩ := Option.map_eq_some_iff.mp hz
      have et : cs.take (i + 1) = cs.take i ++ [c] := by rw [List.take_succ, hc]; rfl
      refine ⟨ns, .inr rfl, fun q => ⟨zs ++ [1], by rw [List.map_append]; rfl, ?_⟩, fun q => ⟨zs, rfl, ?_⟩⟩
      · have q : decide (fI c ∈ ns) = false := by simpa using q
        rw [et, List.all_append]
        simp [q]
      · have q : decide (fI c ∈ ns) = true := by simpa using q
        rw [et, List.all_append, hzs]
        simp [q]
    · rintro acc ⟨zs, rfl, hzs⟩
      rw [List.take_length] at hzs
      have c1 := of_decide_eq_true c1
      refine oEq_nilI ⟨fun q => hg ?_, fun q => hb ?_⟩
      · have q := hzs.mp (of_decide_eq_true q)
        unfold okT
        rw [all]
        show (true && (decide (cs.length < 2001) && cs.all fun c => decide (fI c ∈ ns))) = true
        rw [q, decide_eq_true (by omega)]
        rfl
      · have q : (cs.all fun c => decide (fI c ∈ ns)) = false := Bool.eq_false_iff.mpr fun z => of_decide_eq_false q (hzs.mpr z)
        unfold okT
        rw [all]
        show (true && (decide (cs.length < 2001) && cs.all fun c => decide (fI c ∈ ns))) = false
        rw [q, Bool.and_false]
        rfl
    · have c1 := of_decide_eq_false c1
      unfold okT
      rw [all]
      show (true && (decide (cs.length < 2001) && cs.all fun c => decide (fI c ∈ ns))) = false
      rw [decide_eq_false (by omega)]
      rfl
end V
/-! V102: k03: texts spoilt, the law. -/
namespace V
open PySem PySem.Spec PyProof.Rows L2 U TL
def okV (d : D) : Prop := d.isAd = false ∧ ∀ s, d = .str s → s.length ≤ 200000
def sp__law_spoilt (u : Addr) : Fs := fun ds P _ => ∃ x : Str, ds = [.ad u, .str x] ∧ x.length ≤ 1000 ∧ ∀ d, okV d → P d
abbrev w__law_spoilt (S__law_draw : Fs) (S__law_pick : Fs) (E : Addr → Option (Str × D) → Ga → Prop) : WS :=
  wSeq (wPar2 2 3 (wpDat (wCall 2 S__law_draw E (waCons (wVar 0) (waCons (wC (.int 5)) waNil))) (wpDat (wCall 2 S__law_draw E (waCons (wVar 0) (waCons (wOp oAdd (wOp1 oLen (wVarQ 1)) (wC (.int 1))) waNil))) wpNil))) (wSeq (wSet 4 (wCall 2 S__law_pick E (waCons (wVar 0) (waCons (wLst (waCons (wC (.str "A")) (waCons (wC (.str "0")) (waCons (wC (.str " ")) (waCons (wC (.str "\n")) (waCons (wC (.str "`")) (waCons (wC (.str "{")) (waCons (wC (.str "z")) (waCons (wC (.str "a")) (waCons (wC (.str "")) (waCons (wC (.str "-")) (waCons (wC (.str "ab")) waNil)))))))))))) waNil)))) (wSeq (wIf (wtCmp oEq (wVar 2) (wC (.int 0))) (wSeq (wRet (wCall 2 S__law_pick E (waCons (wVar 0) (waCons (wLst (waCons (wC .non) (waCons (wC (.bl true)) (waCons (wC (.int 0)) (waCons (wTup (waCons (wVar 1) waNil)) (waCons (wLst (waCons (wVar 1) waNil)) (waCons (wC (.dic [])) (waCons (wTup waNil) (waCons (wC (.str "")) (waCons (wOp oAdd (wVar 1) (wVarQ 1)) waNil)))))))))) waNil)))) wNil) wNil) (wSeq (wRet (wOp oAdd (wOp oAdd (wSlice (wVar 1) woNone (woSome (wVar 3))) (wVarQ 4)) (wSlice (wVar 1) (woSome (wOp oAdd (wVar 3) (wOp oDiv (wVar 2) (wC (.int 2))))) woNone))) wNil)))
theorem vc__law_spoilt {u : Addr} {ds : List D} {P : D → Prop} {X : Addr → Option (Str × D) → Prop} (h : sp__law_spoilt u ds P X) : w__law_spoilt (sp__law_draw u) (sp__law_pickW u) (fun C fo _ => X C fo) (Ga.start 5 ds) { nx := fun _ => P .non, rt := P } := by
  obtain ⟨x, rfl, hl, h⟩ := h
  simp_arith
  refine ⟨5, rfl, by decide, by decide, fun w w0 w1 => ⟨by omega, _, rfl, by omega, by omega, fun p p0 p1 => ?_⟩⟩
  refine ⟨_, _, rfl, rfl, by simp, by simp, fun d hd => ?_⟩
  have hd : ∃ y : Str, d = .str y ∧ y.length ≤ 2 := by
    simp only [List.mem_cons, List.not_mem_nil, or_false] at hd
    rcases hd with rfl | rfl | rfl | rfl | rfl | rfl | rfl | rfl | rfl | rfl | rfl <;> exact ⟨_, rfl, by decide⟩
  obtain ⟨y, rfl, hy⟩ := hd
  simp_arith
  have ls : ∀ lo hi, (cutS x lo hi).length ≤ x.length := fun lo hi => cutS_length x lo hi
  have la : ∀ p q : Str, (p ++ q).length = p.length + q.length := fun p q => by
    rw [len_tl, len_tl p, len_tl q, tl_append, List.length_append]
  refine ⟨fun _ => ⟨by omega, _, _, rfl, rfl, by simp, by simp, fun d hd => h d ?_⟩, fun _ => ⟨by omega, by have := ls none (some p); omega, by decide, by decide, by omega, ?_, h _ ?_⟩⟩
  · simp only [List.mem_cons, List.not_mem_nil, or_false] at hd
    rcases hd with rfl | rfl | rfl | rfl | rfl | rfl | rfl | rfl | rfl
    all_goals first | (refine ⟨rfl, fun s e => ?_⟩; cases e; done) | skip
    · exact ⟨rfl, fun s e => by injection e with e; rw [← e]; decide⟩
    · exact ⟨rfl, fun s e => by injection e with e; rw [← e, la]; omega⟩
  all_goals
    have l1 := ls none (some p)
    have l2 := ls (some (p + w / 2)) none
  · rw [la]; omega
  · exact ⟨rfl, fun s e => by injection e with e; rw [← e, la, la]; omega⟩
theorem oNe_strT3 {s : Str} {P : Bool → Prop} (h : P false) : oNe (.str s) (.str s) P := by
  show P (!decide (s = s))
  rw [decide_eq_true rfl]
  exact h
theorem repS_len (x : Str) (n : Nat) : (repS x n).length = n * x.length := by
  show (repS x n).cps.size = n * x.cps.size
  rw [← Array.length_toList, repS_tl, ← Array.length_toList]
  exact U.flat_len _ _
theorem rkT3 {ms : List Int} (h : ∀ i ∈ ms, 0 ≤ i ∧ i ≤ 1000) (hl : ms.length ≤ 10000) : Rk (.tup (ms.map D.int)) 200000 2 := by
  have := rk_tup (rka_ints (n := 10) (k := 1) (ns := ms) (fun i hi => by have := h i hi; show i.natAbs < 1024; omega) (by decide) (by decide))
  exact this.le (by omega) (Nat.le_refl _)
theorem rk_bad : Rk (D.lst [.str "bad"]) 300000 4 := (rk_lst (rka_cons ((rk_str (x := "bad") (k := 3) (by decide)).le (show _ ≤ 100 by decide) (Nat.le_refl _)) rka_nil)).le (by omega) (Nat.le_refl _)
theorem rk_dueS {t : Option (List Int)} {d : D} : Rk (dueS t d) 300000 4 := by
  cases hs : isS d with
  | false => rw [dueS_no hs]; exact rk_bad
  | true =>
    obtain ⟨s, rfl⟩ := isS_ex hs
    cases ho : okT t s.cps.toList with
    | false => rw [dueS_bad ho]; exact rk_bad
    | true =>
      rw [dueS_ok ho]
      unfold okT at ho
      obtain ⟨all, h2⟩ := Bool.and_eq_true_iff.mp ho
      have hl : s.cps.toList.length ≤ 2001 := by
        cases t with
        | none =>
          have := of_decide_eq_true (Bool.and_eq_true_iff.mp h2).2
          omega
        | some ns =>
          have := of_decide_eq_true (Bool.and_eq_true_iff.mp h2).1
          omega
      have r := rkT3 (ms := s.cps.toList.map fI) (fun i hi => by
        obtain ⟨c, hc, rfl⟩ := List.mem_map.mp hi
        have : 97 ≤ c ∧ c ≤ 122 := of_decide_eq_true (List.all_eq_true.mp all c hc)
        unfold fI
        rw [if_pos this]
        omega) (by rw [List.length_map]; omega)
      exact (rk_lst (rka_cons ((rk_str (x := "told") (k := 3) (by decide)).le (show _ ≤ 100 by decide) (Nat.le_refl _)) (rka_cons (r.le (Nat.le_refl _) (show 2 ≤ 3 by decide)) rka_nil))).le (by omega) (Nat.le_refl _)
/- ['script', 'bag', 'table', 'text', 'told', 'values', 'turn', 'value'] -/
abbrev w_law_k03 (S__law_table : Fs) (S__law_pick : Fs) (S__law_text : Fs) (S__law_draw : Fs) (S_table_text : Fs) (S_letters_text : Fs) (S__law_string : Fs) (S__law_spoilt : Fs) (S__law_told : Fs) (S__law_due : Fs) (E : Addr → Option (Str × D) → Ga → Prop) : WS :=
  wSeq (wSet 2 (wCall 2 S__law_table E (waCons (wVar 1) (waCons (wCall 2 S__law_pick E (waCons (wVar 1) (waCons (wLst (waCons (wC (.int 12)) (waCons (wC (.int 12)) (waCons (wC (.int 64)) waNil)))) waNil))) waNil)))) (wSeq (wSet 3 (wCall 3 S__law_text E (waCons (wVar 1) (waCons (wVar 2) (waCons (wCall 2 S__law_draw E (waCons (wVar 1) (waCons (wC (.int 13)) waNil))) waNil))))) (wSeq (wSet 4 (wLst (waCons (wCall 1 S_table_text E (waCons (wVar 2) waNil)) (waCons (wCall 1 S_letters_text E (waCons (wVar 3) waNil)) (waCons (wCall 1 S_table_text E (waCons (wVar 2) waNil)) (waCons (wCall 1 S_letters_text E (waCons (wVar 3) waNil)) waNil)))))) (wSeq (wIf (wtCmp oNe (wOp1 oRepr (wVarQ 4)) (wOp1 oRepr (wOp oMul (wLst (waCons (wCall 1 S__law_string E (waCons (wVar 2) waNil)) (waCons (wCall 1 S__law_string E (waCons (wVar 3) waNil)) waNil))) (wC (.int 2))))) (wSeq (wRet (wC (.bl false))) wNil) wNil) (wSeq (wSet 5 (wLst (waCons (wCall 1 S__law_string E (waCons (wVar 2) waNil)) (waCons (wCall 1 S__law_string E (waCons (wVar 3) waNil)) (waCons (wCall 2 S__law_spoilt E (waCons (wVar 1) (waCons (wOp oIx (wVar 4) (wC (.int 0))) waNil))) (waCons (wCall 2 S__law_spoilt E (waCons (wVar 1) (waCons (wOp oIx (wVar 4) (wC (.int 1))) waNil))) waNil)))))) (wSeq (wSetN 5 (wnCat (wVar 5) (wLst (waCons (wCall 2 S__law_spoilt E (waCons (wVar 1) (waCons (wOp oIx (wVar 4) (wC (.int 1))) waNil))) (waCons (wSlice (wOp oMulS (wOp oIx (wVar 4) (wC (.int 0))) (wC (.int 65))) woNone (woSome (wOp oAdd (wC (.int 64)) (wCall 2 S__law_draw E (waCons (wVar 1) (waCons (wC (.int 2)) waNil)))))) waNil))))) (wMid (wIf (wtCmp oEq (wCall 2 S__law_draw E (waCons (wVar 1) (waCons (wC (.int 8)) waNil))) (wC (.int 0))) (wSeq (wAppend 5 (wSlice (wOp oMulS (wOp oIx (wVar 4) (wC (.int 0))) (wC (.int 2001))) woNone (woSome (wOp oAdd (wC (.int 2000)) (wCall 2 S__law_draw E (waCons (wVar 1) (waCons (wC (.int 2)) waNil))))))) wNil) wNil) (wFrz 5 (wMid (wFor (wiEnumL (wVar 5)) (wgTwo 6 7) (wSeq (wSet 4 (wLst (waCons (wCall 3 S__law_told E (waCons (wVar 7) (waCons (wC .non) (waCons (wCmp oEq (wVar 6) (wC (.int 2))) waNil)))) (waCons (wCall 3 S__law_told E (waCons (wVar 7) (waCons (wVar 2) (waCons (wCmp oEq (wVar 6) (wC (.int 3))) waNil)))) waNil)))) (wSeq (wIf (wtCmp oNe (wOp1 oRepr (wVarQ 4)) (wOp1 oRepr (wLst (waCons (wCall 2 S__law_due E (waCons (wVar 7) (waCons (wC .non) waNil))) (waCons (wCall 2 S__law_due E (waCons (wVar 7) (waCons (wVar 2) waNil))) waNil))))) (wSeq (wRet (wC (.bl false))) wNil) wNil) wNil))) (wSeq (wRet (wC (.bl true))) wNil)))))))))
theorem vc_law_k03 {a u : Addr} : w_law_k03 (sp__law_tableB u) (sp__law_pickW u) (sp__law_textB u) (sp__law_draw u) (sp_table_text u) (sp_letters_text u) (sp__law_string u) (sp__law_spoilt u) (sp__law_told03 u) (sp__law_due u) (fun _ _ _ => False) [.dat (.ad a), .dat (.ad u), .un, .un, .un, .un, .un, .un] { nx := fun _ => False, rt := fun d => d = .bl true } := by
  simp_arith
  refine ⟨_, [.int 12, .int 12, .int 64], rfl, rfl, by simp, by simp, fun d hd => ?_⟩
  have hd : ∃ m : Int, d = .int m ∧ 1 ≤ m ∧ m ≤ 64 := by
    simp only [List.mem_cons, List.not_mem_nil, or_false] at hd
    rcases hd with rfl | rfl | rfl <;> exact ⟨_, rfl, by decide, by decide⟩
  obtain ⟨m, rfl, m1, m64⟩ := hd
  refine ⟨m, rfl, m1, m64, fun ns ht => ?_⟩
  have hn := ht.ne
  have hf := ht.few
  have hnn : ns ≠ [] := by intro z; subst z; simp at hn
  clear m1 m64
  simp_arith
  refine ⟨13, rfl, by decide, by decide, fun r r0 r1 => ?_⟩
  refine ⟨ns, r, rfl, hnn, by omega, by omega, by omega, fun ks hk hkl => ?_⟩
  have hkl : ks.length ≤ 12 := by omega
  clear r0 r1
  simp_arith
  have hkb : ∀ k ∈ ks, 0 ≤ k ∧ k ≤ 25 := fun k h => ht.le k (hk k h)
  have sT : ∀ (P : D → Prop) (X : Addr → Option (Str × D) → Prop), P (.str (txtS ns)) → sp_signs_of u [.tup (ns.map D.int)] P X := fun P X h => ⟨ns, rfl, ht.le, by omega, h⟩
  have sX : ∀ (P : D → Prop) (X : Addr → Option (Str × D) → Prop), P (.str (txtS ks)) → sp_signs_of u [.tup (ks.map D.int)] P X := fun P X h => ⟨ks, rfl, hkb, by omega, h⟩
  have cb : ∀ {qs : List Int}, (∀ k ∈ qs, 0 ≤ k ∧ k ≤ 25) → ∀ c ∈ (txtS qs).cps.toList, c < 16 ^ 8 := fun hq c hc => by
    rw [txtS_tl] at hc
    obtain ⟨k, h1, rfl⟩ := List.mem_map.mp hc
    have := hq k h1
    unfold codeS
    omega
  have rT : Rk (.str (txtS ns)) 1000 1 := (rk_str (k := 1) (cb ht.le)).le (by rw [txtS_len]; omega) (Nat.le_refl _)
  have rX : Rk (.str (txtS ks)) 1000 1 := (rk_str (k := 1) (cb hkb)).le (by rw [txtS_len]; omega) (Nat.le_refl _)
  have s4 : Shown (.lst [.str (txtS ns), .str (txtS ks), .str (txtS ns), .str (txtS ks)]) := .inl ⟨_, _, rk_lst (rka_cons rT (rka_cons rX (rka_cons rT (rka_cons rX rka_nil)))), by omega, by omega⟩
  have l1 := txtS_len ns
  have l2 := txtS_len ks
  generalize txtS ns = tt at sT rT s4 l1
  generalize txtS ks = tx at sX rX s4 l2
  clear cb
  refine sT _ _ (sX _ _ (sT _ _ (sX _ _ ?_)))
  refine ⟨s4, ?_⟩
  refine sT _ _ (sX _ _ ?_)
  have e2 : (List.replicate (Int.toNat 2) [D.str tt, D.str tx]).flatten = [D.str tt, D.str tx, D.str tt, D.str tx] := rfl
  rw [e2]
  refine ⟨by decide, by decide, by decide, s4, ?_⟩
  refine oNe_strT3 ⟨fun c => (by cases c), fun _ => ?_⟩
  refine sT _ _ (sX _ _ (oIx_l (j := 0) rfl ⟨tt, rfl, by omega, fun v1 hv1 => oIx_l (j := 1) rfl ⟨tx, rfl, by omega, fun v2 hv2 => oIx_l (j := 1) rfl ⟨tx, rfl, by omega, fun v3 hv3 => oIx_l (j := 0) rfl ?_⟩⟩⟩))
  simp_arith
  refine ⟨by decide, by decide, by omega, (show tt.length * 65 ≤ 16777216 by omega), 2, rfl, by decide, by decide, fun q q0 q1 => ?_⟩
  simp_arith
  refine ⟨by rw [repS_len]; show 65 * tt.length ≤ 16777216; omega, ?_⟩
  have okS : ∀ s : Str, s.length ≤ 1000 → okV (.str s) := fun s h => ⟨rfl, fun s' e => by injection e with e; rw [← e]; omega⟩
  have okR : ∀ (n : Nat) (hi : Option Int), n ≤ 2001 → okV (.str (cutS (repS tt n) none hi)) := fun n hi hn => ⟨rfl, fun s' e => by
    injection e with e
    have h1 := cutS_length (repS tt n) none hi
    have h2 : n * tt.length ≤ 2001 * 64 := Nat.mul_le_mul hn (by omega)
    rw [repS_len] at h1
    rw [← e]
    omega⟩
  refine ⟨fun Γ => ∃ vs : List D, (∀ d ∈ vs, okV d) ∧ vs.length ≤ 10 ∧ Γ = [.dat (.ad a), .dat (.ad u), .dat (.tup (ns.map D.int)), .dat (.tup (ks.map D.int)), .dat (.lst [.str tt, .str tx, .str tt, .str tx]), .own vs, .un, .un], ?_, ?_⟩
  · simp_arith
    refine ⟨8, rfl, by decide, by decide, fun r r0 r1 => ?_⟩
    simp_arith
    have six : ∀ d ∈ [D.str tt, .str tx, v1, v2, v3, .str (cutS (repS tt (Int.toNat 65)) none (some (64 + q)))], okV d := fun d hd => by
      simp only [List.mem_cons, List.not_mem_nil, or_false] at hd
      rcases hd with rfl | rfl | rfl | rfl | rfl | rfl
      · exact okS _ (by omega)
      · exact okS _ (by omega)
      · exact hv1
      · exact hv2
      · exact hv3
      · exact okR _ _ (by decide)
    refine ⟨fun _ => oIx_l (j := 0) rfl ?_, fun _ => ⟨_, six, by simp, rfl⟩⟩
    simp_arith
    refine ⟨by decide, by decide, by omega, (show tt.length * 2001 ≤ 16777216 by omega), 2, rfl, by decide, by decide, fun q2 q20 q21 => ?_⟩
    simp_arith
    refine ⟨by rw [repS_len]; show 2001 * tt.length ≤ 16777216; omega, _, fun d hd => ?_, ?_, rfl⟩
    · rcases List.mem_append.mp (show d ∈ [D.str tt, .str tx, v1, v2, v3, .str (cutS (repS tt (Int.toNat 65)) none (some (64 + q)))] ++ [.str (cutS (repS tt (Int.toNat 2001)) none (some (2000 + q2)))] from hd) with h | h
      · exact six d h
      · rw [List.mem_singleton.mp h]
        exact okR _ _ (by decide)
    · simp
  rintro Γ ⟨vs, hv, vl, rfl⟩
  clear sT sX rT rX s4 okS okR hv1 hv2 hv3
  simp_arith
  refine ⟨fun Γ => ∃ (s4 s6 s7 : Sl), Γ = [.dat (.ad a), .dat (.ad u), .dat (.tup (ns.map D.int)), .dat (.tup (ks.map D.int)), s4, .dat (.lst vs), s6, s7], ?_, ?_⟩
  · simp_arith [wFor]
    refine ⟨fun _ Γ => ∃ (s4 s6 s7 : Sl), Γ = [.dat (.ad a), .dat (.ad u), .dat (.tup (ns.map D.int)), .dat (.tup (ks.map D.int)), s4, .dat (.lst vs), s6, s7], ⟨_, _, _, rfl⟩, ?_, fun _ h => h⟩
    rintro i x Γ hx ⟨s4, s6, s7, rfl⟩
    obtain ⟨d, hd, rfl⟩ := enumAt hx
    obtain ⟨d1, d2⟩ := hv d (List.mem_of_getElem? hd)
    simp_arith
    refine ⟨d, none, _, rfl, d1, d2, d, some ns, _, rfl, d1, d2, ?_⟩
    simp_arith [oRepr]
    have sh : Shown (.lst [dueS none d, dueS (some ns) d]) := .inl ⟨_, _, rk_lst (rka_cons rk_dueS (rka_cons rk_dueS rka_nil)), by decide, by decide⟩
    refine ⟨sh, d, none, rfl, d1, d2, d, some ns, rfl, d1, d2, sh, ?_⟩
    exact ⟨fun c => (by simp at c), fun _ => ⟨_, _, _, rfl⟩⟩
  rintro Γ ⟨s4, s6, s7, rfl⟩
  simp_arith
end V
namespace K03
open PySem PySem.Spec PyProof.Rows L2 U
def topS (i : Nat) : Stmt := PySem.Challenge.pw_unpassed_k03_tables_and_texts_as_strings.main.body.getD i (.Pass ⟨0, 0, 0, 0⟩)
abbrev sDraw : Stmt := topS 25
theorem scDraw : FnScope ["bag", "many", "digit", "found"] ["bag", "many"] (defScope sDraw) := ⟨rfl, rfl, rfl, by decide +kernel, rfl, by decide +kernel, by decide +kernel⟩
abbrev kG : L2.Key := .inr "great"
abbrev kM : L2.Key := .inr "mixed"
abbrev kT : L2.Key := .inr "turn"
def dU (g : Addr) (st n : Int) : List (L2.Key × V) := [(kG, .ref g), (kM, .int st), (kT, .int n)]
def UJ (u g : Addr) (H : Hw) : Prop := ∃ (ws : List Int) (st n : Int), H u = some (.dK (dU g st n)) ∧ H g = some (.lst (ws.map V.int))
def urnVol (u g : Addr) : Vol where
  T := fun a => a = u ∨ a = g
  J := UJ u g
  keep := fun ⟨ws, st, n, h1, h2⟩ k => ⟨ws, st, n, by rw [k u (.inl rfl)]; exact h1, by rw [k g (.inr rfl)]; exact h2⟩
  known := fun ⟨ws, st, n, h1, h2⟩ t => by
    rcases t with rfl | rfl
    · rw [h1]; simp
    · rw [h2]; simp
theorem nGM : ¬ kG = kM := by decide
theorem nGT : ¬ kG = kT := by decide
theorem nMT : ¬ kM = kT := by decide
theorem gG {H : Hw} {u g : Addr} {st n : Int} (h : H u = some (.dK (dU g st n))) : DGet H u (.str "great") (some (.ref g)) := by
  have z := DGet.k (k := kG) h
  have e : valV (dU g st n) kG = some (.ref g) := valV_pos rfl
  rw [e] at z
  exact z
theorem gM {H : Hw} {u g : Addr} {st n : Int} (h : H u = some (.dK (dU g st n))) : DGet H u (.str "mixed") (some (.int st)) := by
  have z := DGet.k (k := kM) h
  have e : valV (dU g st n) kM = some (.int st) := (valV_neg nGM).trans (valV_pos rfl)
  rw [e] at z
  exact z
theorem gT {H : Hw} {u g : Addr} {st n : Int} (h : H u = some (.dK (dU g st n))) : DGet H u (.str "turn") (some (.int n)) := by
  have z := DGet.k (k := kT) h
  have e : valV (dU g st n) kT = some (.int n) := (valV_neg nGT).trans ((valV_neg nMT).trans (valV_pos rfl))
  rw [e] at z
  exact z
theorem pT {g : Addr} {st n k : Int} : putK (dU g st n) kT (.int k) = dU g st k := by
  unfold putK
  rw [if_pos (by simp [dU])]
  show [if kG = kT then (kG, V.int k) else (kG, V.ref g), if kM = kT then (kM, V.int k) else (kM, V.int st), if kT = kT then (kT, V.int k) else (kT, V.int n)] = _
  rw [if_neg nGT, if_neg nMT, if_pos rfl]
  rfl
section
variable {P : Program} {w : World} {K : PySem.W.Frag} {mg : Str → Option Value} {base : Heap} {u dp : Addr}
theorem ok_draw (F : At K mg "_law_draw" sDraw) (mI : mg "int" = none) : Df P w K mg base "_law_draw" sDraw 1 2 ["bag", "many"] (urnVol u dp) (V.sp__law_draw u) := by
  obtain ⟨f, fd, F, hm⟩ := F
  refine ⟨⟨f, fd, F, hm, ?_⟩, fun f fd F => F.binds fun _ _ _ _ _ _ us hl => match us, hl with | [_, _], _ => rfl⟩
  obtain ⟨oc, od, kV, doc, pm, an, cdv, ct, osl, rfl, lk, hcd⟩ := F.ex
  refine fn_ofG (k := 0) lk hcd scDraw (fun vs H Q E ⟨M, ds, _, _, _, _, _, r, e, _⟩ => by rw [r.length, e]; rfl) fun A outer s H vs Q E hr hgd hsp => ?_
  obtain ⟨M, ds, Pd, X, tm, kn, j, r, e, ⟨m, rfl, hm1, hm2, hS⟩, q, qx⟩ := hsp
  cases r with
  | cons r1 r =>
    cases r with
    | cons r2 r =>
      cases r
      cases r1
      cases r2
      have hu := hu_of hr
      have h64 := hr.units
      have nd := scDraw.nd
      have m0 : (0 : Int) < m := by omega
      refine vb_mid (fun σ' H' => σ' = [some (.ref u), some (.int m), none, none] ∧ ∃ (ws : List Int) (st n : Int), H' u = some (.dK (dU dp st n)) ∧ H' dp = some (.lst (ws.map V.int)) ∧ ∀ a o, ¬ (urnVol u dp).T a → H a = some o → H' a = some o)
        (outS (ps_while (passes_of rfl) (PW.pt (pw_and (pt_cmpR (op_neD h64) (pe_dget hu (pv 0) pe_str (fun _ _ => rfl)) (pe_lst pa_nil) (nomark _)) (pw_and1 (pt_cmpR op_eq (pe_ix ix_list (pe_dget hu (pv 0) pe_str (fun _ _ => rfl)) (pe_un un_neg pe_int) (fun _ _ => rfl)) pe_int (nomark _)))))
          (pss_one (ps_expr (pe_bm0 PySem.F.plainAttrs_list PySem.F.slot_list_pop PySem.F.type_list_pop mt_pop (pe_dget hu (pv 0) pe_str (fun _ _ => rfl)))))) ?_) ?_
      · obtain ⟨ws, st, n, h1, h2⟩ := j
        refine ⟨fun k σ' H' => σ' = [some (.ref u), some (.int m), none, none] ∧ ∃ (ws : List Int) (st n : Int), k = ws.length ∧ H' u = some (.dK (dU dp st n)) ∧ H' dp = some (.lst (ws.map V.int)) ∧ ∀ a o, ¬ (urnVol u dp).T a → H a = some o → H' a = some o, ⟨_, rfl, ws, st, n, rfl, h1, h2, fun _ _ _ e => e⟩, ?_⟩
        clear h1 h2
        rintro k σ' H1 ⟨rfl, ws, st, n, rfl, h1, h2, fr⟩
        refine ⟨.ref u, rfl, u, .ref dp, rfl, gG h1, by decide, fun l hl => ?_⟩
        have g : Grow H1 (upd H1 l (.lst [])) := Grow.new hl
        refine ⟨.list (ws.map PyData.int), .list [], .lst (sql_of (g _ _ h2)) (dpa_ints ws), .lst (sql_of upd_same) .nil, PySem.W.shaped_ints ws, PySem.W.shaped_ints [], _, rfl, ?_⟩
        have ev := eqv_lint ws []
        rw [List.map_nil] at ev
        rw [ev]
        by_cases hw : ws = []
        · rw [decide_eq_true hw]
          refine iteF ?_
          refine iteF ?_
          exact ⟨rfl, ws, st, n, g _ _ h1, g _ _ h2, fun a o t e => g _ _ (fr a o t e)⟩
        · rw [decide_eq_false hw]
          refine iteT ?_
          obtain ⟨ws0, wl, rfl⟩ : ∃ a b, ws = a ++ [b] := by
            rcases List.eq_nil_or_concat ws with h | ⟨a, b, h⟩
            · exact absurd h hw
            · exact ⟨a, b, by simpa using h⟩
          have al : atI ((ws0 ++ [wl]).map V.int) (-1) = some (V.int wl) := by rw [List.map_append]; exact atI_last _ _
          refine ⟨.ref u, rfl, u, .ref dp, rfl, gG (g _ _ h1), 1, rfl, dp, _, -1, _, rfl, rfl, sql_of (g _ _ h2), al, rfl, _, rfl, ?_⟩
          by_cases hz : V.int wl = V.int 0
          · rw [decide_eq_true hz]
            refine iteT ⟨fun σ' H' => σ' = [some (.ref u), some (.int m), none, none] ∧ ∃ (ws' : List Int) (st n : Int), ws'.length < (ws0 ++ [wl]).length ∧ H' u = some (.dK (dU dp st n)) ∧ H' dp = some (.lst (ws'.map V.int)) ∧ ∀ a o, ¬ (urnVol u dp).T a → H a = some o → H' a = some o, fun σ' H' ⟨e, ws', st, n, hl2, k1, k2, k3⟩ => ⟨_, hl2, e, ws', st, n, rfl, k1, k2, k3⟩, ?_⟩
            have hlast : ((ws0 ++ [wl]).map V.int)[((ws0 ++ [wl]).map V.int).length - 1]? = some (.int wl) := by simp
            have hdrop : ((ws0 ++ [wl]).map V.int).dropLast = ws0.map V.int := by simp
            have ne : dp ≠ u := fun z => by rw [z, h1] at h2; cases h2
            refine ⟨.ref u, rfl, u, .ref dp, rfl, gG (g _ _ h1), .inl ⟨rfl, _, sql_of (g _ _ h2)⟩, dp, _, _, rfl, rfl, g _ _ h2, hlast, ?_⟩
            rw [hdrop]
            refine ⟨rfl, ws0, st, n, by simp, ?_, upd_same, fun a o t e => ?_⟩
            · rw [upd_ne fun z => ne z.symm]
              exact g _ _ h1
            · rw [upd_ne fun z => t (.inr z)]
              exact g _ _ (fr a o t e)
          · rw [decide_eq_false hz]
            refine iteF ?_
            exact ⟨rfl, _, st, n, g _ _ h1, g _ _ h2, fun a o t e => g _ _ (fr a o t e)⟩
      · clear j
        rintro σ' H1 ⟨rfl, ws, st, n, h1, h2, fr⟩
        have ne : dp ≠ u := fun z => by rw [z, h1] at h2; cases h2
        refine outB (pss_cons (ps_if (pt_cmpR (op_neD h64) (pe_dget hu (pv 0) pe_str (fun _ _ => rfl)) (pe_lst pa_nil) (nomark _))
            (pss_cons (ps_set (i := 2) nd rfl (Or.inl rfl) (pe_op op_mod (pe_ix ix_list (pe_dget hu (pv 0) pe_str (fun _ _ => rfl)) (pe_un un_neg pe_int) (fun _ _ => rfl)) (pv 1)))
              (pss_cons (ps_asg (pe_op op_fdivW (pe_ix ix_list (pe_dget hu (pv 0) pe_str (fun _ _ => rfl)) (pe_un un_neg pe_int) (fun _ _ => rfl)) (pv 1)) (pg_sub (pe_dget hu (pv 0) pe_str (fun _ _ => rfl)) (pe_un un_neg pe_int) set_list))
                (pss_one (ps_ret (pe_callTy call_int1 rfl mI (by decide +kernel) (pa_cons (pv 2) pa_nil))))))
            pss_nil)
          (pss_cons (ps_dput hu (pv 0) pe_str (pe_op op_add (pe_dget hu (pv 0) pe_str (fun _ _ => rfl)) pe_int) rfl)
          (pss_cons (ps_set (i := 3) nd rfl (Or.inl rfl) (pe_op op_mod (pe_callTy call_int1 rfl mI (by decide +kernel) (pa_cons (pe_op op_add (pe_dget hu (pv 0) pe_str (fun _ _ => rfl)) (pe_op op_mul (pe_dget hu (pv 0) pe_str (fun _ _ => rfl)) pe_int)) pa_nil)) pe_int))
          (pss_cons (ps_set (i := 3) nd rfl (Or.inl rfl) (pe_op op_mod (pe_callTy call_int1 rfl mI (by decide +kernel) (pa_cons (pe_op op_add (pe_op op_add (pe_op op_mul (pv 3) (pv 3)) (pe_op op_mul (pe_dget hu (pv 0) pe_str (fun _ _ => rfl)) pe_int)) pe_int) pa_nil)) pe_int))
          (pss_cons (ps_set (i := 3) nd rfl (Or.inl rfl) (pe_op op_mod (pe_callTy call_int1 rfl mI (by decide +kernel) (pa_cons (pe_op op_add (pe_op op_mul (pv 3) (pv 3)) (pe_dget hu (pv 0) pe_str (fun _ _ => rfl))) pa_nil)) pe_int))
          (pss_one (ps_ret (pe_op op_mod (pe_callTy call_int1 rfl mI (by decide +kernel) (pa_cons (pe_op op_fdivW (pv 3) pe_int) pa_nil)) (pv 1))))))))) ?_
        refine ⟨.ref u, rfl, u, .ref dp, rfl, gG h1, by decide, fun l hl => ?_⟩
        have g : Grow H1 (upd H1 l (.lst [])) := Grow.new hl
        refine ⟨.list (ws.map PyData.int), .list [], .lst (sql_of (g _ _ h2)) (dpa_ints ws), .lst (sql_of upd_same) .nil, PySem.W.shaped_ints ws, PySem.W.shaped_ints [], _, rfl, ?_⟩
        have ev := eqv_lint ws []
        rw [List.map_nil] at ev
        rw [ev]
        by_cases hw : ws = []
        · rw [decide_eq_true hw]
          refine iteF ?_
          refine ⟨.ref u, rfl, u, .int n, rfl, gT (g _ _ h1), n, 1, rfl, rfl, .ref u, rfl, u, _, rfl, DPut.k (k := kT) (g _ _ h1) (show 3 < sizeLine by decide), ?_⟩
          rw [pT]
          have hu2 : (upd (upd H1 l (.lst [])) u (.dK (dU dp st (n + 1)))) u = some (.dK (dU dp st (n + 1))) := upd_same
          refine ⟨.ref u, rfl, u, .int st, rfl, gM hu2, .ref u, rfl, u, .int (n + 1), rfl, gT hu2, n + 1, 40692, rfl, rfl, .inr ⟨by decide, by decide⟩, _, _, rfl, rfl, .inl ⟨_, rfl, _, _, rfl, rfl, (show (0 : Int) < 2147483399 by decide), ?_⟩⟩
          have x0 : 0 ≤ (st + (n + 1) * 40692) % 2147483399 := Int.emod_nonneg _ (by decide)
          have x1 : (st + (n + 1) * 40692) % 2147483399 < 2147483399 := Int.emod_lt_of_pos _ (by decide)
          refine ⟨_, rfl, _, rfl, _, _, rfl, rfl, .inl ⟨Int.lt_of_lt_of_le (by decide) x0, Int.lt_trans x1 (by decide)⟩, .ref u, rfl, u, .int (n + 1), rfl, gT hu2, n + 1, 69621, rfl, rfl, .inr ⟨by decide, by decide⟩, _, _, rfl, rfl, _, _, rfl, rfl, .inl ⟨_, rfl, _, _, rfl, rfl, (show (0 : Int) < 2147483647 by decide), ?_⟩⟩
          have y0 : 0 ≤ ((st + (n + 1) * 40692) % 2147483399 * ((st + (n + 1) * 40692) % 2147483399) + (n + 1) * 69621 + 5) % 2147483647 := Int.emod_nonneg _ (by decide)
          have y1 : ((st + (n + 1) * 40692) % 2147483399 * ((st + (n + 1) * 40692) % 2147483399) + (n + 1) * 69621 + 5) % 2147483647 < 2147483647 := Int.emod_lt_of_pos _ (by decide)
          refine ⟨_, rfl, _, rfl, _, _, rfl, rfl, .inl ⟨Int.lt_of_lt_of_le (by decide) y0, Int.lt_trans y1 (by decide)⟩, .ref u, rfl, u, .int st, rfl, gM hu2, _, _, rfl, rfl, .inl ⟨_, rfl, _, _, rfl, rfl, (show (0 : Int) < 2147483629 by decide), ?_⟩⟩
          refine ⟨_, rfl, _, _, rfl, rfl, (show (0 : Int) < 64 ∧ (64 : Int).natAbs.log2 < 9000 from ⟨by decide, by decide⟩), .inl ⟨_, rfl, .int m, rfl, _, m, rfl, rfl, m0, ?_⟩⟩
          refine q _ (.int _) _ (fun a o t e => ?_) ⟨ws, st, n + 1, hu2, ?_⟩ (.int _) (hS _ (Int.emod_nonneg _ (by omega)) (Int.emod_lt_of_pos _ m0))
          · rw [upd_ne fun z => t (.inl z)]
            exact g _ _ (fr a o t e)
          · rw [upd_ne ne]
            exact g _ _ h2
        · rw [decide_eq_false hw]
          refine iteT ?_
          obtain ⟨ws0, wl, rfl⟩ : ∃ a b, ws = a ++ [b] := by
            rcases List.eq_nil_or_concat ws with h | ⟨a, b, h⟩
            · exact absurd h hw
            · exact ⟨a, b, by simpa using h⟩
          have al : atI ((ws0 ++ [wl]).map V.int) (-1) = some (V.int wl) := by rw [List.map_append]; exact atI_last _ _
          have ix : ixN ((ws0 ++ [wl]).map V.int).length (-1) = some ws0.length := by
            rw [List.length_map, List.length_append]
            unfold ixN
            rw [if_neg (by decide), if_pos (by simp; omega)]
            congr 1
            simp
            omega
          have es : ((ws0 ++ [wl]).map V.int).set ws0.length (V.int (wl / m)) = (ws0 ++ [wl / m]).map V.int := by
            rw [List.map_append, List.map_append, List.set_append_right _ _ (by rw [List.length_map]; exact Nat.le_refl _), List.length_map, Nat.sub_self]
            rfl
          refine ⟨.ref u, rfl, u, .ref dp, rfl, gG (g _ _ h1), 1, rfl, dp, _, -1, _, rfl, rfl, sql_of (g _ _ h2), al, .int m, rfl, wl, m, rfl, rfl, m0, ?_⟩
          refine ⟨.ref u, rfl, u, .ref dp, rfl, gG (g _ _ h1), 1, rfl, dp, _, -1, _, rfl, rfl, sql_of (g _ _ h2), al, .int m, rfl, wl, m, rfl, rfl, wide_div m0 (b := 200) (by omega) (by decide) (by decide), .ref u, rfl, u, .ref dp, rfl, gG (g _ _ h1), 1, rfl, dp, _, -1, _, rfl, rfl, g _ _ h2, ix, ?_⟩
          rw [es]
          refine ⟨.int (wl % m), rfl, .inl ⟨_, rfl, ?_⟩⟩
          refine q _ (.int _) _ (fun a o t e => ?_) ⟨ws0 ++ [wl / m], st, n, ?_, upd_same⟩ (.int _) (hS _ (Int.emod_nonneg _ (by omega)) (Int.emod_lt_of_pos _ m0))
          · rw [upd_ne fun z => t (.inr z)]
            exact g _ _ (fr a o t e)
          · rw [upd_ne fun z => ne z.symm]
            exact g _ _ h1
theorem uj_of {M : Ex} {H : Hw} {v : V} {d : D} (r : Rp M H v d) (h : V.BagD d) : ∃ u g, v = .ref u ∧ UJ u g H := by
  obtain ⟨ws, st, rfl⟩ := h
  cases r with
  | dic e1 n1 r1 =>
    cases r1 with
    | cons a1 r2 =>
      cases r2 with
      | cons a2 r3 =>
        cases r3 with
        | cons a3 r4 =>
          cases r4
          cases a2
          cases a3
          cases a1 with
          | lst e2 n2 rr =>
            rw [rr.ints_] at e2
            exact ⟨_, _, rfl, ws, st, 0, e1, e2⟩
end
end K03
namespace K03
open PySem PySem.Spec PyProof.Rows L2 U
abbrev s_is_whole : Stmt := topS 7
abbrev s_is_within : Stmt := topS 8
abbrev s_is_tuple : Stmt := topS 9
abbrev s_is_letter : Stmt := topS 10
abbrev s_is_letter_of : Stmt := topS 11
abbrev s_table_error : Stmt := topS 13
abbrev s_text_error : Stmt := topS 14
abbrev s_table_text : Stmt := topS 17
abbrev s_letters_text : Stmt := topS 18
abbrev s_read_table : Stmt := topS 19
abbrev s_read_letters : Stmt := topS 20
abbrev s_signs_of : Stmt := topS 21
abbrev s_letters_behind : Stmt := topS 22
abbrev s__law_bag : Stmt := topS 24
abbrev s__law_pick : Stmt := topS 26
abbrev s__law_mixed : Stmt := topS 27
abbrev s__law_table : Stmt := topS 28
abbrev s__law_text : Stmt := topS 29
abbrev s__law_string : Stmt := topS 30
abbrev s__law_due : Stmt := topS 31
abbrev s__law_told : Stmt := topS 32
abbrev s__law_spoilt : Stmt := topS 33
abbrev s_law : Stmt := topS 34
abbrev s__law_draw : Stmt := sDraw
theorem sc_is_whole : FnScope ["value"] ["value"] (defScope s_is_whole) := ⟨rfl, rfl, rfl, by decide +kernel, rfl, by decide +kernel, by decide +kernel⟩
theorem sc_is_within : FnScope ["value", "least", "most"] ["value", "least", "most"] (defScope s_is_within) := ⟨rfl, rfl, rfl, by decide +kernel, rfl, by decide +kernel, by decide +kernel⟩
theorem sc_is_tuple : FnScope ["value", "least", "most"] ["value", "least", "most"] (defScope s_is_tuple) := ⟨rfl, rfl, rfl, by decide +kernel, rfl, by decide +kernel, by decide +kernel⟩
theorem sc_is_letter : FnScope ["value"] ["value"] (defScope s_is_letter) := ⟨rfl, rfl, rfl, by decide +kernel, rfl, by decide +kernel, by decide +kernel⟩
theorem sc_is_letter_of : FnScope ["table", "value"] ["table", "value"] (defScope s_is_letter_of) := ⟨rfl, rfl, rfl, by decide +kernel, rfl, by decide +kernel, by decide +kernel⟩
theorem sc_table_error : FnScope ["value", "place", "item"] ["value"] (defScope s_table_error) := ⟨rfl, rfl, rfl, by decide +kernel, rfl, by decide +kernel, by decide +kernel⟩
theorem sc_text_error : FnScope ["table", "value", "place", "item"] ["table", "value"] (defScope s_text_error) := ⟨rfl, rfl, rfl, by decide +kernel, rfl, by decide +kernel, by decide +kernel⟩
theorem sc_table_text : FnScope ["table"] ["table"] (defScope s_table_text) := ⟨rfl, rfl, rfl, by decide +kernel, rfl, by decide +kernel, by decide +kernel⟩
theorem sc_letters_text : FnScope ["text"] ["text"] (defScope s_letters_text) := ⟨rfl, rfl, rfl, by decide +kernel, rfl, by decide +kernel, by decide +kernel⟩
theorem sc_read_table : FnScope ["value", "table"] ["value"] (defScope s_read_table) := ⟨rfl, rfl, rfl, by decide +kernel, rfl, by decide +kernel, by decide +kernel⟩
theorem sc_read_letters : FnScope ["table", "value", "text"] ["table", "value"] (defScope s_read_letters) := ⟨rfl, rfl, rfl, by decide +kernel, rfl, by decide +kernel, by decide +kernel⟩
theorem sc_signs_of : FnScope ["letters", "letter"] ["letters"] (defScope s_signs_of) := ⟨rfl, rfl, rfl, by decide +kernel, rfl, by decide +kernel, by decide +kernel⟩
theorem sc_letters_behind : FnScope ["value", "sign"] ["value"] (defScope s_letters_behind) := ⟨rfl, rfl, rfl, by decide +kernel, rfl, by decide +kernel, by decide +kernel⟩
theorem sc__law_bag : FnScope ["script", "great", "mixed", "cell"] ["script"] (defScope s__law_bag) := ⟨rfl, rfl, rfl, by decide +kernel, rfl, by decide +kernel, by decide +kernel⟩
theorem sc__law_pick : FnScope ["bag", "items"] ["bag", "items"] (defScope s__law_pick) := ⟨rfl, rfl, rfl, by decide +kernel, rfl, by decide +kernel, by decide +kernel⟩
theorem sc__law_mixed : FnScope ["bag", "items", "rest", "found"] ["bag", "items"] (defScope s__law_mixed) := ⟨rfl, rfl, rfl, by decide +kernel, rfl, by decide +kernel, by decide +kernel⟩
theorem sc__law_table : FnScope ["bag", "most", "way", "letters", "counts", "turn", "cells", "letter", "many", "rest", "own", "again"] ["bag", "most"] (defScope s__law_table) := ⟨rfl, rfl, rfl, by decide +kernel, rfl, by decide +kernel, by decide +kernel⟩
theorem sc__law_text : FnScope ["bag", "table", "many", "turn"] ["bag", "table", "many"] (defScope s__law_text) := ⟨rfl, rfl, rfl, by decide +kernel, rfl, by decide +kernel, by decide +kernel⟩
theorem sc__law_string : FnScope ["row", "letter"] ["row"] (defScope s__law_string) := ⟨rfl, rfl, rfl, by decide +kernel, rfl, by decide +kernel, by decide +kernel⟩
theorem sc__law_due : FnScope ["value", "table", "sign", "row", "own"] ["value", "table"] (defScope s__law_due) := ⟨rfl, rfl, rfl, by decide +kernel, rfl, by decide +kernel, by decide +kernel⟩
theorem sc__law_told : FnScope ["value", "table", "is_named"] ["value", "table", "is_named"] (defScope s__law_told) := ⟨rfl, rfl, rfl, by decide +kernel, rfl, by decide +kernel, by decide +kernel⟩
theorem sc__law_spoilt : FnScope ["bag", "string", "way", "place", "sign"] ["bag", "string"] (defScope s__law_spoilt) := ⟨rfl, rfl, rfl, by decide +kernel, rfl, by decide +kernel, by decide +kernel⟩
theorem sc_law : FnScope ["script", "bag", "table", "text", "told", "values", "turn", "value"] ["script"] (defScope s_law) := ⟨rfl, rfl, rfl, by decide +kernel, rfl, by decide +kernel, by decide +kernel⟩
section
variable {P : Program} {w : World} {K : PySem.W.Frag} {mg : Str → Option Value} {base : Heap} {U : Vol} {u : Addr} {C_BadText : Addr} {C_RingError : Addr} {m_BadText : Addr → Option Bool} {m_RingError : Addr → Option Bool}
theorem ok_is_whole (F : At K mg "is_whole" s_is_whole) (m_bool : mg "bool" = none) (m_int : mg "int" = none) (m_isinstance : mg "isinstance" = none) : Df P w K mg base "is_whole" s_is_whole 1 1 ["value"] U (V.sp_is_whole u) := by
  refine df_mk F sc_is_whole rfl (by decide) (fun f fd F => F.binds fun _ _ _ _ _ _ us hl => match us, hl with | [_], _ => rfl) fun f cdv A outer s H E M ds Pd X bd hl hS => ?_
  refine SB.run (w := V.w_is_whole  (fun C fo _ => X C fo)) ?_ (V.vc_is_whole hS)
  refine sb_cons ?_ ?_
  refine ss_ret ?_
  refine se_and ?_ ?_
  refine se_isi (T' := "int") m_isinstance m_int rfl (by decide +kernel) ?_ rfl rfl
  refine sq_var 0 rfl (Or.inl rfl)
  refine se_one ?_
  refine se_not ?_
  refine se_isi (T' := "bool") m_isinstance m_bool rfl (by decide +kernel) ?_ rfl rfl
  refine sq_var 0 rfl (Or.inl rfl)
  refine sb_nil
theorem ok_is_within (F : At K mg "is_within" s_is_within) (F_is_whole : Df P w K mg base "is_whole" s_is_whole 1 1 ["value"] U (V.sp_is_whole u)) : Df P w K mg base "is_within" s_is_within 2 3 ["value", "least", "most"] U (V.sp_is_within u) := by
  refine df_mk F sc_is_within rfl (by decide) (fun f fd F => F.binds fun _ _ _ _ _ _ us hl => match us, hl with | [_, _, _], _ => rfl) fun f cdv A outer s H E M ds Pd X bd hl hS => ?_
  refine SB.run (w := V.w_is_within (V.sp_is_whole u) (fun C fo _ => X C fo)) ?_ (V.vc_is_within hS)
  refine sb_cons ?_ ?_
  refine ss_ret ?_
  refine se_and ?_ ?_
  refine se_def F_is_whole bd (by decide) ?_
  refine sa_cons ?_ ?_
  refine se_var 0 rfl (Or.inl rfl)
  refine sa_nil
  refine se_one ?_
  refine se_chain bd ck_le ck_le ?_ ?_ ?_
  refine se_var 1 rfl (Or.inl rfl)
  refine se_var 0 rfl (Or.inl rfl)
  refine se_var 2 rfl (Or.inl rfl)
  refine sb_nil
theorem ok_is_tuple (F : At K mg "is_tuple" s_is_tuple) (m_isinstance : mg "isinstance" = none) (m_len : mg "len" = none) (m_tuple : mg "tuple" = none) : Df P w K mg base "is_tuple" s_is_tuple 1 3 ["value", "least", "most"] U (V.sp_is_tuple u) := by
  refine df_mk F sc_is_tuple rfl (by decide) (fun f fd F => F.binds fun _ _ _ _ _ _ us hl => match us, hl with | [_, _, _], _ => rfl) fun f cdv A outer s H E M ds Pd X bd hl hS => ?_
  refine SB.run (w := V.w_is_tuple  (fun C fo _ => X C fo)) ?_ (V.vc_is_tuple hS)
  refine sb_cons ?_ ?_
  refine ss_ret ?_
  refine se_and ?_ ?_
  refine se_isi (T' := "tuple") m_isinstance m_tuple rfl (by decide +kernel) ?_ rfl rfl
  refine sq_var 0 rfl (Or.inl rfl)
  refine se_one ?_
  refine se_chain bd ck_le ck_le ?_ ?_ ?_
  refine se_var 1 rfl (Or.inl rfl)
  refine se_len m_len ?_
  refine sq_var 0 rfl (Or.inl rfl)
  refine se_var 2 rfl (Or.inl rfl)
  refine sb_nil
theorem ok_is_letter (F : At K mg "is_letter" s_is_letter) {t_MAX_LETTER : Tok} (g_MAX_LETTER : mg "MAX_LETTER" = some (.int 25 t_MAX_LETTER)) (F_is_within : Df P w K mg base "is_within" s_is_within 2 3 ["value", "least", "most"] U (V.sp_is_within u)) : Df P w K mg base "is_letter" s_is_letter 3 1 ["value"] U (V.sp_is_letter u) := by
  refine df_mk F sc_is_letter rfl (by decide) (fun f fd F => F.binds fun _ _ _ _ _ _ us hl => match us, hl with | [_], _ => rfl) fun f cdv A outer s H E M ds Pd X bd hl hS => ?_
  refine SB.run (w := V.w_is_letter (V.sp_is_within u) (fun C fo _ => X C fo)) ?_ (V.vc_is_letter hS)
  refine sb_cons ?_ ?_
  refine ss_ret ?_
  refine se_def F_is_within bd (by decide) ?_
  refine sa_cons ?_ ?_
  refine se_var 0 rfl (Or.inl rfl)
  refine sa_cons ?_ ?_
  refine se_int
  refine sa_cons ?_ ?_
  refine se_glob g_MAX_LETTER rfl
  refine sa_nil
  refine sb_nil
theorem ok_is_letter_of (F : At K mg "is_letter_of" s_is_letter_of) (F_is_letter : Df P w K mg base "is_letter" s_is_letter 3 1 ["value"] U (V.sp_is_letter u)) : Df P w K mg base "is_letter_of" s_is_letter_of 4 2 ["table", "value"] U (V.sp_is_letter_of u) := by
  refine df_mk F sc_is_letter_of rfl (by decide) (fun f fd F => F.binds fun _ _ _ _ _ _ us hl => match us, hl with | [_, _], _ => rfl) fun f cdv A outer s H E M ds Pd X bd hl hS => ?_
  refine SB.run (w := V.w_is_letter_of (V.sp_is_letter u) (fun C fo _ => X C fo)) ?_ (V.vc_is_letter_of hS)
  refine sb_cons ?_ ?_
  refine ss_ret ?_
  refine se_and ?_ ?_
  refine se_def F_is_letter bd (by decide) ?_
  refine sa_cons ?_ ?_
  refine se_var 1 rfl (Or.inl rfl)
  refine sa_nil
  refine se_one ?_
  refine se_cmp bd ck_in ?_ ?_
  refine se_var 1 rfl (Or.inl rfl)
  refine sq_var 0 rfl (Or.inl rfl)
  refine sb_nil
theorem ok_table_error (F : At K mg "table_error" s_table_error) (m_enumerate : mg "enumerate" = none) {t_MAX_CELLS : Tok} (g_MAX_CELLS : mg "MAX_CELLS" = some (.int 64 t_MAX_CELLS)) (F_is_tuple : Df P w K mg base "is_tuple" s_is_tuple 1 3 ["value", "least", "most"] U (V.sp_is_tuple u)) (F_is_letter : Df P w K mg base "is_letter" s_is_letter 3 1 ["value"] U (V.sp_is_letter u)) : Df P w K mg base "table_error" s_table_error 4 1 ["value"] U (V.sp_table_error u) := by
  refine df_mk F sc_table_error rfl (by decide) (fun f fd F => F.binds fun _ _ _ _ _ _ us hl => match us, hl with | [_], _ => rfl) fun f cdv A outer s H E M ds Pd X bd hl hS => ?_
  refine SB.run (w := V.w_table_error (V.sp_is_tuple u) (V.sp_is_letter u) (fun C fo _ => X C fo)) ?_ (V.vc_table_error hS)
  refine sb_cons ?_ ?_
  refine ss_if ?_ ?_ ?_
  refine st_not ?_
  refine st_val ?_
  refine se_def F_is_tuple bd (by decide) ?_
  refine sa_cons ?_ ?_
  refine se_var 0 rfl (Or.inl rfl)
  refine sa_cons ?_ ?_
  refine se_int
  refine sa_cons ?_ ?_
  refine se_glob g_MAX_CELLS rfl
  refine sa_nil
  refine sb_cons ?_ ?_
  refine ss_ret ?_
  refine se_str
  refine sb_nil
  refine sb_nil
  refine sb_mid ?_ ?_
  refine ss_for bd ?_ ?_ ?_
  refine si_enumT m_enumerate ?_
  refine se_var 0 rfl (Or.inl rfl)
  refine sg_two bd 1 2 rfl rfl (Or.inl rfl) (Or.inl rfl)
  refine sb_cons ?_ ?_
  refine ss_if ?_ ?_ ?_
  refine st_not ?_
  refine st_val ?_
  refine se_def F_is_letter bd (by decide) ?_
  refine sa_cons ?_ ?_
  refine se_var 2 rfl (Or.inl rfl)
  refine sa_nil
  refine sb_cons ?_ ?_
  refine ss_ret ?_
  refine se_tup ?_
  refine sa_cons ?_ ?_
  refine se_str
  refine sa_cons ?_ ?_
  refine se_var 1 rfl (Or.inl rfl)
  refine sa_nil
  refine sb_nil
  refine sb_nil
  refine sb_nil
  refine sb_cons ?_ ?_
  refine ss_ret ?_
  refine se_non
  refine sb_nil
theorem ok_text_error (F : At K mg "text_error" s_text_error) (m_enumerate : mg "enumerate" = none) {t_MAX_TEXT : Tok} (g_MAX_TEXT : mg "MAX_TEXT" = some (.int 2000 t_MAX_TEXT)) (F_is_tuple : Df P w K mg base "is_tuple" s_is_tuple 1 3 ["value", "least", "most"] U (V.sp_is_tuple u)) (F_is_letter_of : Df P w K mg base "is_letter_of" s_is_letter_of 4 2 ["table", "value"] U (V.sp_is_letter_of u)) : Df P w K mg base "text_error" s_text_error 5 2 ["table", "value"] U (V.sp_text_error u) := by
  refine df_mk F sc_text_error rfl (by decide) (fun f fd F => F.binds fun _ _ _ _ _ _ us hl => match us, hl with | [_, _], _ => rfl) fun f cdv A outer s H E M ds Pd X bd hl hS => ?_
  refine SB.run (w := V.w_text_error (V.sp_is_tuple u) (V.sp_is_letter_of u) (fun C fo _ => X C fo)) ?_ (V.vc_text_error hS)
  refine sb_cons ?_ ?_
  refine ss_if ?_ ?_ ?_
  refine st_not ?_
  refine st_val ?_
  refine se_def F_is_tuple bd (by decide) ?_
  refine sa_cons ?_ ?_
  refine se_var 1 rfl (Or.inl rfl)
  refine sa_cons ?_ ?_
  refine se_int
  refine sa_cons ?_ ?_
  refine se_glob g_MAX_TEXT rfl
  refine sa_nil
  refine sb_cons ?_ ?_
  refine ss_ret ?_
  refine se_str
  refine sb_nil
  refine sb_nil
  refine sb_mid ?_ ?_
  refine ss_for bd ?_ ?_ ?_
  refine si_enumT m_enumerate ?_
  refine se_var 1 rfl (Or.inl rfl)
  refine sg_two bd 2 3 rfl rfl (Or.inl rfl) (Or.inl rfl)
  refine sb_cons ?_ ?_
  refine ss_if ?_ ?_ ?_
  refine st_not ?_
  refine st_val ?_
  refine se_def F_is_letter_of bd (by decide) ?_
  refine sa_cons ?_ ?_
  refine se_var 0 rfl (Or.inl rfl)
  refine sa_cons ?_ ?_
  refine se_var 3 rfl (Or.inl rfl)
  refine sa_nil
  refine sb_cons ?_ ?_
  refine ss_ret ?_
  refine se_tup ?_
  refine sa_cons ?_ ?_
  refine se_str
  refine sa_cons ?_ ?_
  refine se_var 2 rfl (Or.inl rfl)
  refine sa_nil
  refine sb_nil
  refine sb_nil
  refine sb_nil
  refine sb_cons ?_ ?_
  refine ss_ret ?_
  refine se_non
  refine sb_nil
theorem ok_signs_of (F : At K mg "signs_of" s_signs_of) {t_SIGNS : Tok} (g_SIGNS : mg "SIGNS" = some (.str "abcdefghijklmnopqrstuvwxyz" t_SIGNS)) : Df P w K mg base "signs_of" s_signs_of 1 1 ["letters"] U (V.sp_signs_of u) := by
  refine df_mk F sc_signs_of rfl (by decide) (fun f fd F => F.binds fun _ _ _ _ _ _ us hl => match us, hl with | [_], _ => rfl) fun f cdv A outer s H E M ds Pd X bd hl hS => ?_
  refine SB.run (w := V.w_signs_of  (fun C fo _ => X C fo)) ?_ (V.vc_signs_of hS)
  refine sb_cons ?_ ?_
  refine ss_ret ?_
  refine se_join rfl ?_ ?_
  refine se_str
  refine se_lc [("letter", 1)] bd (blkOk_by (N := ["letters", "letter"]) (sc := defScope s_signs_of) (by decide +kernel)) ?_ (fun Dl s H C cl fp bd => ?_) (fun Dl s H C cl fp bd => ?_)
  refine si_tup ?_
  refine se_var 0 rfl (Or.inl rfl)
  refine sh_name bd 1 rfl (Or.inl rfl)
  refine se_ix ?_ ?_
  refine se_globS g_SIGNS rfl
  refine sq_var 1 rfl (Or.inl rfl)
  refine sb_nil
theorem ok_table_text (F : At K mg "table_text" s_table_text) (F_signs_of : Df P w K mg base "signs_of" s_signs_of 1 1 ["letters"] U (V.sp_signs_of u)) : Df P w K mg base "table_text" s_table_text 2 1 ["table"] U (V.sp_table_text u) := by
  refine df_mk F sc_table_text rfl (by decide) (fun f fd F => F.binds fun _ _ _ _ _ _ us hl => match us, hl with | [_], _ => rfl) fun f cdv A outer s H E M ds Pd X bd hl hS => ?_
  refine SB.run (w := V.w_table_text (V.sp_signs_of u) (fun C fo _ => X C fo)) ?_ (V.vc_table_text hS)
  refine sb_cons ?_ ?_
  refine ss_ret ?_
  refine se_def F_signs_of bd (by decide) ?_
  refine sa_cons ?_ ?_
  refine se_var 0 rfl (Or.inl rfl)
  refine sa_nil
  refine sb_nil
theorem ok_letters_text (F : At K mg "letters_text" s_letters_text) (F_signs_of : Df P w K mg base "signs_of" s_signs_of 1 1 ["letters"] U (V.sp_signs_of u)) : Df P w K mg base "letters_text" s_letters_text 2 1 ["text"] U (V.sp_letters_text u) := by
  refine df_mk F sc_letters_text rfl (by decide) (fun f fd F => F.binds fun _ _ _ _ _ _ us hl => match us, hl with | [_], _ => rfl) fun f cdv A outer s H E M ds Pd X bd hl hS => ?_
  refine SB.run (w := V.w_letters_text (V.sp_signs_of u) (fun C fo _ => X C fo)) ?_ (V.vc_letters_text hS)
  refine sb_cons ?_ ?_
  refine ss_ret ?_
  refine se_def F_signs_of bd (by decide) ?_
  refine sa_cons ?_ ?_
  refine se_var 0 rfl (Or.inl rfl)
  refine sa_nil
  refine sb_nil
theorem ok_letters_behind (F : At K mg "letters_behind" s_letters_behind) (m_isinstance : mg "isinstance" = none) (m_str : mg "str" = none) (m_tuple : mg "tuple" = none) {t_SIGNS : Tok} (g_SIGNS : mg "SIGNS" = some (.str "abcdefghijklmnopqrstuvwxyz" t_SIGNS)) (X_BadText : PySem.ErrX.ErrO K mg "BadText" C_BadText) : Df P w K mg base "letters_behind" s_letters_behind 1 1 ["value"] U (V.spE_letters_behind C_BadText u) := by
  refine df_mk F sc_letters_behind rfl (by decide) (fun f fd F => F.binds fun _ _ _ _ _ _ us hl => match us, hl with | [_], _ => rfl) fun f cdv A outer s H E M ds Pd X bd hl hS => ?_
  refine SB.run (w := V.w_E_letters_behind  C_BadText (fun C fo _ => X C fo)) ?_ (V.vcE_letters_behind hS)
  refine sb_cons ?_ ?_
  refine ss_if ?_ ?_ ?_
  refine st_not ?_
  refine st_val ?_
  refine se_isi (T' := "str") m_isinstance m_str rfl (by decide +kernel) ?_ rfl rfl
  refine sq_var 0 rfl (Or.inl rfl)
  refine sb_cons ?_ ?_
  refine ss_raise0 X_BadText bd
  refine sb_nil
  refine sb_nil
  refine sb_cons ?_ ?_
  refine ss_ret ?_
  refine se_tupOf m_tuple ?_
  refine sq_of ?_
  refine se_lc [("sign", 1)] bd (blkOk_by (N := ["value", "sign"]) (sc := defScope s_letters_behind) (by decide +kernel)) ?_ (fun Dl s H C cl fp bd => ?_) (fun Dl s H C cl fp bd => ?_)
  refine si_str ?_
  refine se_var 0 rfl (Or.inl rfl)
  refine sh_name bd 1 rfl (Or.inl rfl)
  refine se_find rfl ?_ ?_
  refine se_globS g_SIGNS rfl
  refine se_var 1 rfl (Or.inl rfl)
  refine sb_nil
theorem ok_read_table (F : At K mg "read_table" s_read_table) (X_BadText : PySem.ErrX.ErrO K mg "BadText" C_BadText) (F_letters_behind : Df P w K mg base "letters_behind" s_letters_behind 1 1 ["value"] U (V.spE_letters_behind C_BadText u)) (F_table_error : Df P w K mg base "table_error" s_table_error 4 1 ["value"] U (V.sp_table_error u)) : Df P w K mg base "read_table" s_read_table 5 1 ["value"] U (V.spE_read_table C_BadText u) := by
  refine df_mk F sc_read_table rfl (by decide) (fun f fd F => F.binds fun _ _ _ _ _ _ us hl => match us, hl with | [_], _ => rfl) fun f cdv A outer s H E M ds Pd X bd hl hS => ?_
  refine SB.run (w := V.w_E_read_table (V.spE_letters_behind C_BadText u) (V.sp_table_error u) C_BadText (fun C fo _ => X C fo)) ?_ (V.vcE_read_table hS)
  refine sb_cons ?_ ?_
  refine ss_set bd 1 rfl (Or.inl rfl) ?_
  refine se_def F_letters_behind bd (by decide) ?_
  refine sa_cons ?_ ?_
  refine se_var 0 rfl (Or.inl rfl)
  refine sa_nil
  refine sb_cons ?_ ?_
  refine ss_if ?_ ?_ ?_
  refine st_cmp bd ck_isNot ?_ ?_
  refine se_def F_table_error bd (by decide) ?_
  refine sa_cons ?_ ?_
  refine se_var 1 rfl (Or.inl rfl)
  refine sa_nil
  refine sq_of ?_
  refine se_non
  refine sb_cons ?_ ?_
  refine ss_raise0 X_BadText bd
  refine sb_nil
  refine sb_nil
  refine sb_cons ?_ ?_
  refine ss_retV 1 rfl (Or.inl rfl)
  refine sb_nil
theorem ok_read_letters (F : At K mg "read_letters" s_read_letters) (X_BadText : PySem.ErrX.ErrO K mg "BadText" C_BadText) (F_letters_behind : Df P w K mg base "letters_behind" s_letters_behind 1 1 ["value"] U (V.spE_letters_behind C_BadText u)) (F_text_error : Df P w K mg base "text_error" s_text_error 5 2 ["table", "value"] U (V.sp_text_error u)) : Df P w K mg base "read_letters" s_read_letters 6 2 ["table", "value"] U (V.spE_read_letters C_BadText u) := by
  refine df_mk F sc_read_letters rfl (by decide) (fun f fd F => F.binds fun _ _ _ _ _ _ us hl => match us, hl with | [_, _], _ => rfl) fun f cdv A outer s H E M ds Pd X bd hl hS => ?_
  refine SB.run (w := V.w_E_read_letters (V.spE_letters_behind C_BadText u) (V.sp_text_error u) C_BadText (fun C fo _ => X C fo)) ?_ (V.vcE_read_letters hS)
  refine sb_cons ?_ ?_
  refine ss_set bd 2 rfl (Or.inl rfl) ?_
  refine se_def F_letters_behind bd (by decide) ?_
  refine sa_cons ?_ ?_
  refine se_var 1 rfl (Or.inl rfl)
  refine sa_nil
  refine sb_cons ?_ ?_
  refine ss_if ?_ ?_ ?_
  refine st_cmp bd ck_isNot ?_ ?_
  refine se_def F_text_error bd (by decide) ?_
  refine sa_cons ?_ ?_
  refine se_var 0 rfl (Or.inl rfl)
  refine sa_cons ?_ ?_
  refine se_var 2 rfl (Or.inl rfl)
  refine sa_nil
  refine sq_of ?_
  refine se_non
  refine sb_cons ?_ ?_
  refine ss_raise0 X_BadText bd
  refine sb_nil
  refine sb_nil
  refine sb_cons ?_ ?_
  refine ss_retV 2 rfl (Or.inl rfl)
  refine sb_nil
theorem ok__law_bag {a : Addr} {ns : List Int} {tr : Prop} (F : At K mg "_law_bag" s__law_bag) (m_abs : mg "abs" = none) (m_int : mg "int" = none) (m_len : mg "len" = none) : Df P w K mg base "_law_bag" s__law_bag 1 1 ["script"] (scrVol K a ns tr) (V.sp__law_bag a ns) := by
  refine df_mk F sc__law_bag rfl (by decide) (fun f fd F => F.binds fun _ _ _ _ _ _ us hl => match us, hl with | [_], _ => rfl) fun f cdv A outer s H E M ds Pd X bd hl hS => ?_
  refine SB.run (w := V.w__law_bag  a ns (fun C fo _ => X C fo)) ?_ (V.vc__law_bag hS)
  refine sb_cons ?_ ?_
  refine ss_par2 bd 1 2 rfl rfl (by decide) rfl rfl ?_
  refine sp_new bd ?_ (fun _ bd => ?_)
  refine sn_lst ?_
  refine sa_nil
  refine sp_dat ?_ ?_
  refine se_bin ok_add ?_ ?_
  refine se_int
  refine sq_of ?_
  refine se_scrLen 0 rfl rfl (Or.inl rfl) m_len
  refine sp_nil
  refine sb_mid ?_ ?_
  refine ss_for bd ?_ ?_ ?_
  refine si_lst ?_
  refine se_scrCut 0 rfl rfl (Or.inl rfl)
  refine sg_name bd 3 rfl (Or.inl rfl)
  refine sb_cons ?_ ?_
  refine ss_set bd 2 rfl (Or.inl rfl) ?_
  refine se_bin ok_mod ?_ ?_
  refine se_intOf m_int ?_
  refine se_bin ok_add ?_ ?_
  refine se_bin ok_mul ?_ ?_
  refine se_var 2 rfl (Or.inl rfl)
  refine sq_of ?_
  refine se_int
  refine sq_var 3 rfl (Or.inl rfl)
  refine sq_of ?_
  refine se_int
  refine sb_cons ?_ ?_
  refine ss_if ?_ ?_ ?_
  refine st_cmp bd ck_gt ?_ ?_
  refine se_abs m_abs ?_
  refine se_var 3 rfl (Or.inl rfl)
  refine sq_of ?_
  refine se_bin ok_pow ?_ ?_
  refine se_int
  refine sq_of ?_
  refine se_int
  refine sb_cons ?_ ?_
  refine ss_append 1 rfl (Or.inl rfl) rfl ?_
  refine se_bin ok_add ?_ ?_
  refine se_bin ok_mul ?_ ?_
  refine se_int
  refine sq_of ?_
  refine se_abs m_abs ?_
  refine se_var 3 rfl (Or.inl rfl)
  refine sq_of ?_
  refine se_intOf m_int ?_
  refine se_cmp bd ck_lt ?_ ?_
  refine se_var 3 rfl (Or.inl rfl)
  refine sq_of ?_
  refine se_int
  refine sb_nil
  refine sb_nil
  refine sb_nil
  refine sb_frz 1 ?_
  refine sb_cons ?_ ?_
  refine ss_ret ?_
  refine se_disp3 bd (by decide) (fun _ bd => ?_) (fun _ bd => ?_) (fun _ bd => ?_)
  refine se_var 1 rfl (Or.inl rfl)
  refine se_var 2 rfl (Or.inl rfl)
  refine se_int
  refine sb_nil
theorem ok__law_pick (F : At K mg "_law_pick" s__law_pick) (m_len : mg "len" = none) (F__law_draw : Df P w K mg base "_law_draw" s__law_draw 1 2 ["bag", "many"] U (V.sp__law_draw u)) : Df P w K mg base "_law_pick" s__law_pick 2 2 ["bag", "items"] U (V.sp__law_pickW u) := by
  refine df_mk F sc__law_pick rfl (by decide) (fun f fd F => F.binds fun _ _ _ _ _ _ us hl => match us, hl with | [_, _], _ => rfl) fun f cdv A outer s H E M ds Pd X bd hl hS => ?_
  refine SB.run (w := V.w_pickW (V.sp__law_draw u) (fun C fo _ => X C fo)) ?_ (V.vc__law_pickW hS)
  refine sb_cons ?_ ?_
  refine ss_ret ?_
  refine se_ix ?_ ?_
  refine se_var 1 rfl (Or.inl rfl)
  refine sq_of ?_
  refine se_def F__law_draw bd (by decide) ?_
  refine sa_cons ?_ ?_
  refine se_var 0 rfl (Or.inl rfl)
  refine sa_cons ?_ ?_
  refine se_len m_len ?_
  refine sq_var 1 rfl (Or.inl rfl)
  refine sa_nil
  refine sb_nil
theorem ok__law_mixed (F : At K mg "_law_mixed" s__law_mixed) (m_len : mg "len" = none) (m_list : mg "list" = none) (F__law_draw : Df P w K mg base "_law_draw" s__law_draw 1 2 ["bag", "many"] U (V.sp__law_draw u)) : Df P w K mg base "_law_mixed" s__law_mixed 2 2 ["bag", "items"] U (V.sp__law_mixedW u) := by
  refine df_mk F sc__law_mixed rfl (by decide) (fun f fd F => F.binds fun _ _ _ _ _ _ us hl => match us, hl with | [_, _], _ => rfl) fun f cdv A outer s H E M ds Pd X bd hl hS => ?_
  refine SB.run (w := V.w_mixedW (V.sp__law_draw u) (fun C fo _ => X C fo)) ?_ (V.vc__law_mixedW hS)
  refine sb_cons ?_ ?_
  refine ss_par2 bd 2 3 rfl rfl (by decide) rfl rfl ?_
  refine sp_new bd ?_ (fun _ bd => ?_)
  refine sn_list m_list ?_
  refine sq_var 1 rfl (Or.inl rfl)
  refine sp_new bd ?_ (fun _ bd => ?_)
  refine sn_lst ?_
  refine sa_nil
  refine sp_nil
  refine sb_mid ?_ ?_
  refine ss_while bd ?_ ?_
  refine st_cmpO bd ck_ne 2 rfl (Or.inl rfl) ?_
  refine sq_of ?_
  refine se_lst ?_
  refine sa_nil
  refine sb_cons ?_ ?_
  refine ss_append 3 rfl (Or.inl rfl) rfl ?_
  refine se_popAt 2 rfl (Or.inl rfl) rfl ?_
  refine se_def F__law_draw bd (by decide) ?_
  refine sa_cons ?_ ?_
  refine se_var 0 rfl (Or.inl rfl)
  refine sa_cons ?_ ?_
  refine se_len m_len ?_
  refine sq_var 2 rfl (Or.inl rfl)
  refine sa_nil
  refine sb_nil
  refine sb_cons ?_ ?_
  refine ss_retV 3 rfl (Or.inl rfl)
  refine sb_nil
theorem ok__law_table (F : At K mg "_law_table" s__law_table) (m_len : mg "len" = none) (m_list : mg "list" = none) (m_min : mg "min" = none) (m_range : mg "range" = none) (m_tuple : mg "tuple" = none) (m_zip : mg "zip" = none) (F__law_draw : Df P w K mg base "_law_draw" s__law_draw 1 2 ["bag", "many"] U (V.sp__law_draw u)) (F__law_mixed : Df P w K mg base "_law_mixed" s__law_mixed 2 2 ["bag", "items"] U (V.sp__law_mixedW u)) (F__law_pick : Df P w K mg base "_law_pick" s__law_pick 2 2 ["bag", "items"] U (V.sp__law_pickW u)) : Df P w K mg base "_law_table" s__law_table 3 2 ["bag", "most"] U (V.sp__law_tableB u) := by
  refine df_mk F sc__law_table rfl (by decide) (fun f fd F => F.binds fun _ _ _ _ _ _ us hl => match us, hl with | [_, _], _ => rfl) fun f cdv A outer s H E M ds Pd X bd hl hS => ?_
  refine SB.run (w := V.w_tableB (V.sp__law_draw u) (V.sp__law_mixedW u) (V.sp__law_pickW u) (fun C fo _ => X C fo)) ?_ (V.vc__law_tableB hS)
  refine sb_cons ?_ ?_
  refine ss_par2 bd 2 3 rfl rfl (by decide) rfl rfl ?_
  refine sp_dat ?_ ?_
  refine se_def F__law_draw bd (by decide) ?_
  refine sa_cons ?_ ?_
  refine se_var 0 rfl (Or.inr (Or.inl rfl))
  refine sa_cons ?_ ?_
  refine se_int
  refine sa_nil
  refine sp_dat ?_ ?_
  refine se_def F__law_mixed bd (by decide) ?_
  refine sa_cons ?_ ?_
  refine se_var 0 rfl (Or.inr (Or.inl rfl))
  refine sa_cons ?_ ?_
  refine se_listRg bd m_list m_range ?_
  refine se_int
  refine sa_nil
  refine sp_nil
  refine sb_cons ?_ ?_
  refine ss_if ?_ ?_ ?_
  refine st_cmp bd ck_eq ?_ ?_
  refine se_var 2 rfl (Or.inl rfl)
  refine sq_of ?_
  refine se_int
  refine sb_cons ?_ ?_
  refine ss_ret ?_
  refine se_tupOf m_tuple ?_
  refine sq_of ?_
  refine se_bin ok_mul ?_ ?_
  refine se_lst ?_
  refine sa_cons ?_ ?_
  refine se_ix ?_ ?_
  refine se_var 3 rfl (Or.inl rfl)
  refine sq_of ?_
  refine se_int
  refine sa_nil
  refine sq_of ?_
  refine se_bin ok_add ?_ ?_
  refine se_int
  refine sq_of ?_
  refine se_def F__law_draw bd (by decide) ?_
  refine sa_cons ?_ ?_
  refine se_var 0 rfl (Or.inr (Or.inl rfl))
  refine sa_cons ?_ ?_
  refine se_min2 bd m_min ?_
  refine sa_cons ?_ ?_
  refine se_var 1 rfl (Or.inl rfl)
  refine sa_cons ?_ ?_
  refine se_int
  refine sa_nil
  refine sa_nil
  refine sb_nil
  refine sb_nil
  refine sb_cons ?_ ?_
  refine ss_setLc [("turn", 5)] bd 4 rfl rfl (blkOk_by (N := ["bag", "most", "way", "letters", "counts", "turn", "cells", "letter", "many", "rest", "own", "again"]) (sc := defScope s__law_table) (by decide +kernel)) ?_ (fun Dl s H C cl fp bd => ?_) (fun Dl s H C cl fp bd => ?_)
  refine si_r1 m_range ?_
  refine se_bin ok_add ?_ ?_
  refine se_int
  refine sq_of ?_
  refine se_def F__law_draw bd (by decide) ?_
  refine sa_cons ?_ ?_
  refine se_var 0 rfl (Or.inr (Or.inl rfl))
  refine sa_cons ?_ ?_
  refine se_int
  refine sa_nil
  refine sh_name bd 5 rfl (Or.inl rfl)
  refine se_bin ok_add ?_ ?_
  refine se_int
  refine sq_of ?_
  refine se_def F__law_draw bd (by decide) ?_
  refine sa_cons ?_ ?_
  refine se_var 0 rfl (Or.inr (Or.inl rfl))
  refine sa_cons ?_ ?_
  refine se_def F__law_pick bd (by decide) ?_
  refine sa_cons ?_ ?_
  refine se_var 0 rfl (Or.inr (Or.inl rfl))
  refine sa_cons ?_ ?_
  refine se_lst ?_
  refine sa_cons ?_ ?_
  refine se_int
  refine sa_cons ?_ ?_
  refine se_int
  refine sa_cons ?_ ?_
  refine se_int
  refine sa_nil
  refine sa_nil
  refine sa_nil
  refine sb_cons ?_ ?_
  refine ss_set bd 6 rfl (Or.inl rfl) ?_
  refine se_lst ?_
  refine sa_nil
  refine sb_mid ?_ ?_
  refine ss_for bd ?_ ?_ ?_
  refine si_zipL m_zip ?_
  refine sa_cons ?_ ?_
  refine se_var 3 rfl (Or.inl rfl)
  refine sa_cons ?_ ?_
  refine se_var 4 rfl (Or.inl rfl)
  refine sa_nil
  refine sg_two bd 7 8 rfl rfl (Or.inl rfl) (Or.inl rfl)
  refine sb_cons ?_ ?_
  refine ss_set bd 6 rfl (Or.inl rfl) ?_
  refine se_bin ok_add ?_ ?_
  refine se_var 6 rfl (Or.inl rfl)
  refine sq_of ?_
  refine se_bin ok_mul ?_ ?_
  refine se_lst ?_
  refine sa_cons ?_ ?_
  refine se_var 7 rfl (Or.inl rfl)
  refine sa_nil
  refine sq_var 8 rfl (Or.inl rfl)
  refine sb_nil
  refine sb_mid ?_ ?_
  refine ss_if ?_ ?_ ?_
  refine st_cmp bd ck_in ?_ ?_
  refine se_var 2 rfl (Or.inl rfl)
  refine sq_of ?_
  refine se_tup ?_
  refine sa_cons ?_ ?_
  refine se_int
  refine sa_cons ?_ ?_
  refine se_int
  refine sa_nil
  refine sb_cons ?_ ?_
  refine ss_set bd 6 rfl (Or.inl rfl) ?_
  refine se_def F__law_mixed bd (by decide) ?_
  refine sa_cons ?_ ?_
  refine se_var 0 rfl (Or.inr (Or.inl rfl))
  refine sa_cons ?_ ?_
  refine se_var 6 rfl (Or.inl rfl)
  refine sa_nil
  refine sb_nil
  refine sb_nil
  refine sb_mid ?_ ?_
  refine ss_if ?_ ?_ ?_
  refine st_cmp bd ck_in ?_ ?_
  refine se_var 2 rfl (Or.inl rfl)
  refine sq_of ?_
  refine se_tup ?_
  refine sa_cons ?_ ?_
  refine se_int
  refine sa_cons ?_ ?_
  refine se_int
  refine sa_nil
  refine sb_spread [("letter", 7), ("many", 8)] 9 6 10 11 bd (blkOk_by (N := ["bag", "most", "way", "letters", "counts", "turn", "cells", "letter", "many", "rest", "own", "again"]) (sc := defScope s__law_table) (by decide +kernel)) (blkOk_by (N := ["bag", "most", "way", "letters", "counts", "turn", "cells", "letter", "many", "rest", "own", "again"]) (sc := defScope s__law_table) (by decide +kernel)) (by decide) ⟨rfl, rfl, rfl, rfl⟩ ⟨rfl, rfl⟩ (Or.inl rfl) (Or.inl rfl) (Or.inl rfl) (Or.inr rfl) (by first | exact .inl rfl | exact .inr rfl) (by decide) rfl m_range (fun _ _ _ _ _ => Or.inr (Or.inl rfl)) (fun _ _ _ _ _ => Or.inl rfl) (fun _ _ _ _ _ => by first | exact .inl rfl | exact .inr rfl) ?_ (fun M Dl s H C cl fp bd => ?_) (fun M Dl s H C cl fp bd => ?_) ?_ ?_
  refine si_zipL m_zip ?_
  refine sa_cons ?_ ?_
  refine se_var 3 rfl (Or.inl rfl)
  refine sa_cons ?_ ?_
  refine se_var 4 rfl (Or.inl rfl)
  refine sa_nil
  refine sh_two bd 7 8 rfl rfl (Or.inl rfl) (Or.inl rfl)
  refine sn_rep ?_ ?_
  refine se_lst ?_
  refine sa_cons ?_ ?_
  refine se_var 7 rfl (Or.inl rfl)
  refine sa_nil
  refine sq_var 8 rfl (Or.inl rfl)
  refine st_neNilE bd ?_ ?_
  refine se_lcF [("own", 10)] bd (blkOk_by (N := ["bag", "most", "way", "letters", "counts", "turn", "cells", "letter", "many", "rest", "own", "again"]) (sc := defScope s__law_table) (by decide +kernel)) ?_ (fun Dl s H C cl fp bd => ?_) (fun Dl s H C cl fp bd => ?_) (fun Dl s H C cl fp bd => ?_)
  refine si_lst ?_
  refine se_var 9 rfl (Or.inl rfl)
  refine sh_name bd 10 rfl (Or.inl rfl)
  refine st_neNilE bd ?_ ?_
  refine se_var 10 rfl (Or.inl rfl)
  refine sq_of ?_
  refine se_lst ?_
  refine sa_nil
  refine se_var 10 rfl (Or.inl rfl)
  refine sq_of ?_
  refine se_lst ?_
  refine sa_nil
  refine sa_cons ?_ ?_
  refine se_bin ok_div ?_ ?_
  refine se_bin ok_add ?_ ?_
  refine se_len m_len ?_
  refine sq_var 10 rfl (Or.inr (Or.inl rfl))
  refine sq_of ?_
  refine se_int
  refine sq_of ?_
  refine se_int
  refine sa_nil
  refine sb_nil
  refine sb_mid ?_ ?_
  refine ss_if ?_ ?_ ?_
  refine st_cmp bd ck_in ?_ ?_
  refine se_var 2 rfl (Or.inl rfl)
  refine sq_of ?_
  refine se_tup ?_
  refine sa_cons ?_ ?_
  refine se_int
  refine sa_cons ?_ ?_
  refine se_int
  refine sa_nil
  refine sb_cons ?_ ?_
  refine ss_set bd 6 rfl (Or.inl rfl) ?_
  refine se_bin ok_mul ?_ ?_
  refine se_slice ?_ ?_ ?_
  refine se_ifE ?_ ?_ ?_
  refine st_cmp bd ck_eq ?_ ?_
  refine se_var 2 rfl (Or.inl rfl)
  refine sq_of ?_
  refine se_int
  refine se_def F__law_mixed bd (by decide) ?_
  refine sa_cons ?_ ?_
  refine se_var 0 rfl (Or.inr (Or.inl rfl))
  refine sa_cons ?_ ?_
  refine se_var 6 rfl (Or.inl rfl)
  refine sa_nil
  refine se_var 6 rfl (Or.inl rfl)
  refine so_none
  refine so_some ?_
  refine se_int
  refine sq_of ?_
  refine se_bin ok_add ?_ ?_
  refine se_int
  refine sq_of ?_
  refine se_def F__law_draw bd (by decide) ?_
  refine sa_cons ?_ ?_
  refine se_var 0 rfl (Or.inr (Or.inl rfl))
  refine sa_cons ?_ ?_
  refine se_int
  refine sa_nil
  refine sb_nil
  refine sb_nil
  refine sb_mid ?_ ?_
  refine ss_while bd ?_ ?_
  refine st_w ?_
  refine sw_and ?_ ?_
  refine st_cmp bd ck_le ?_ ?_
  refine se_bin ok_mul ?_ ?_
  refine se_len m_len ?_
  refine sq_var 6 rfl (Or.inl rfl)
  refine sq_of ?_
  refine se_int
  refine sq_var 1 rfl (Or.inl rfl)
  refine sw_one ?_ (.inl rfl)
  refine st_cmp bd ck_gt ?_ ?_
  refine se_var 1 rfl (Or.inl rfl)
  refine sq_of ?_
  refine se_int
  refine sb_cons ?_ ?_
  refine ss_set bd 6 rfl (Or.inl rfl) ?_
  refine se_bin ok_add ?_ ?_
  refine se_var 6 rfl (Or.inl rfl)
  refine sq_of ?_
  refine se_ifE ?_ ?_ ?_
  refine st_cmp bd ck_lt ?_ ?_
  refine se_var 2 rfl (Or.inl rfl)
  refine sq_of ?_
  refine se_int
  refine se_def F__law_mixed bd (by decide) ?_
  refine sa_cons ?_ ?_
  refine se_var 0 rfl (Or.inr (Or.inl rfl))
  refine sa_cons ?_ ?_
  refine se_var 6 rfl (Or.inl rfl)
  refine sa_nil
  refine se_var 6 rfl (Or.inl rfl)
  refine sb_nil
  refine sb_cons ?_ ?_
  refine ss_ret ?_
  refine se_tupOf m_tuple ?_
  refine sq_of ?_
  refine se_slice ?_ ?_ ?_
  refine se_var 6 rfl (Or.inl rfl)
  refine so_none
  refine so_some ?_
  refine se_var 1 rfl (Or.inl rfl)
  refine sb_nil
theorem ok__law_text (F : At K mg "_law_text" s__law_text) (m_range : mg "range" = none) (m_tuple : mg "tuple" = none) (F__law_pick : Df P w K mg base "_law_pick" s__law_pick 2 2 ["bag", "items"] U (V.sp__law_pickW u)) : Df P w K mg base "_law_text" s__law_text 3 3 ["bag", "table", "many"] U (V.sp__law_textB u) := by
  refine df_mk F sc__law_text rfl (by decide) (fun f fd F => F.binds fun _ _ _ _ _ _ us hl => match us, hl with | [_, _, _], _ => rfl) fun f cdv A outer s H E M ds Pd X bd hl hS => ?_
  refine SB.run (w := V.w_textB (V.sp__law_pickW u) (fun C fo _ => X C fo)) ?_ (V.vc__law_textB hS)
  refine sb_cons ?_ ?_
  refine ss_ret ?_
  refine se_tupOf m_tuple ?_
  refine sq_of ?_
  refine se_lc [("turn", 3)] bd (blkOk_by (N := ["bag", "table", "many", "turn"]) (sc := defScope s__law_text) (by decide +kernel)) ?_ (fun Dl s H C cl fp bd => ?_) (fun Dl s H C cl fp bd => ?_)
  refine si_r1 m_range ?_
  refine se_var 2 rfl (Or.inl rfl)
  refine sh_name bd 3 rfl (Or.inl rfl)
  refine se_def F__law_pick bd (by decide) ?_
  refine sa_cons ?_ ?_
  refine se_var 0 rfl (Or.inr (Or.inl rfl))
  refine sa_cons ?_ ?_
  refine se_var 1 rfl (Or.inr (Or.inl rfl))
  refine sa_nil
  refine sb_nil
theorem ok__law_string (F : At K mg "_law_string" s__law_string) : Df P w K mg base "_law_string" s__law_string 1 1 ["row"] U (V.sp__law_string u) := by
  refine df_mk F sc__law_string rfl (by decide) (fun f fd F => F.binds fun _ _ _ _ _ _ us hl => match us, hl with | [_], _ => rfl) fun f cdv A outer s H E M ds Pd X bd hl hS => ?_
  refine SB.run (w := V.w__law_string  (fun C fo _ => X C fo)) ?_ (V.vc__law_string hS)
  refine sb_cons ?_ ?_
  refine ss_ret ?_
  refine se_join rfl ?_ ?_
  refine se_str
  refine se_lc [("letter", 1)] bd (blkOk_by (N := ["row", "letter"]) (sc := defScope s__law_string) (by decide +kernel)) ?_ (fun Dl s H C cl fp bd => ?_) (fun Dl s H C cl fp bd => ?_)
  refine si_tup ?_
  refine se_var 0 rfl (Or.inl rfl)
  refine sh_name bd 1 rfl (Or.inl rfl)
  refine se_ix ?_ ?_
  refine se_str
  refine sq_var 1 rfl (Or.inl rfl)
  refine sb_nil
theorem ok__law_due (F : At K mg "_law_due" s__law_due) (m_isinstance : mg "isinstance" = none) (m_len : mg "len" = none) (m_ord : mg "ord" = none) (m_str : mg "str" = none) (m_tuple : mg "tuple" = none) : Df P w K mg base "_law_due" s__law_due 1 2 ["value", "table"] U (V.sp__law_due u) := by
  refine df_mk F sc__law_due rfl (by decide) (fun f fd F => F.binds fun _ _ _ _ _ _ us hl => match us, hl with | [_, _], _ => rfl) fun f cdv A outer s H E M ds Pd X bd hl hS => ?_
  refine SB.run (w := V.w__law_due  (fun C fo _ => X C fo)) ?_ (V.vc__law_due hS)
  refine sb_cons ?_ ?_
  refine ss_if ?_ ?_ ?_
  refine st_w ?_
  refine sw_or ?_ ?_
  refine st_not ?_
  refine st_val ?_
  refine se_isi (T' := "str") m_isinstance m_str rfl (by decide +kernel) ?_ rfl rfl
  refine sq_var 0 rfl (Or.inl rfl)
  refine sw_one ?_ (.inr rfl)
  refine st_cmp bd ck_ne ?_ ?_
  refine se_lcF [("sign", 2)] bd (blkOk_by (N := ["value", "table", "sign", "row", "own"]) (sc := defScope s__law_due) (by decide +kernel)) ?_ (fun Dl s H C cl fp bd => ?_) (fun Dl s H C cl fp bd => ?_) (fun Dl s H C cl fp bd => ?_)
  refine si_str ?_
  refine se_var 0 rfl (Or.inl rfl)
  refine sh_name bd 2 rfl (Or.inl rfl)
  refine st_notInS ?_ ?_
  refine se_var 2 rfl (Or.inl rfl)
  refine sq_of ?_
  refine se_str
  refine se_int
  refine sq_of ?_
  refine se_lst ?_
  refine sa_nil
  refine sb_cons ?_ ?_
  refine ss_ret ?_
  refine se_lst ?_
  refine sa_cons ?_ ?_
  refine se_str
  refine sa_nil
  refine sb_nil
  refine sb_nil
  refine sb_cons ?_ ?_
  refine ss_set bd 3 rfl (Or.inl rfl) ?_
  refine se_tupOf m_tuple ?_
  refine sq_of ?_
  refine se_lc [("sign", 2)] bd (blkOk_by (N := ["value", "table", "sign", "row", "own"]) (sc := defScope s__law_due) (by decide +kernel)) ?_ (fun Dl s H C cl fp bd => ?_) (fun Dl s H C cl fp bd => ?_)
  refine si_str ?_
  refine se_var 0 rfl (Or.inl rfl)
  refine sh_name bd 2 rfl (Or.inl rfl)
  refine se_bin ok_sub ?_ ?_
  refine se_ord m_ord ?_
  refine sq_var 2 rfl (Or.inl rfl)
  refine sq_of ?_
  refine se_int
  refine sb_cons ?_ ?_
  refine ss_if ?_ ?_ ?_
  refine st_cmp bd ck_is ?_ ?_
  refine se_var 1 rfl (Or.inr (Or.inl rfl))
  refine sq_of ?_
  refine se_non
  refine sb_cons ?_ ?_
  refine ss_ret ?_
  refine se_ifE ?_ ?_ ?_
  refine st_chain bd ck_lt ck_lt ?_ ?_ ?_
  refine se_int
  refine se_len m_len ?_
  refine sq_var 3 rfl (Or.inl rfl)
  refine se_int
  refine se_lst ?_
  refine sa_cons ?_ ?_
  refine se_str
  refine sa_cons ?_ ?_
  refine se_var 3 rfl (Or.inl rfl)
  refine sa_nil
  refine se_lst ?_
  refine sa_cons ?_ ?_
  refine se_str
  refine sa_nil
  refine sb_nil
  refine sb_nil
  refine sb_cons ?_ ?_
  refine ss_ret ?_
  refine se_ifE ?_ ?_ ?_
  refine st_w ?_
  refine sw_and ?_ ?_
  refine st_cmp bd ck_lt ?_ ?_
  refine se_len m_len ?_
  refine sq_var 3 rfl (Or.inl rfl)
  refine sq_of ?_
  refine se_int
  refine sw_one ?_ (.inl rfl)
  refine st_cmp bd ck_eq ?_ ?_
  refine se_lcF [("own", 4)] bd (blkOk_by (N := ["value", "table", "sign", "row", "own"]) (sc := defScope s__law_due) (by decide +kernel)) ?_ (fun Dl s H C cl fp bd => ?_) (fun Dl s H C cl fp bd => ?_) (fun Dl s H C cl fp bd => ?_)
  refine si_tup ?_
  refine se_var 3 rfl (Or.inl rfl)
  refine sh_name bd 4 rfl (Or.inl rfl)
  refine st_cmp bd ck_notIn ?_ ?_
  refine se_var 4 rfl (Or.inl rfl)
  refine sq_var 1 rfl (Or.inr (Or.inl rfl))
  refine se_int
  refine sq_of ?_
  refine se_lst ?_
  refine sa_nil
  refine se_lst ?_
  refine sa_cons ?_ ?_
  refine se_str
  refine sa_cons ?_ ?_
  refine se_var 3 rfl (Or.inl rfl)
  refine sa_nil
  refine se_lst ?_
  refine sa_cons ?_ ?_
  refine se_str
  refine sa_nil
  refine sb_nil
theorem ok__law_told (F : At K mg "_law_told" s__law_told) (g_BadText : mg "BadText" = some (.ref C_BadText)) (h_BadText : ∀ C, m_BadText C = PySem.W.exmOne K (.ref C) (.ref C_BadText)) (g_RingError : mg "RingError" = some (.ref C_RingError)) (h_RingError : ∀ C, m_RingError C = PySem.W.exmOne K (.ref C) (.ref C_RingError)) (e_BadText : m_BadText C_BadText = some true) (F_read_table : Df P w K mg base "read_table" s_read_table 5 1 ["value"] U (V.spE_read_table C_BadText u)) (F_read_letters : Df P w K mg base "read_letters" s_read_letters 6 2 ["table", "value"] U (V.spE_read_letters C_BadText u)) : Df P w K mg base "_law_told" s__law_told 7 3 ["value", "table", "is_named"] U (V.sp__law_told03 u) := by
  refine df_mk F sc__law_told rfl (by decide) (fun f fd F => F.binds fun _ _ _ _ _ _ us hl => match us, hl with | [_, _, _], _ => rfl) fun f cdv A outer s H E M ds Pd X bd hl hS => ?_
  refine SB.run (w := V.w_told03 (V.spE_read_table C_BadText u) (V.spE_read_letters C_BadText u) m_BadText m_RingError (fun C fo _ => X C fo)) ?_ (V.vc__law_told03 e_BadText hS)
  refine sb_cons ?_ ?_
  refine ss_try bd (.plain ⟨rfl, by decide, .inl g_BadText⟩ h_BadText rfl (.plain ⟨rfl, by decide, .inl g_RingError⟩ h_RingError rfl .nil)) fun pn xe E1 bd => ?_
  refine sb_cons ?_ ?_
  refine ss_if ?_ ?_ ?_
  refine st_cmp bd ck_is ?_ ?_
  refine se_var 1 rfl (Or.inl rfl)
  refine sq_of ?_
  refine se_non
  refine sb_cons ?_ ?_
  refine ss_ret ?_
  refine se_lst ?_
  refine sa_cons ?_ ?_
  refine se_str
  refine sa_cons ?_ ?_
  refine se_ifE ?_ ?_ ?_
  refine st_val ?_
  refine se_var 2 rfl (Or.inl rfl)
  refine se_defK1 F_read_table bd (by decide) ?_
  refine se_var 0 rfl (Or.inl rfl)
  refine se_def F_read_table bd (by decide) ?_
  refine sa_cons ?_ ?_
  refine se_var 0 rfl (Or.inl rfl)
  refine sa_nil
  refine sa_nil
  refine sb_nil
  refine sb_nil
  refine sb_cons ?_ ?_
  refine ss_ret ?_
  refine se_lst ?_
  refine sa_cons ?_ ?_
  refine se_str
  refine sa_cons ?_ ?_
  refine se_ifE ?_ ?_ ?_
  refine st_val ?_
  refine se_var 2 rfl (Or.inl rfl)
  refine se_defK2 F_read_letters bd (by decide) ?_ ?_
  refine se_var 0 rfl (Or.inl rfl)
  refine se_var 1 rfl (Or.inl rfl)
  refine se_def F_read_letters bd (by decide) ?_
  refine sa_cons ?_ ?_
  refine se_var 1 rfl (Or.inl rfl)
  refine sa_cons ?_ ?_
  refine se_var 0 rfl (Or.inl rfl)
  refine sa_nil
  refine sa_nil
  refine sb_nil
  refine sb_nil
theorem ok__law_spoilt (F : At K mg "_law_spoilt" s__law_spoilt) (m_len : mg "len" = none) (F__law_draw : Df P w K mg base "_law_draw" s__law_draw 1 2 ["bag", "many"] U (V.sp__law_draw u)) (F__law_pick : Df P w K mg base "_law_pick" s__law_pick 2 2 ["bag", "items"] U (V.sp__law_pickW u)) : Df P w K mg base "_law_spoilt" s__law_spoilt 3 2 ["bag", "string"] U (V.sp__law_spoilt u) := by
  refine df_mk F sc__law_spoilt rfl (by decide) (fun f fd F => F.binds fun _ _ _ _ _ _ us hl => match us, hl with | [_, _], _ => rfl) fun f cdv A outer s H E M ds Pd X bd hl hS => ?_
  refine SB.run (w := V.w__law_spoilt (V.sp__law_draw u) (V.sp__law_pickW u) (fun C fo _ => X C fo)) ?_ (V.vc__law_spoilt hS)
  refine sb_cons ?_ ?_
  refine ss_par2 bd 2 3 rfl rfl (by decide) rfl rfl ?_
  refine sp_dat ?_ ?_
  refine se_def F__law_draw bd (by decide) ?_
  refine sa_cons ?_ ?_
  refine se_var 0 rfl (Or.inl rfl)
  refine sa_cons ?_ ?_
  refine se_int
  refine sa_nil
  refine sp_dat ?_ ?_
  refine se_def F__law_draw bd (by decide) ?_
  refine sa_cons ?_ ?_
  refine se_var 0 rfl (Or.inl rfl)
  refine sa_cons ?_ ?_
  refine se_bin ok_add ?_ ?_
  refine se_len m_len ?_
  refine sq_var 1 rfl (Or.inl rfl)
  refine sq_of ?_
  refine se_int
  refine sa_nil
  refine sp_nil
  refine sb_cons ?_ ?_
  refine ss_set bd 4 rfl (Or.inl rfl) ?_
  refine se_def F__law_pick bd (by decide) ?_
  refine sa_cons ?_ ?_
  refine se_var 0 rfl (Or.inl rfl)
  refine sa_cons ?_ ?_
  refine se_lst ?_
  refine sa_cons ?_ ?_
  refine se_str
  refine sa_cons ?_ ?_
  refine se_str
  refine sa_cons ?_ ?_
  refine se_str
  refine sa_cons ?_ ?_
  refine se_str
  refine sa_cons ?_ ?_
  refine se_str
  refine sa_cons ?_ ?_
  refine se_str
  refine sa_cons ?_ ?_
  refine se_str
  refine sa_cons ?_ ?_
  refine se_str
  refine sa_cons ?_ ?_
  refine se_str
  refine sa_cons ?_ ?_
  refine se_str
  refine sa_cons ?_ ?_
  refine se_str
  refine sa_nil
  refine sa_nil
  refine sb_cons ?_ ?_
  refine ss_if ?_ ?_ ?_
  refine st_cmp bd ck_eq ?_ ?_
  refine se_var 2 rfl (Or.inl rfl)
  refine sq_of ?_
  refine se_int
  refine sb_cons ?_ ?_
  refine ss_ret ?_
  refine se_def F__law_pick bd (by decide) ?_
  refine sa_cons ?_ ?_
  refine se_var 0 rfl (Or.inl rfl)
  refine sa_cons ?_ ?_
  refine se_lst ?_
  refine sa_cons ?_ ?_
  refine se_non
  refine sa_cons ?_ ?_
  refine se_bl
  refine sa_cons ?_ ?_
  refine se_int
  refine sa_cons ?_ ?_
  refine se_tup ?_
  refine sa_cons ?_ ?_
  refine se_var 1 rfl (Or.inl rfl)
  refine sa_nil
  refine sa_cons ?_ ?_
  refine se_lst ?_
  refine sa_cons ?_ ?_
  refine se_var 1 rfl (Or.inl rfl)
  refine sa_nil
  refine sa_cons ?_ ?_
  refine se_dicE
  refine sa_cons ?_ ?_
  refine se_tup ?_
  refine sa_nil
  refine sa_cons ?_ ?_
  refine se_str
  refine sa_cons ?_ ?_
  refine se_bin ok_add ?_ ?_
  refine se_var 1 rfl (Or.inl rfl)
  refine sq_var 1 rfl (Or.inl rfl)
  refine sa_nil
  refine sa_nil
  refine sb_nil
  refine sb_nil
  refine sb_cons ?_ ?_
  refine ss_ret ?_
  refine se_bin ok_add ?_ ?_
  refine se_bin ok_add ?_ ?_
  refine se_slice ?_ ?_ ?_
  refine se_var 1 rfl (Or.inl rfl)
  refine so_none
  refine so_some ?_
  refine se_var 3 rfl (Or.inl rfl)
  refine sq_var 4 rfl (Or.inl rfl)
  refine sq_of ?_
  refine se_slice ?_ ?_ ?_
  refine se_var 1 rfl (Or.inl rfl)
  refine so_some ?_
  refine se_bin ok_add ?_ ?_
  refine se_var 3 rfl (Or.inl rfl)
  refine sq_of ?_
  refine se_bin ok_div ?_ ?_
  refine se_var 2 rfl (Or.inl rfl)
  refine sq_of ?_
  refine se_int
  refine so_none
  refine sb_nil
end
def spLaw (K : PySem.W.Frag) : Sp := fun vs H Q _ => ∃ (a : Addr) (ns : List Int), vs = [V.ref a] ∧ SqL K H a (ns.map V.int) ∧ ns.length ≤ 63 ∧ ∀ H', Q (.bl true) H'
section
variable {P : Program} {w : World} {K : PySem.W.Frag} {mg : Str → Option Value} {base : Heap}
theorem law_rest {a u dp : Addr} {f : Addr} {cdv : Value} {A : Around} {outer : List Env} {s : Shared} {H : Hw} {E : XK} {M : Ex} (bd : Bd (coOf P w K mg base ["script", "bag", "table", "text", "told", "values", "turn", "value"] "law" (defScope s_law) f cdv A outer s H E (urnVol u dp) M fun _ _ => False) 7) (m_enumerate : mg "enumerate" = none) (m_repr : mg "repr" = none) (F__law_table : Df P w K mg base "_law_table" s__law_table 3 2 ["bag", "most"] (urnVol u dp) (V.sp__law_tableB u)) (F__law_pick : Df P w K mg base "_law_pick" s__law_pick 2 2 ["bag", "items"] (urnVol u dp) (V.sp__law_pickW u)) (F__law_text : Df P w K mg base "_law_text" s__law_text 3 3 ["bag", "table", "many"] (urnVol u dp) (V.sp__law_textB u)) (F__law_draw : Df P w K mg base "_law_draw" s__law_draw 1 2 ["bag", "many"] (urnVol u dp) (V.sp__law_draw u)) (F_table_text : Df P w K mg base "table_text" s_table_text 2 1 ["table"] (urnVol u dp) (V.sp_table_text u)) (F_letters_text : Df P w K mg base "letters_text" s_letters_text 2 1 ["text"] (urnVol u dp) (V.sp_letters_text u)) (F__law_string : Df P w K mg base "_law_string" s__law_string 1 1 ["row"] (urnVol u dp) (V.sp__law_string u)) (F__law_spoilt : Df P w K mg base "_law_spoilt" s__law_spoilt 3 2 ["bag", "string"] (urnVol u dp) (V.sp__law_spoilt u)) (F__law_told : Df P w K mg base "_law_told" s__law_told 7 3 ["value", "table", "is_named"] (urnVol u dp) (V.sp__law_told03 u)) (F__law_due : Df P w K mg base "_law_due" s__law_due 1 2 ["value", "table"] (urnVol u dp) (V.sp__law_due u)) : Sv (coOf P w K mg base ["script", "bag", "table", "text", "told", "values", "turn", "value"] "law" (defScope s_law) f cdv A outer s H E (urnVol u dp) M fun _ _ => False) ((defBody s_law).drop 1) [.dat (.ad a), .dat (.ad u), .un, .un, .un, .un, .un, .un] { nx := fun _ => False, rt := fun d => d = .bl true } := by
  refine SB.run (w := V.w_law_k03 (V.sp__law_tableB u) (V.sp__law_pickW u) (V.sp__law_textB u) (V.sp__law_draw u) (V.sp_table_text u) (V.sp_letters_text u) (V.sp__law_string u) (V.sp__law_spoilt u) (V.sp__law_told03 u) (V.sp__law_due u) (fun _ _ _ => False)) ?_ (V.vc_law_k03 (a := a) (u := u))
  refine sb_cons ?_ ?_
  refine ss_set bd 2 rfl (Or.inl rfl) ?_
  refine se_def F__law_table bd (by decide) ?_
  refine sa_cons ?_ ?_
  refine se_var 1 rfl (Or.inl rfl)
  refine sa_cons ?_ ?_
  refine se_def F__law_pick bd (by decide) ?_
  refine sa_cons ?_ ?_
  refine se_var 1 rfl (Or.inl rfl)
  refine sa_cons ?_ ?_
  refine se_lst ?_
  refine sa_cons ?_ ?_
  refine se_int
  refine sa_cons ?_ ?_
  refine se_int
  refine sa_cons ?_ ?_
  refine se_int
  refine sa_nil
  refine sa_nil
  refine sa_nil
  refine sb_cons ?_ ?_
  refine ss_set bd 3 rfl (Or.inl rfl) ?_
  refine se_def F__law_text bd (by decide) ?_
  refine sa_cons ?_ ?_
  refine se_var 1 rfl (Or.inl rfl)
  refine sa_cons ?_ ?_
  refine se_var 2 rfl (Or.inl rfl)
  refine sa_cons ?_ ?_
  refine se_def F__law_draw bd (by decide) ?_
  refine sa_cons ?_ ?_
  refine se_var 1 rfl (Or.inl rfl)
  refine sa_cons ?_ ?_
  refine se_int
  refine sa_nil
  refine sa_nil
  refine sb_cons ?_ ?_
  refine ss_set bd 4 rfl (Or.inl rfl) ?_
  refine se_lst ?_
  refine sa_cons ?_ ?_
  refine se_def F_table_text bd (by decide) ?_
  refine sa_cons ?_ ?_
  refine se_var 2 rfl (Or.inl rfl)
  refine sa_nil
  refine sa_cons ?_ ?_
  refine se_def F_letters_text bd (by decide) ?_
  refine sa_cons ?_ ?_
  refine se_var 3 rfl (Or.inl rfl)
  refine sa_nil
  refine sa_cons ?_ ?_
  refine se_defK1 F_table_text bd (by decide) ?_
  refine se_var 2 rfl (Or.inl rfl)
  refine sa_cons ?_ ?_
  refine se_defK1 F_letters_text bd (by decide) ?_
  refine se_var 3 rfl (Or.inl rfl)
  refine sa_nil
  refine sb_cons ?_ ?_
  refine ss_if ?_ ?_ ?_
  refine st_cmp bd ck_ne ?_ ?_
  refine se_repr bd m_repr ?_
  refine sq_var 4 rfl (Or.inl rfl)
  refine sq_of ?_
  refine se_repr bd m_repr ?_
  refine sq_of ?_
  refine se_bin ok_mul ?_ ?_
  refine se_lst ?_
  refine sa_cons ?_ ?_
  refine se_def F__law_string bd (by decide) ?_
  refine sa_cons ?_ ?_
  refine se_var 2 rfl (Or.inl rfl)
  refine sa_nil
  refine sa_cons ?_ ?_
  refine se_def F__law_string bd (by decide) ?_
  refine sa_cons ?_ ?_
  refine se_var 3 rfl (Or.inl rfl)
  refine sa_nil
  refine sa_nil
  refine sq_of ?_
  refine se_int
  refine sb_cons ?_ ?_
  refine ss_ret ?_
  refine se_bl
  refine sb_nil
  refine sb_nil
  refine sb_cons ?_ ?_
  refine ss_set bd 5 rfl (Or.inl rfl) ?_
  refine se_lst ?_
  refine sa_cons ?_ ?_
  refine se_def F__law_string bd (by decide) ?_
  refine sa_cons ?_ ?_
  refine se_var 2 rfl (Or.inl rfl)
  refine sa_nil
  refine sa_cons ?_ ?_
  refine se_def F__law_string bd (by decide) ?_
  refine sa_cons ?_ ?_
  refine se_var 3 rfl (Or.inl rfl)
  refine sa_nil
  refine sa_cons ?_ ?_
  refine se_def F__law_spoilt bd (by decide) ?_
  refine sa_cons ?_ ?_
  refine se_var 1 rfl (Or.inl rfl)
  refine sa_cons ?_ ?_
  refine se_ix ?_ ?_
  refine se_var 4 rfl (Or.inl rfl)
  refine sq_of ?_
  refine se_int
  refine sa_nil
  refine sa_cons ?_ ?_
  refine se_def F__law_spoilt bd (by decide) ?_
  refine sa_cons ?_ ?_
  refine se_var 1 rfl (Or.inl rfl)
  refine sa_cons ?_ ?_
  refine se_ix ?_ ?_
  refine se_var 4 rfl (Or.inl rfl)
  refine sq_of ?_
  refine se_int
  refine sa_nil
  refine sa_nil
  refine sb_cons ?_ ?_
  refine ss_setN bd 5 rfl (Or.inl rfl) ?_
  refine sn_cat ?_ ?_
  refine se_var 5 rfl (Or.inl rfl)
  refine sq_of ?_
  refine se_lst ?_
  refine sa_cons ?_ ?_
  refine se_def F__law_spoilt bd (by decide) ?_
  refine sa_cons ?_ ?_
  refine se_var 1 rfl (Or.inl rfl)
  refine sa_cons ?_ ?_
  refine se_ix ?_ ?_
  refine se_var 4 rfl (Or.inl rfl)
  refine sq_of ?_
  refine se_int
  refine sa_nil
  refine sa_cons ?_ ?_
  refine se_slice ?_ ?_ ?_
  refine se_bin ok_mulS ?_ ?_
  refine se_ix ?_ ?_
  refine se_var 4 rfl (Or.inl rfl)
  refine sq_of ?_
  refine se_int
  refine sq_of ?_
  refine se_int
  refine so_none
  refine so_some ?_
  refine se_bin ok_add ?_ ?_
  refine se_int
  refine sq_of ?_
  refine se_def F__law_draw bd (by decide) ?_
  refine sa_cons ?_ ?_
  refine se_var 1 rfl (Or.inl rfl)
  refine sa_cons ?_ ?_
  refine se_int
  refine sa_nil
  refine sa_nil
  refine sb_mid ?_ ?_
  refine ss_if ?_ ?_ ?_
  refine st_cmp bd ck_eq ?_ ?_
  refine se_def F__law_draw bd (by decide) ?_
  refine sa_cons ?_ ?_
  refine se_var 1 rfl (Or.inl rfl)
  refine sa_cons ?_ ?_
  refine se_int
  refine sa_nil
  refine sq_of ?_
  refine se_int
  refine sb_cons ?_ ?_
  refine ss_append 5 rfl (Or.inl rfl) rfl ?_
  refine se_slice ?_ ?_ ?_
  refine se_bin ok_mulS ?_ ?_
  refine se_ix ?_ ?_
  refine se_var 4 rfl (Or.inl rfl)
  refine sq_of ?_
  refine se_int
  refine sq_of ?_
  refine se_int
  refine so_none
  refine so_some ?_
  refine se_bin ok_add ?_ ?_
  refine se_int
  refine sq_of ?_
  refine se_def F__law_draw bd (by decide) ?_
  refine sa_cons ?_ ?_
  refine se_var 1 rfl (Or.inl rfl)
  refine sa_cons ?_ ?_
  refine se_int
  refine sa_nil
  refine sb_nil
  refine sb_nil
  refine sb_frz 5 ?_
  refine sb_mid ?_ ?_
  refine ss_for bd ?_ ?_ ?_
  refine si_enumL m_enumerate ?_
  refine se_var 5 rfl (Or.inl rfl)
  refine sg_two bd 6 7 rfl rfl (Or.inl rfl) (Or.inl rfl)
  refine sb_cons ?_ ?_
  refine ss_set bd 4 rfl (Or.inl rfl) ?_
  refine se_lst ?_
  refine sa_cons ?_ ?_
  refine se_def F__law_told bd (by decide) ?_
  refine sa_cons ?_ ?_
  refine se_var 7 rfl (Or.inl rfl)
  refine sa_cons ?_ ?_
  refine se_non
  refine sa_cons ?_ ?_
  refine se_cmp bd ck_eq ?_ ?_
  refine se_var 6 rfl (Or.inl rfl)
  refine sq_of ?_
  refine se_int
  refine sa_nil
  refine sa_cons ?_ ?_
  refine se_def F__law_told bd (by decide) ?_
  refine sa_cons ?_ ?_
  refine se_var 7 rfl (Or.inl rfl)
  refine sa_cons ?_ ?_
  refine se_var 2 rfl (Or.inl rfl)
  refine sa_cons ?_ ?_
  refine se_cmp bd ck_eq ?_ ?_
  refine se_var 6 rfl (Or.inl rfl)
  refine sq_of ?_
  refine se_int
  refine sa_nil
  refine sa_nil
  refine sb_cons ?_ ?_
  refine ss_if ?_ ?_ ?_
  refine st_cmp bd ck_ne ?_ ?_
  refine se_repr bd m_repr ?_
  refine sq_var 4 rfl (Or.inl rfl)
  refine sq_of ?_
  refine se_repr bd m_repr ?_
  refine sq_of ?_
  refine se_lst ?_
  refine sa_cons ?_ ?_
  refine se_def F__law_due bd (by decide) ?_
  refine sa_cons ?_ ?_
  refine se_var 7 rfl (Or.inl rfl)
  refine sa_cons ?_ ?_
  refine se_non
  refine sa_nil
  refine sa_cons ?_ ?_
  refine se_def F__law_due bd (by decide) ?_
  refine sa_cons ?_ ?_
  refine se_var 7 rfl (Or.inl rfl)
  refine sa_cons ?_ ?_
  refine se_var 2 rfl (Or.inl rfl)
  refine sa_nil
  refine sa_nil
  refine sb_cons ?_ ?_
  refine ss_ret ?_
  refine se_bl
  refine sb_nil
  refine sb_nil
  refine sb_nil
  refine sb_cons ?_ ?_
  refine ss_ret ?_
  refine se_bl
  refine sb_nil
theorem ok_law (A_is_whole : At K mg "is_whole" s_is_whole) (A_is_within : At K mg "is_within" s_is_within) (A_is_tuple : At K mg "is_tuple" s_is_tuple) (A_is_letter : At K mg "is_letter" s_is_letter) (A_is_letter_of : At K mg "is_letter_of" s_is_letter_of) (A_table_error : At K mg "table_error" s_table_error) (A_text_error : At K mg "text_error" s_text_error) (A_table_text : At K mg "table_text" s_table_text) (A_letters_text : At K mg "letters_text" s_letters_text) (A_read_table : At K mg "read_table" s_read_table) (A_read_letters : At K mg "read_letters" s_read_letters) (A_signs_of : At K mg "signs_of" s_signs_of) (A_letters_behind : At K mg "letters_behind" s_letters_behind) (A__law_bag : At K mg "_law_bag" s__law_bag) (A__law_draw : At K mg "_law_draw" s__law_draw) (A__law_pick : At K mg "_law_pick" s__law_pick) (A__law_mixed : At K mg "_law_mixed" s__law_mixed) (A__law_table : At K mg "_law_table" s__law_table) (A__law_text : At K mg "_law_text" s__law_text) (A__law_string : At K mg "_law_string" s__law_string) (A__law_due : At K mg "_law_due" s__law_due) (A__law_told : At K mg "_law_told" s__law_told) (A__law_spoilt : At K mg "_law_spoilt" s__law_spoilt) (A_law : At K mg "law" s_law) (m_abs : mg "abs" = none) (m_bool : mg "bool" = none) (m_enumerate : mg "enumerate" = none) (m_int : mg "int" = none) (m_isinstance : mg "isinstance" = none) (m_len : mg "len" = none) (m_list : mg "list" = none) (m_min : mg "min" = none) (m_ord : mg "ord" = none) (m_range : mg "range" = none) (m_repr : mg "repr" = none) (m_str : mg "str" = none) (m_tuple : mg "tuple" = none) (m_zip : mg "zip" = none) {t_MAX_CELLS : Tok} (g_MAX_CELLS : mg "MAX_CELLS" = some (.int 64 t_MAX_CELLS)) {t_MAX_LETTER : Tok} (g_MAX_LETTER : mg "MAX_LETTER" = some (.int 25 t_MAX_LETTER)) {t_MAX_TEXT : Tok} (g_MAX_TEXT : mg "MAX_TEXT" = some (.int 2000 t_MAX_TEXT)) {t_SIGNS : Tok} (g_SIGNS : mg "SIGNS" = some (.str "abcdefghijklmnopqrstuvwxyz" t_SIGNS)) {C_BadText : Addr} (X_BadText : PySem.ErrX.ErrO K mg "BadText" C_BadText) (g_BadText : mg "BadText" = some (.ref C_BadText)) {C_RingError : Addr} (g_RingError : mg "RingError" = some (.ref C_RingError)) (e_BadText : PySem.W.exmOne K (.ref C_BadText) (.ref C_BadText) = some true) : ∃ f fd, Fun K "law" "law" s_law f fd ∧ mg "law" = some (.ref f) ∧ FnG P w K mg base 8 f fd ["script"] (spLaw K) := by
  obtain ⟨f, fd, F, hm⟩ := A_law
  refine ⟨f, fd, F, hm, ?_⟩
  obtain ⟨oc, od, kV, doc, pm, an, cdv, ct, osl, rfl, lk, hcd⟩ := F.ex
  refine fn_ofG (k := 7) lk hcd sc_law (fun vs H Q E ⟨a, ns, e, _⟩ => by rw [e]; rfl) fun A outer s H vs Q E hr hgd hsp => ?_
  obtain ⟨a, ns, rfl, hS, hl, q⟩ := hsp
  have F_urn : Df P w K mg base "_law_bag" s__law_bag 1 1 ["script"] (scrVol K a ns (H a ≠ none)) (V.sp__law_bag a ns) := ok__law_bag A__law_bag m_abs m_int m_len
  obtain ⟨fu, fdu, Fu, hmu, Gu⟩ := F_urn.ex
  have bu := F_urn.bi _ _ Fu
  have nd := sc_law.nd
  refine vb_cons (outS (ps_set (i := 1) nd rfl (Or.inl rfl) selfE rfl) ?_)
  refine wpE_call (W := fun cls d _ H' => E cls d H') (takes_of rfl rfl rfl rfl) Gu hr hgd (by decide) hmu Fu.kp bu rfl (outA (pa_cons (pv 0) pa_nil) ?_)
  refine ⟨_, rfl, (fun x => x = a ∧ H a ≠ none), [.ad a], (fun d => V.Urn__law_bag d), (fun _ _ => False), fun _ t => t, fun x t => by rw [t.1]; exact t.2, scr_at hS, .cons (.ad a) .nil, rfl, V.urn__law_bag rfl hl, fun v d H' fr hJ0 r hd => ?_, fun C fo dx H' _ _ _ z => z.elim⟩
  obtain ⟨u, dp, rfl, hJ⟩ := uj_of r hd
  have F__law_draw : Df P w K mg base "_law_draw" s__law_draw 1 2 ["bag", "many"] (urnVol u dp) (V.sp__law_draw u) := ok_draw A__law_draw m_int
  have F_is_whole : Df P w K mg base "is_whole" s_is_whole 1 1 ["value"] (urnVol u dp) (V.sp_is_whole u) := ok_is_whole A_is_whole m_bool m_int m_isinstance
  have F_is_within : Df P w K mg base "is_within" s_is_within 2 3 ["value", "least", "most"] (urnVol u dp) (V.sp_is_within u) := ok_is_within A_is_within F_is_whole
  have F_is_tuple : Df P w K mg base "is_tuple" s_is_tuple 1 3 ["value", "least", "most"] (urnVol u dp) (V.sp_is_tuple u) := ok_is_tuple A_is_tuple m_isinstance m_len m_tuple
  have F_is_letter : Df P w K mg base "is_letter" s_is_letter 3 1 ["value"] (urnVol u dp) (V.sp_is_letter u) := ok_is_letter A_is_letter g_MAX_LETTER F_is_within
  have F_is_letter_of : Df P w K mg base "is_letter_of" s_is_letter_of 4 2 ["table", "value"] (urnVol u dp) (V.sp_is_letter_of u) := ok_is_letter_of A_is_letter_of F_is_letter
  have F_table_error : Df P w K mg base "table_error" s_table_error 4 1 ["value"] (urnVol u dp) (V.sp_table_error u) := ok_table_error A_table_error m_enumerate g_MAX_CELLS F_is_tuple F_is_letter
  have F_text_error : Df P w K mg base "text_error" s_text_error 5 2 ["table", "value"] (urnVol u dp) (V.sp_text_error u) := ok_text_error A_text_error m_enumerate g_MAX_TEXT F_is_tuple F_is_letter_of
  have F_signs_of : Df P w K mg base "signs_of" s_signs_of 1 1 ["letters"] (urnVol u dp) (V.sp_signs_of u) := ok_signs_of A_signs_of g_SIGNS
  have F_table_text : Df P w K mg base "table_text" s_table_text 2 1 ["table"] (urnVol u dp) (V.sp_table_text u) := ok_table_text A_table_text F_signs_of
  have F_letters_text : Df P w K mg base "letters_text" s_letters_text 2 1 ["text"] (urnVol u dp) (V.sp_letters_text u) := ok_letters_text A_letters_text F_signs_of
  have F_letters_behind : Df P w K mg base "letters_behind" s_letters_behind 1 1 ["value"] (urnVol u dp) (V.spE_letters_behind C_BadText u) := ok_letters_behind A_letters_behind m_isinstance m_str m_tuple g_SIGNS X_BadText
  have F_read_table : Df P w K mg base "read_table" s_read_table 5 1 ["value"] (urnVol u dp) (V.spE_read_table C_BadText u) := ok_read_table A_read_table X_BadText F_letters_behind F_table_error
  have F_read_letters : Df P w K mg base "read_letters" s_read_letters 6 2 ["table", "value"] (urnVol u dp) (V.spE_read_letters C_BadText u) := ok_read_letters A_read_letters X_BadText F_letters_behind F_text_error
  have F__law_pick : Df P w K mg base "_law_pick" s__law_pick 2 2 ["bag", "items"] (urnVol u dp) (V.sp__law_pickW u) := ok__law_pick A__law_pick m_len F__law_draw
  have F__law_mixed : Df P w K mg base "_law_mixed" s__law_mixed 2 2 ["bag", "items"] (urnVol u dp) (V.sp__law_mixedW u) := ok__law_mixed A__law_mixed m_len m_list F__law_draw
  have F__law_table : Df P w K mg base "_law_table" s__law_table 3 2 ["bag", "most"] (urnVol u dp) (V.sp__law_tableB u) := ok__law_table A__law_table m_len m_list m_min m_range m_tuple m_zip F__law_draw F__law_mixed F__law_pick
  have F__law_text : Df P w K mg base "_law_text" s__law_text 3 3 ["bag", "table", "many"] (urnVol u dp) (V.sp__law_textB u) := ok__law_text A__law_text m_range m_tuple F__law_pick
  have F__law_string : Df P w K mg base "_law_string" s__law_string 1 1 ["row"] (urnVol u dp) (V.sp__law_string u) := ok__law_string A__law_string
  have F__law_due : Df P w K mg base "_law_due" s__law_due 1 2 ["value", "table"] (urnVol u dp) (V.sp__law_due u) := ok__law_due A__law_due m_isinstance m_len m_ord m_str m_tuple
  have F__law_told : Df P w K mg base "_law_told" s__law_told 7 3 ["value", "table", "is_named"] (urnVol u dp) (V.sp__law_told03 u) := ok__law_told A__law_told (m_BadText := fun C => PySem.W.exmOne K (.ref C) (.ref C_BadText)) g_BadText (fun _ => rfl) (m_RingError := fun C => PySem.W.exmOne K (.ref C) (.ref C_RingError)) g_RingError (fun _ => rfl) e_BadText F_read_table F_read_letters
  have F__law_spoilt : Df P w K mg base "_law_spoilt" s__law_spoilt 3 2 ["bag", "string"] (urnVol u dp) (V.sp__law_spoilt u) := ok__law_spoilt A__law_spoilt m_len F__law_draw F__law_pick
  have bd : Bd (coOf P w K mg base ["script", "bag", "table", "text", "told", "values", "turn", "value"] "law" (defScope s_law) f cdv A outer s H E (urnVol u dp) (fun b => b = u ∨ b = dp) fun _ _ => False) 7 := ⟨rfl, passes_of rfl, nd, hr, hgd⟩
  have R := law_rest (a := a) bd m_enumerate m_repr F__law_table F__law_pick F__law_text F__law_draw F_table_text F_letters_text F__law_string F__law_spoilt F__law_told F__law_due
  have plain : ∀ (i : Nat) (s : Sl), ([.dat (.ad a), .dat (.ad u), .un, .un, .un, .un, .un, .un] : Ga)[i]? = some s → s = .un ∨ (i = 0 ∧ s = .dat (.ad a)) ∨ (i = 1 ∧ s = .dat (.ad u)) := fun i s h => by
    rcases i with _ | _ | n
    · cases h
      exact .inr (.inl ⟨rfl, rfl⟩)
    · cases h
      exact .inr (.inr ⟨rfl, rfl⟩)
    · have z : ([.un, .un, .un, .un, .un, .un] : Ga)[n]? = some s := h
      have z2 := List.mem_of_getElem? z
      simp only [List.mem_cons, List.not_mem_nil, or_false, or_self] at z2
      exact .inl z2
  refine sv_run R (er_plain (fun b h => h) (fun b h => (urnVol u dp).known hJ h) hJ rfl (fun i s h => ?_) fun i d h => ?_) (W := fun cls d _ H' => E cls d H') (takes_of rfl rfl rfl rfl) ⟨fun _ _ _ _ _ z => z.elim, fun v d H2 _ _ p e => ?_, fun _ _ _ _ _ z => z.elim, fun _ _ _ _ _ z => z.elim, fun C fo dx σ' Γ' H2 _ _ _ e => e.elim⟩
  · rcases plain i s h with e | ⟨_, e⟩ | ⟨_, e⟩
    all_goals
      rw [e]
      rfl
  · rcases plain i _ h with e | ⟨rfl, e⟩ | ⟨rfl, e⟩
    · cases e
    · cases e
      exact ⟨_, rfl, .ad a⟩
    · cases e
      exact ⟨_, rfl, .ad u⟩
  · subst e
    cases p
    exact q H2
end
end K03
namespace K03
open PySem PySem.Spec PyProof.Rows L2 U
theorem all_mk {l : PySem.W.OpenLaw} {w : World} {K : PySem.W.Frag} {h : Heap} {mg : Str → Option Value} {fa : Addr} (X : K.In h) (G : h.Ns mainGlobals mg) (hfa : mg "law" = some (.ref fa))
    {f0 : Addr} {od0 an0 : Option Addr} {sl0 : Array (Option Value)} {oc0 kV0 dc0 pm0 cd0 ct0 : Value}
    (a0 : PySem.W.nsIn K mainGlobals "is_whole" = some (some (.ref f0))) (l0 : K.lookup f0 = some ⟨oc0, od0, .func (PySem.W.fnOf "is_whole" "is_whole" (defArgs s_is_whole) (defBody s_is_whole) (defScope s_is_whole) .none kV0 dc0 pm0 an0 cd0 ct0), sl0⟩) (c0 : PySem.W.codeIn K cd0 "is_whole" = true) (k0 : PySem.W.keepIn K (.ref f0) = true)
    {f1 : Addr} {od1 an1 : Option Addr} {sl1 : Array (Option Value)} {oc1 kV1 dc1 pm1 cd1 ct1 : Value}
    (a1 : PySem.W.nsIn K mainGlobals "is_within" = some (some (.ref f1))) (l1 : K.lookup f1 = some ⟨oc1, od1, .func (PySem.W.fnOf "is_within" "is_within" (defArgs s_is_within) (defBody s_is_within) (defScope s_is_within) .none kV1 dc1 pm1 an1 cd1 ct1), sl1⟩) (c1 : PySem.W.codeIn K cd1 "is_within" = true) (k1 : PySem.W.keepIn K (.ref f1) = true)
    {f2 : Addr} {od2 an2 : Option Addr} {sl2 : Array (Option Value)} {oc2 kV2 dc2 pm2 cd2 ct2 : Value}
    (a2 : PySem.W.nsIn K mainGlobals "is_tuple" = some (some (.ref f2))) (l2 : K.lookup f2 = some ⟨oc2, od2, .func (PySem.W.fnOf "is_tuple" "is_tuple" (defArgs s_is_tuple) (defBody s_is_tuple) (defScope s_is_tuple) .none kV2 dc2 pm2 an2 cd2 ct2), sl2⟩) (c2 : PySem.W.codeIn K cd2 "is_tuple" = true) (k2 : PySem.W.keepIn K (.ref f2) = true)
    {f3 : Addr} {od3 an3 : Option Addr} {sl3 : Array (Option Value)} {oc3 kV3 dc3 pm3 cd3 ct3 : Value}
    (a3 : PySem.W.nsIn K mainGlobals "is_letter" = some (some (.ref f3))) (l3 : K.lookup f3 = some ⟨oc3, od3, .func (PySem.W.fnOf "is_letter" "is_letter" (defArgs s_is_letter) (defBody s_is_letter) (defScope s_is_letter) .none kV3 dc3 pm3 an3 cd3 ct3), sl3⟩) (c3 : PySem.W.codeIn K cd3 "is_letter" = true) (k3 : PySem.W.keepIn K (.ref f3) = true)
    {f4 : Addr} {od4 an4 : Option Addr} {sl4 : Array (Option Value)} {oc4 kV4 dc4 pm4 cd4 ct4 : Value}
    (a4 : PySem.W.nsIn K mainGlobals "is_letter_of" = some (some (.ref f4))) (l4 : K.lookup f4 = some ⟨oc4, od4, .func (PySem.W.fnOf "is_letter_of" "is_letter_of" (defArgs s_is_letter_of) (defBody s_is_letter_of) (defScope s_is_letter_of) .none kV4 dc4 pm4 an4 cd4 ct4), sl4⟩) (c4 : PySem.W.codeIn K cd4 "is_letter_of" = true) (k4 : PySem.W.keepIn K (.ref f4) = true)
    {f5 : Addr} {od5 an5 : Option Addr} {sl5 : Array (Option Value)} {oc5 kV5 dc5 pm5 cd5 ct5 : Value}
    (a5 : PySem.W.nsIn K mainGlobals "table_error" = some (some (.ref f5))) (l5 : K.lookup f5 = some ⟨oc5, od5, .func (PySem.W.fnOf "table_error" "table_error" (defArgs s_table_error) (defBody s_table_error) (defScope s_table_error) .none kV5 dc5 pm5 an5 cd5 ct5), sl5⟩) (c5 : PySem.W.codeIn K cd5 "table_error" = true) (k5 : PySem.W.keepIn K (.ref f5) = true)
    {f6 : Addr} {od6 an6 : Option Addr} {sl6 : Array (Option Value)} {oc6 kV6 dc6 pm6 cd6 ct6 : Value}
    (a6 : PySem.W.nsIn K mainGlobals "text_error" = some (some (.ref f6))) (l6 : K.lookup f6 = some ⟨oc6, od6, .func (PySem.W.fnOf "text_error" "text_error" (defArgs s_text_error) (defBody s_text_error) (defScope s_text_error) .none kV6 dc6 pm6 an6 cd6 ct6), sl6⟩) (c6 : PySem.W.codeIn K cd6 "text_error" = true) (k6 : PySem.W.keepIn K (.ref f6) = true)
    {f7 : Addr} {od7 an7 : Option Addr} {sl7 : Array (Option Value)} {oc7 kV7 dc7 pm7 cd7 ct7 : Value}
    (a7 : PySem.W.nsIn K mainGlobals "table_text" = some (some (.ref f7))) (l7 : K.lookup f7 = some ⟨oc7, od7, .func (PySem.W.fnOf "table_text" "table_text" (defArgs s_table_text) (defBody s_table_text) (defScope s_table_text) .none kV7 dc7 pm7 an7 cd7 ct7), sl7⟩) (c7 : PySem.W.codeIn K cd7 "table_text" = true) (k7 : PySem.W.keepIn K (.ref f7) = true)
    {f8 : Addr} {od8 an8 : Option Addr} {sl8 : Array (Option Value)} {oc8 kV8 dc8 pm8 cd8 ct8 : Value}
    (a8 : PySem.W.nsIn K mainGlobals "letters_text" = some (some (.ref f8))) (l8 : K.lookup f8 = some ⟨oc8, od8, .func (PySem.W.fnOf "letters_text" "letters_text" (defArgs s_letters_text) (defBody s_letters_text) (defScope s_letters_text) .none kV8 dc8 pm8 an8 cd8 ct8), sl8⟩) (c8 : PySem.W.codeIn K cd8 "letters_text" = true) (k8 : PySem.W.keepIn K (.ref f8) = true)
    {f9 : Addr} {od9 an9 : Option Addr} {sl9 : Array (Option Value)} {oc9 kV9 dc9 pm9 cd9 ct9 : Value}
    (a9 : PySem.W.nsIn K mainGlobals "read_table" = some (some (.ref f9))) (l9 : K.lookup f9 = some ⟨oc9, od9, .func (PySem.W.fnOf "read_table" "read_table" (defArgs s_read_table) (defBody s_read_table) (defScope s_read_table) .none kV9 dc9 pm9 an9 cd9 ct9), sl9⟩) (c9 : PySem.W.codeIn K cd9 "read_table" = true) (k9 : PySem.W.keepIn K (.ref f9) = true)
    {f10 : Addr} {od10 an10 : Option Addr} {sl10 : Array (Option Value)} {oc10 kV10 dc10 pm10 cd10 ct10 : Value}
    (a10 : PySem.W.nsIn K mainGlobals "read_letters" = some (some (.ref f10))) (l10 : K.lookup f10 = some ⟨oc10, od10, .func (PySem.W.fnOf "read_letters" "read_letters" (defArgs s_read_letters) (defBody s_read_letters) (defScope s_read_letters) .none kV10 dc10 pm10 an10 cd10 ct10), sl10⟩) (c10 : PySem.W.codeIn K cd10 "read_letters" = true) (k10 : PySem.W.keepIn K (.ref f10) = true)
    {f11 : Addr} {od11 an11 : Option Addr} {sl11 : Array (Option Value)} {oc11 kV11 dc11 pm11 cd11 ct11 : Value}
    (a11 : PySem.W.nsIn K mainGlobals "signs_of" = some (some (.ref f11))) (l11 : K.lookup f11 = some ⟨oc11, od11, .func (PySem.W.fnOf "signs_of" "signs_of" (defArgs s_signs_of) (defBody s_signs_of) (defScope s_signs_of) .none kV11 dc11 pm11 an11 cd11 ct11), sl11⟩) (c11 : PySem.W.codeIn K cd11 "signs_of" = true) (k11 : PySem.W.keepIn K (.ref f11) = true)
    {f12 : Addr} {od12 an12 : Option Addr} {sl12 : Array (Option Value)} {oc12 kV12 dc12 pm12 cd12 ct12 : Value}
    (a12 : PySem.W.nsIn K mainGlobals "letters_behind" = some (some (.ref f12))) (l12 : K.lookup f12 = some ⟨oc12, od12, .func (PySem.W.fnOf "letters_behind" "letters_behind" (defArgs s_letters_behind) (defBody s_letters_behind) (defScope s_letters_behind) .none kV12 dc12 pm12 an12 cd12 ct12), sl12⟩) (c12 : PySem.W.codeIn K cd12 "letters_behind" = true) (k12 : PySem.W.keepIn K (.ref f12) = true)
    {f13 : Addr} {od13 an13 : Option Addr} {sl13 : Array (Option Value)} {oc13 kV13 dc13 pm13 cd13 ct13 : Value}
    (a13 : PySem.W.nsIn K mainGlobals "_law_bag" = some (some (.ref f13))) (l13 : K.lookup f13 = some ⟨oc13, od13, .func (PySem.W.fnOf "_law_bag" "_law_bag" (defArgs s__law_bag) (defBody s__law_bag) (defScope s__law_bag) .none kV13 dc13 pm13 an13 cd13 ct13), sl13⟩) (c13 : PySem.W.codeIn K cd13 "_law_bag" = true) (k13 : PySem.W.keepIn K (.ref f13) = true)
    {f14 : Addr} {od14 an14 : Option Addr} {sl14 : Array (Option Value)} {oc14 kV14 dc14 pm14 cd14 ct14 : Value}
    (a14 : PySem.W.nsIn K mainGlobals "_law_draw" = some (some (.ref f14))) (l14 : K.lookup f14 = some ⟨oc14, od14, .func (PySem.W.fnOf "_law_draw" "_law_draw" (defArgs s__law_draw) (defBody s__law_draw) (defScope s__law_draw) .none kV14 dc14 pm14 an14 cd14 ct14), sl14⟩) (c14 : PySem.W.codeIn K cd14 "_law_draw" = true) (k14 : PySem.W.keepIn K (.ref f14) = true)
    {f15 : Addr} {od15 an15 : Option Addr} {sl15 : Array (Option Value)} {oc15 kV15 dc15 pm15 cd15 ct15 : Value}
    (a15 : PySem.W.nsIn K mainGlobals "_law_pick" = some (some (.ref f15))) (l15 : K.lookup f15 = some ⟨oc15, od15, .func (PySem.W.fnOf "_law_pick" "_law_pick" (defArgs s__law_pick) (defBody s__law_pick) (defScope s__law_pick) .none kV15 dc15 pm15 an15 cd15 ct15), sl15⟩) (c15 : PySem.W.codeIn K cd15 "_law_pick" = true) (k15 : PySem.W.keepIn K (.ref f15) = true)
    {f16 : Addr} {od16 an16 : Option Addr} {sl16 : Array (Option Value)} {oc16 kV16 dc16 pm16 cd16 ct16 : Value}
    (a16 : PySem.W.nsIn K mainGlobals "_law_mixed" = some (some (.ref f16))) (l16 : K.lookup f16 = some ⟨oc16, od16, .func (PySem.W.fnOf "_law_mixed" "_law_mixed" (defArgs s__law_mixed) (defBody s__law_mixed) (defScope s__law_mixed) .none kV16 dc16 pm16 an16 cd16 ct16), sl16⟩) (c16 : PySem.W.codeIn K cd16 "_law_mixed" = true) (k16 : PySem.W.keepIn K (.ref f16) = true)
    {f17 : Addr} {od17 an17 : Option Addr} {sl17 : Array (Option Value)} {oc17 kV17 dc17 pm17 cd17 ct17 : Value}
    (a17 : PySem.W.nsIn K mainGlobals "_law_table" = some (some (.ref f17))) (l17 : K.lookup f17 = some ⟨oc17, od17, .func (PySem.W.fnOf "_law_table" "_law_table" (defArgs s__law_table) (defBody s__law_table) (defScope s__law_table) .none kV17 dc17 pm17 an17 cd17 ct17), sl17⟩) (c17 : PySem.W.codeIn K cd17 "_law_table" = true) (k17 : PySem.W.keepIn K (.ref f17) = true)
    {f18 : Addr} {od18 an18 : Option Addr} {sl18 : Array (Option Value)} {oc18 kV18 dc18 pm18 cd18 ct18 : Value}
    (a18 : PySem.W.nsIn K mainGlobals "_law_text" = some (some (.ref f18))) (l18 : K.lookup f18 = some ⟨oc18, od18, .func (PySem.W.fnOf "_law_text" "_law_text" (defArgs s__law_text) (defBody s__law_text) (defScope s__law_text) .none kV18 dc18 pm18 an18 cd18 ct18), sl18⟩) (c18 : PySem.W.codeIn K cd18 "_law_text" = true) (k18 : PySem.W.keepIn K (.ref f18) = true)
    {f19 : Addr} {od19 an19 : Option Addr} {sl19 : Array (Option Value)} {oc19 kV19 dc19 pm19 cd19 ct19 : Value}
    (a19 : PySem.W.nsIn K mainGlobals "_law_string" = some (some (.ref f19))) (l19 : K.lookup f19 = some ⟨oc19, od19, .func (PySem.W.fnOf "_law_string" "_law_string" (defArgs s__law_string) (defBody s__law_string) (defScope s__law_string) .none kV19 dc19 pm19 an19 cd19 ct19), sl19⟩) (c19 : PySem.W.codeIn K cd19 "_law_string" = true) (k19 : PySem.W.keepIn K (.ref f19) = true)
    {f20 : Addr} {od20 an20 : Option Addr} {sl20 : Array (Option Value)} {oc20 kV20 dc20 pm20 cd20 ct20 : Value}
    (a20 : PySem.W.nsIn K mainGlobals "_law_due" = some (some (.ref f20))) (l20 : K.lookup f20 = some ⟨oc20, od20, .func (PySem.W.fnOf "_law_due" "_law_due" (defArgs s__law_due) (defBody s__law_due) (defScope s__law_due) .none kV20 dc20 pm20 an20 cd20 ct20), sl20⟩) (c20 : PySem.W.codeIn K cd20 "_law_due" = true) (k20 : PySem.W.keepIn K (.ref f20) = true)
    {f21 : Addr} {od21 an21 : Option Addr} {sl21 : Array (Option Value)} {oc21 kV21 dc21 pm21 cd21 ct21 : Value}
    (a21 : PySem.W.nsIn K mainGlobals "_law_told" = some (some (.ref f21))) (l21 : K.lookup f21 = some ⟨oc21, od21, .func (PySem.W.fnOf "_law_told" "_law_told" (defArgs s__law_told) (defBody s__law_told) (defScope s__law_told) .none kV21 dc21 pm21 an21 cd21 ct21), sl21⟩) (c21 : PySem.W.codeIn K cd21 "_law_told" = true) (k21 : PySem.W.keepIn K (.ref f21) = true)
    {f22 : Addr} {od22 an22 : Option Addr} {sl22 : Array (Option Value)} {oc22 kV22 dc22 pm22 cd22 ct22 : Value}
    (a22 : PySem.W.nsIn K mainGlobals "_law_spoilt" = some (some (.ref f22))) (l22 : K.lookup f22 = some ⟨oc22, od22, .func (PySem.W.fnOf "_law_spoilt" "_law_spoilt" (defArgs s__law_spoilt) (defBody s__law_spoilt) (defScope s__law_spoilt) .none kV22 dc22 pm22 an22 cd22 ct22), sl22⟩) (c22 : PySem.W.codeIn K cd22 "_law_spoilt" = true) (k22 : PySem.W.keepIn K (.ref f22) = true)
    {f23 : Addr} {od23 an23 : Option Addr} {sl23 : Array (Option Value)} {oc23 kV23 dc23 pm23 cd23 ct23 : Value}
    (a23 : PySem.W.nsIn K mainGlobals "law" = some (some (.ref f23))) (l23 : K.lookup f23 = some ⟨oc23, od23, .func (PySem.W.fnOf "law" "law" (defArgs s_law) (defBody s_law) (defScope s_law) .none kV23 dc23 pm23 an23 cd23 ct23), sl23⟩) (c23 : PySem.W.codeIn K cd23 "law" = true) (k23 : PySem.W.keepIn K (.ref f23) = true)
    (z0 : PySem.W.nsIn K mainGlobals "abs" = some none)
    (z1 : PySem.W.nsIn K mainGlobals "bool" = some none)
    (z2 : PySem.W.nsIn K mainGlobals "enumerate" = some none)
    (z3 : PySem.W.nsIn K mainGlobals "int" = some none)
    (z4 : PySem.W.nsIn K mainGlobals "isinstance" = some none)
    (z5 : PySem.W.nsIn K mainGlobals "len" = some none)
    (z6 : PySem.W.nsIn K mainGlobals "list" = some none)
    (z7 : PySem.W.nsIn K mainGlobals "min" = some none)
    (z8 : PySem.W.nsIn K mainGlobals "ord" = some none)
    (z9 : PySem.W.nsIn K mainGlobals "range" = some none)
    (z10 : PySem.W.nsIn K mainGlobals "repr" = some none)
    (z11 : PySem.W.nsIn K mainGlobals "str" = some none)
    (z12 : PySem.W.nsIn K mainGlobals "tuple" = some none)
    (z13 : PySem.W.nsIn K mainGlobals "zip" = some none)
    {t0 : Tok} (y0 : PySem.W.nsIn K mainGlobals "MAX_CELLS" = some (some (.int 64 t0)))
    {t1 : Tok} (y1 : PySem.W.nsIn K mainGlobals "MAX_LETTER" = some (some (.int 25 t1)))
    {t2 : Tok} (y2 : PySem.W.nsIn K mainGlobals "MAX_TEXT" = some (some (.int 2000 t2)))
    {t3 : Tok} (y3 : PySem.W.nsIn K mainGlobals "SIGNS" = some (some (.str "abcdefghijklmnopqrstuvwxyz" t3)))
    {C_BadText : Addr} (aC_BadText : PySem.W.nsIn K mainGlobals "BadText" = some (some (.ref C_BadText))) (qC_BadText : PySem.W.excIn K C_BadText [.type "ValueError", .type "Exception", .type "BaseException", .type "object"] "ValueError.__new__" = true) (kC_BadText : PySem.W.keepIn K (.ref C_BadText) = true) (eC_BadText : PySem.W.subIn K (.ref C_BadText) (.type "BaseException") = some true) (tC_BadText : PySem.W.typeIn K (.ref C_BadText) = some (.type "type")) (iC_BadText : PySem.W.isClsIn K C_BadText = true) (sC_BadText : PySem.W.subIn K (.ref C_BadText) (.ref C_BadText) = some true)
    {C_RingError : Addr} (aC_RingError : PySem.W.nsIn K mainGlobals "RingError" = some (some (.ref C_RingError))) {imp : Prop} :
    ∃ fd : FuncData, (∀ (s : Shared) (v : Value), BindsTo s fd ⟨[v], []⟩ [("script", v)]) ∧ ∀ base : Heap, K.In base → base.Ns mainGlobals mg → (imp → ∃ mm, base.Ns sysModules mm) → FnG l.prog w K mg base 8 fa fd ["script"] (spLaw K) := by
  have e := hfa.symm.trans (PySem.W.mg_of X G a23)
  cases e
  refine ⟨PySem.W.fnOf "law" "law" (defArgs s_law) (defBody s_law) (defScope s_law) .none kV23 dc23 pm23 an23 cd23 ct23, fun s v => .of_eq rfl, fun base _ _ hS => ?_⟩
  obtain ⟨f, fd, F, hm, R⟩ := ok_law (P := l.prog) (w := w) (base := base) (at_mk X G a0 l0 c0 k0) (at_mk X G a1 l1 c1 k1) (at_mk X G a2 l2 c2 k2) (at_mk X G a3 l3 c3 k3) (at_mk X G a4 l4 c4 k4) (at_mk X G a5 l5 c5 k5) (at_mk X G a6 l6 c6 k6) (at_mk X G a7 l7 c7 k7) (at_mk X G a8 l8 c8 k8) (at_mk X G a9 l9 c9 k9) (at_mk X G a10 l10 c10 k10) (at_mk X G a11 l11 c11 k11) (at_mk X G a12 l12 c12 k12) (at_mk X G a13 l13 c13 k13) (at_mk X G a14 l14 c14 k14) (at_mk X G a15 l15 c15 k15) (at_mk X G a16 l16 c16 k16) (at_mk X G a17 l17 c17 k17) (at_mk X G a18 l18 c18 k18) (at_mk X G a19 l19 c19 k19) (at_mk X G a20 l20 c20 k20) (at_mk X G a21 l21 c21 k21) (at_mk X G a22 l22 c22 k22) (at_mk X G a23 l23 c23 k23) (PySem.W.mg_none_of X G z0) (PySem.W.mg_none_of X G z1) (PySem.W.mg_none_of X G z2) (PySem.W.mg_none_of X G z3) (PySem.W.mg_none_of X G z4) (PySem.W.mg_none_of X G z5) (PySem.W.mg_none_of X G z6) (PySem.W.mg_none_of X G z7) (PySem.W.mg_none_of X G z8) (PySem.W.mg_none_of X G z9) (PySem.W.mg_none_of X G z10) (PySem.W.mg_none_of X G z11) (PySem.W.mg_none_of X G z12) (PySem.W.mg_none_of X G z13) (PySem.W.mg_of X G y0) (PySem.W.mg_of X G y1) (PySem.W.mg_of X G y2) (PySem.W.mg_of X G y3) (PySem.ErrX.erro_mk X G aC_BadText qC_BadText kC_BadText eC_BadText tC_BadText) (PySem.W.mg_of X G aC_BadText) (PySem.W.mg_of X G aC_RingError) (PySem.ErrX.exm_self eC_BadText iC_BadText tC_BadText sC_BadText)
  rw [hfa] at hm
  cases hm
  obtain ⟨oc, od, kV, doc, pm, an, cdv, ct, osl, rfl, lk, _⟩ := F.ex
  rw [l23] at lk
  cases lk
  exact R
end K03
open PySem PySem.W PyProof.Rows
set_option maxHeartbeats 0 in
theorem PySem.Challenge.cw_unpassed_k03_tables_and_texts_as_strings_holds : PySem.Challenge.rw_unpassed_k03_tables_and_texts_as_strings.Holds := by
  w_on; o_law; k_head; (case hw => w_witness2)
  k_fill
  refine U.end_of (l := PySem.Challenge.rw_unpassed_k03_tables_and_texts_as_strings) (n := 63) (k := 8) (x := "script") (sp := fun w => K03.spLaw _) rfl (by decide) rfl ⟨rfl, by decide, by decide⟩ (fun w h Y => PySem.W.kIn_of Y) ?F (fun w H a ns hl hb hA => ⟨a, ns, rfl, hA.sq, hl, fun _ => rfl⟩) (fun w H s e s' ⟨_, _, _, _, _, _, _, _, _, _, _, _, z⟩ => z)
  case F =>
    intro w mg fa h KX G hmg
    refine' K03.all_mk (fa := fa) KX G hmg ?a0 ?l0 ?c0 ?k0 ?a1 ?l1 ?c1 ?k1 ?a2 ?l2 ?c2 ?k2 ?a3 ?l3 ?c3 ?k3 ?a4 ?l4 ?c4 ?k4 ?a5 ?l5 ?c5 ?k5 ?a6 ?l6 ?c6 ?k6 ?a7 ?l7 ?c7 ?k7 ?a8 ?l8 ?c8 ?k8 ?a9 ?l9 ?c9 ?k9 ?a10 ?l10 ?c10 ?k10 ?a11 ?l11 ?c11 ?k11 ?a12 ?l12 ?c12 ?k12 ?a13 ?l13 ?c13 ?k13 ?a14 ?l14 ?c14 ?k14 ?a15 ?l15 ?c15 ?k15 ?a16 ?l16 ?c16 ?k16 ?a17 ?l17 ?c17 ?k17 ?a18 ?l18 ?c18 ?k18 ?a19 ?l19 ?c19 ?k19 ?a20 ?l20 ?c20 ?k20 ?a21 ?l21 ?c21 ?k21 ?a22 ?l22 ?c22 ?k22 ?a23 ?l23 ?c23 ?k23 ?z0 ?z1 ?z2 ?z3 ?z4 ?z5 ?z6 ?z7 ?z8 ?z9 ?z10 ?z11 ?z12 ?z13 ?y0 ?y1 ?y2 ?y3 ?aC_BadText ?qC_BadText ?kC_BadText ?eC_BadText ?tC_BadText ?iC_BadText ?sC_BadText ?aC_RingError
    (case a0 => k_is); (case l0 => k_is); (case c0 => k_is); (case k0 => k_is)
    (case a1 => k_is); (case l1 => k_is); (case c1 => k_is); (case k1 => k_is)
    (case a2 => k_is); (case l2 => k_is); (case c2 => k_is); (case k2 => k_is)
    (case a3 => k_is); (case l3 => k_is); (case c3 => k_is); (case k3 => k_is)
    (case a4 => k_is); (case l4 => k_is); (case c4 => k_is); (case k4 => k_is)
    (case a5 => k_is); (case l5 => k_is); (case c5 => k_is); (case k5 => k_is)
    (case a6 => k_is); (case l6 => k_is); (case c6 => k_is); (case k6 => k_is)
    (case a7 => k_is); (case l7 => k_is); (case c7 => k_is); (case k7 => k_is)
    (case a8 => k_is); (case l8 => k_is); (case c8 => k_is); (case k8 => k_is)
    (case a9 => k_is); (case l9 => k_is); (case c9 => k_is); (case k9 => k_is)
    (case a10 => k_is); (case l10 => k_is); (case c10 => k_is); (case k10 => k_is)
    (case a11 => k_is); (case l11 => k_is); (case c11 => k_is); (case k11 => k_is)
    (case a12 => k_is); (case l12 => k_is); (case c12 => k_is); (case k12 => k_is)
    (case a13 => k_is); (case l13 => k_is); (case c13 => k_is); (case k13 => k_is)
    (case a14 => k_is); (case l14 => k_is); (case c14 => k_is); (case k14 => k_is)
    (case a15 => k_is); (case l15 => k_is); (case c15 => k_is); (case k15 => k_is)
    (case a16 => k_is); (case l16 => k_is); (case c16 => k_is); (case k16 => k_is)
    (case a17 => k_is); (case l17 => k_is); (case c17 => k_is); (case k17 => k_is)
    (case a18 => k_is); (case l18 => k_is); (case c18 => k_is); (case k18 => k_is)
    (case a19 => k_is); (case l19 => k_is); (case c19 => k_is); (case k19 => k_is)
    (case a20 => k_is); (case l20 => k_is); (case c20 => k_is); (case k20 => k_is)
    (case a21 => k_is); (case l21 => k_is); (case c21 => k_is); (case k21 => k_is)
    (case a22 => k_is); (case l22 => k_is); (case c22 => k_is); (case k22 => k_is)
    (case a23 => k_is); (case l23 => k_is); (case c23 => k_is); (case k23 => k_is)
    (case z0 => k_is)
    (case z1 => k_is)
    (case z2 => k_is)
    (case z3 => k_is)
    (case z4 => k_is)
    (case z5 => k_is)
    (case z6 => k_is)
    (case z7 => k_is)
    (case z8 => k_is)
    (case z9 => k_is)
    (case z10 => k_is)
    (case z11 => k_is)
    (case z12 => k_is)
    (case z13 => k_is)
    (case y0 => k_is)
    (case y1 => k_is)
    (case y2 => k_is)
    (case y3 => k_is)
    (case aC_BadText => k_is)
    (case qC_BadText => k_exc)
    (case kC_BadText => k_is)
    (case eC_BadText => k_is)
    (case tC_BadText => k_is)
    (case iC_BadText => k_is)
    (case sC_BadText => first | rfl | k_is)
    (case aC_RingError => k_is)
