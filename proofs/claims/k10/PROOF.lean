import PyProof.Rows.All
import Wide.All
import OpenK.AllK
import Wide.FinOn
import HandS.ForMost
import HandS.ForExc
import HandS.Walk
import HandS.Conv
import HandS.Wide
import HandS.IsInst
import KE.GoesEnum
import HandS.TupAny
import HandS.TupMul
import HandS.SortInts
import PyProof.ReprRoads
import PyProof.ReprLen
import HandS.Style
import HandS.EndBits
import PyProof.Rows.ReprOcc
import PySem.Challenge.RW_unpassed_k10_turns_and_heights
set_option Elab.async false
set_option linter.all false
set_option maxRecDepth 100000
set_option maxHeartbeats 4000000
set_option autoImplicit false
/-! U1: data over the abstract heap. -/
namespace U
open PySem PySem.Spec PyProof.Rows L2
abbrev Hw := L2.Hp
abbrev Sw := L2.St
/-- data: what a value stands for -/
inductive D where
  | non | bl (b : Bool) | int (i : Int) | str (x : Str)
  | lst (xs : List D) | tup (xs : List D) | dic (kvs : List (L2.Key × D))
  | ad (a : Addr)
abbrev Ex := Addr → Prop
mutual
inductive Rp (M : Ex) (H : Hw) : V → D → Prop
  | non : Rp M H .non .non
  | bl (b : Bool) : Rp M H (.bl b) (.bl b)
  | int (i : Int) : Rp M H (.int i) (.int i)
  | str (x : Str) : Rp M H (.str x) (.str x)
  | lst {a : Addr} {xs : List V} {ds : List D} : H a = some (.lst xs) → ¬ M a → RpA M H xs ds → Rp M H (.ref a) (.lst ds)
  | tup {a : Addr} {xs : List V} {ds : List D} : H a = some (.tup xs) → ¬ M a → RpA M H xs ds → Rp M H (.ref a) (.tup ds)
  | dic {a : Addr} {kvs : List (L2.Key × V)} {ds : List (L2.Key × D)} : H a = some (.dK kvs) → ¬ M a → RpK M H kvs ds → Rp M H (.ref a) (.dic ds)
  | ad (a : Addr) : Rp M H (.ref a) (.ad a)
inductive RpA (M : Ex) (H : Hw) : List V → List D → Prop
  | nil : RpA M H [] []
  | cons {v : V} {vs : List V} {d : D} {ds : List D} : Rp M H v d → RpA M H vs ds → RpA M H (v :: vs) (d :: ds)
inductive RpK (M : Ex) (H : Hw) : List (L2.Key × V) → List (L2.Key × D) → Prop
  | nil : RpK M H [] []
  | cons {k : L2.Key} {v : V} {vs : List (L2.Key × V)} {d : D} {ds : List (L2.Key × D)} : Rp M H v d → RpK M H vs ds → RpK M H ((k, v) :: vs) ((k, d) :: ds)
end
section
variable {M M' : Ex} {H H' : Hw}
/-- from one heap and exclusion to another: at each tracked address outside M the new exclusion is outside too and the object stays -/
structure Goes (M M' : Ex) (H H' : Hw) : Prop where
  at_ : ∀ a o, ¬ M a → H a = some o → H' a = some o ∧ ¬ M' a
mutual
theorem Rp.to (g : Goes M M' H H') : ∀ (d : D) (v : V), Rp M H v d → Rp M' H' v d
  | .non, _, h => by cases h; exact .non
  | .bl _, _, h => by cases h; exact .bl _
  | .int _, _, h => by cases h; exact .int _
  | .str _, _, h => by cases h; exact .str _
  | .lst ds, _, h => by
    cases h with
    | lst r m p =>
      exact .lst (g.at_ _ _ m r).1 (g.at_ _ _ m r).2 (RpA.to g ds _ p)
  | .tup ds, _, h => by
    cases h with
    | tup r m p =>
      exact .tup (g.at_ _ _ m r).1 (g.at_ _ _ m r).2 (RpA.to g ds _ p)
  | .dic ds, _, h => by
    cases h with
    | dic r m p =>
      exact .dic (g.at_ _ _ m r).1 (g.at_ _ _ m r).2 (RpK.to g ds _ p)
  | .ad _, _, h => by cases h; exact .ad _
theorem RpA.to (g : Goes M M' H H') : ∀ (ds : List D) (vs : List V), RpA M H vs ds → RpA M' H' vs ds
  | [], _, h => by cases h; exact .nil
  | d :: ds, _, h => by
    cases h with
    | cons a b => exact .cons (Rp.to g d _ a) (RpA.to g ds _ b)
theorem RpK.to (g : Goes M M' H H') : ∀ (ds : List (L2.Key × D)) (vs : List (L2.Key × V)), RpK M H vs ds → RpK M' H' vs ds
  | [], _, h => by cases h; exact .nil
  | (_, d) :: ds, _, h => by
    cases h with
    | cons a b => exact .cons (Rp.to g d _ a) (RpK.to g ds _ b)
end
theorem RpA.length : ∀ {vs : List V} {ds : List D}, RpA M H vs ds → vs.length = ds.length
  | [], [], _ => rfl
  | _ :: _, _ :: _, h => by
    cases h with
    | cons _ b => simp [RpA.length b]
  | [], _ :: _, h => by cases h
  | _ :: _, [], h => by cases h
theorem RpK.length : ∀ {vs : List (L2.Key × V)} {ds : List (L2.Key × D)}, RpK M H vs ds → vs.length = ds.length
  | [], [], _ => rfl
  | _ :: _, _ :: _, h => by
    cases h with
    | cons _ b => simp [RpK.length b]
  | [], _ :: _, h => by cases h
  | _ :: _, [], h => by cases h
theorem RpA.app : ∀ {vs ws : List V} {ds es : List D}, RpA M H vs ds → RpA M H ws es → RpA M H (vs ++ ws) (ds ++ es)
  | [], _, [], _, _, h => h
  | _ :: _, _, _ :: _, _, h, h2 => by
    cases h with
    | cons a b => exact .cons a (RpA.app b h2)
  | [], _, _ :: _, _, h, _ => by cases h
  | _ :: _, _, [], _, h, _ => by cases h
theorem RpA.at {i : Nat} : ∀ {vs : List V} {ds : List D}, RpA M H vs ds → ∀ {d : D}, ds[i]? = some d → ∃ v, vs[i]? = some v ∧ Rp M H v d := by
  induction i with
  | zero =>
    intro vs ds h d e
    cases h with
    | nil => cases e
    | cons a b => cases e; exact ⟨_, rfl, a⟩
  | succ i ih =>
    intro vs ds h d e
    cases h with
    | nil => cases e
    | cons a b => exact ih b (by simpa using e)
theorem RpA.atv {i : Nat} : ∀ {vs : List V} {ds : List D}, RpA M H vs ds → ∀ {v : V}, vs[i]? = some v → ∃ d, ds[i]? = some d ∧ Rp M H v d := by
  induction i with
  | zero =>
    intro vs ds h d e
    cases h with
    | nil => cases e
    | cons a b => cases e; exact ⟨_, rfl, a⟩
  | succ i ih =>
    intro vs ds h d e
    cases h with
    | nil => cases e
    | cons a b => exact ih b (by simpa using e)
theorem RpA.take (n : Nat) : ∀ {vs : List V} {ds : List D}, RpA M H vs ds → RpA M H (vs.take n) (ds.take n) := by
  induction n with
  | zero => intro vs ds _; exact .nil
  | succ n ih =>
    intro vs ds h
    cases h with
    | nil => exact .nil
    | cons a b => exact .cons a (ih b)
theorem RpA.drop (n : Nat) : ∀ {vs : List V} {ds : List D}, RpA M H vs ds → RpA M H (vs.drop n) (ds.drop n) := by
  induction n with
  | zero => intro vs ds h; exact h
  | succ n ih =>
    intro vs ds h
    cases h with
    | nil => exact .nil
    | cons a b => exact ih b
theorem RpA.set (n : Nat) {v : V} {d : D} (r : Rp M H v d) : ∀ {vs : List V} {ds : List D}, RpA M H vs ds → RpA M H (vs.set n v) (ds.set n d) := by
  induction n with
  | zero =>
    intro vs ds h
    cases h with
    | nil => exact .nil
    | cons a b => exact .cons r b
  | succ n ih =>
    intro vs ds h
    cases h with
    | nil => exact .nil
    | cons a b => exact .cons a (ih b)
theorem RpA.erase (n : Nat) : ∀ {vs : List V} {ds : List D}, RpA M H vs ds → RpA M H (vs.eraseIdx n) (ds.eraseIdx n) := by
  induction n with
  | zero =>
    intro vs ds h
    cases h with
    | nil => exact .nil
    | cons a b => exact b
  | succ n ih =>
    intro vs ds h
    cases h with
    | nil => exact .nil
    | cons a b => exact .cons a (ih b)
theorem RpA.rev : ∀ {vs : List V} {ds : List D}, RpA M H vs ds → RpA M H vs.reverse ds.reverse
  | [], [], _ => .nil
  | _ :: _, _ :: _, h => by
    cases h with
    | cons a b =>
      rw [List.reverse_cons, List.reverse_cons]
      exact RpA.app (RpA.rev b) (.cons a .nil)
  | [], _ :: _, h => by cases h
  | _ :: _, [], h => by cases h
theorem RpA.rep (k : Nat) {vs : List V} {ds : List D} (h : RpA M H vs ds) : RpA M H (List.replicate k vs).flatten (List.replicate k ds).flatten := by
  induction k with
  | zero => exact .nil
  | succ k ih =>
    rw [List.replicate_succ, List.flatten_cons, List.replicate_succ, List.flatten_cons]
    exact RpA.app h ih
theorem RpA.ints (ns : List Int) : RpA M H (ns.map V.int) (ns.map D.int) := by
  induction ns with
  | nil => exact .nil
  | cons n ns ih => exact .cons (.int n) ih
end
end U
/-! U2: environments of data; what an expression, a test, arguments, statements come to. -/
namespace U
open PySem PySem.Spec PyProof.Rows L2
/-- what a law keeps on changing: its addresses, and what holds of them -/
structure Vol where
  T : Ex
  J : Hw → Prop
  keep : ∀ {H H' : Hw}, J H → (∀ a, T a → H' a = H a) → J H'
  known : ∀ {H : Hw} {a : Addr}, J H → T a → H a ≠ none
def Vol.empty : Vol := ⟨fun _ => False, fun _ => True, fun _ _ => trivial, fun _ h => h.elim⟩
/-- a slot: unknown, data, a list or a dict that this body alone holds -/
inductive Sl where
  | un | dat (d : D) | own (ds : List D) | ownD (kvs : List (L2.Key × D))
abbrev Ga := List Sl
def Sl.mine : Sl → Bool
  | .own _ => true
  | .ownD _ => true
  | _ => false
def Ow (σ : Sw) (Γ : Ga) (a : Addr) : Prop := ∃ (i : Nat) (s : Sl), Γ[i]? = some s ∧ s.mine = true ∧ σ[i]? = some (some (V.ref a))
def Mx (M : Ex) (σ : Sw) (Γ : Ga) (a : Addr) : Prop := M a ∨ Ow σ Γ a
structure ER (U : Vol) (M : Ex) (H : Hw) (σ : Sw) (Γ : Ga) : Prop where
  tm : ∀ a, U.T a → M a
  kn : ∀ a, M a → H a ≠ none
  j : U.J H
  len : σ.length = Γ.length
  dat : ∀ (i : Nat) (d : D), Γ[i]? = some (.dat d) → ∃ v, σ[i]? = some (some v) ∧ Rp (Mx M σ Γ) H v d
  own : ∀ (i : Nat) (ds : List D), Γ[i]? = some (.own ds) → ∃ a xs, σ[i]? = some (some (.ref a)) ∧ H a = some (.lst xs) ∧ ¬ M a ∧ RpA (Mx M σ Γ) H xs ds
  ownD : ∀ (i : Nat) (kvs : List (L2.Key × D)), Γ[i]? = some (.ownD kvs) → ∃ a xs, σ[i]? = some (some (.ref a)) ∧ H a = some (.dK xs) ∧ ¬ M a ∧ RpK (Mx M σ Γ) H xs kvs
  sep : ∀ (i j : Nat) (s t : Sl) (a : Addr), Γ[i]? = some s → Γ[j]? = some t → s.mine = true → t.mine = true → σ[i]? = some (some (.ref a)) → σ[j]? = some (some (.ref a)) → i = j
structure Step (U : Vol) (σ : Sw) (Γ : Ga) (H : Hw) (σ' : Sw) (Γ' : Ga) (H' : Hw) : Prop where
  fr : ∀ a o, ¬ U.T a → ¬ Ow σ Γ a → H a = some o → H' a = some o
  og : ∀ a, Ow σ' Γ' a → Ow σ Γ a ∨ H a = none
def Grow (H H' : Hw) : Prop := ∀ a o, H a = some o → H' a = some o
theorem Grow.refl (H : Hw) : Grow H H := fun _ _ h => h
theorem Grow.trans {H H1 H2 : Hw} (a : Grow H H1) (b : Grow H1 H2) : Grow H H2 := fun x o h => b x o (a x o h)
theorem Grow.new {H : Hw} {p : Addr} {o : HO} (h : H p = none) : Grow H (upd H p o) := fun a u e => by
  rw [upd_ne (ne_of_none e h)]
  exact e
theorem Grow.goes {H H' : Hw} {M : Ex} (g : Grow H H') : Goes M M H H' := ⟨fun a o m e => ⟨g a o e, m⟩⟩
section
variable {U : Vol} {M : Ex} {H H1 H2 : Hw} {σ σ1 σ2 : Sw} {Γ Γ1 Γ2 : Ga}
theorem Step.refl : Step U σ Γ H σ Γ H := ⟨fun _ _ _ _ h => h, fun _ h => .inl h⟩
theorem ER.own_ne (r : ER U M H σ Γ) {a : Addr} (h : Ow σ Γ a) : ¬ M a ∧ H a ≠ none := by
  obtain ⟨i, s, h1, h2, h3⟩ := h
  cases s with
  | un => cases h2
  | dat d => cases h2
  | own ds =>
    obtain ⟨b, xs, e1, e2, e3, _⟩ := r.own i ds h1
    rw [h3] at e1
    cases e1
    exact ⟨e3, by rw [e2]; simp⟩
  | ownD ds =>
    obtain ⟨b, xs, e1, e2, e3, _⟩ := r.ownD i ds h1
    rw [h3] at e1
    cases e1
    exact ⟨e3, by rw [e2]; simp⟩
theorem ER.mx (r : ER U M H σ Γ) : ∀ a, Mx M σ Γ a → H a ≠ none := fun a h => h.elim (r.kn a) fun z => (r.own_ne z).2
theorem Step.trans (r1 : ER U M H1 σ1 Γ1) (a : Step U σ Γ H σ1 Γ1 H1) (b : Step U σ1 Γ1 H1 σ2 Γ2 H2) : Step U σ Γ H σ2 Γ2 H2 where
  fr := fun x o t n e => by
    refine b.fr x o t (fun z => ?_) (a.fr x o t n e)
    rcases a.og x z with z | z
    · exact n z
    · rw [e] at z; cases z
  og := fun x z => by
    rcases b.og x z with z | z
    · exact a.og x z
    · by_cases n : Ow σ Γ x
      · exact .inl n
      · refine .inr ?_
        cases e : H x with
        | none => rfl
        | some o =>
          have t : ¬ U.T x := fun t => r1.kn x (r1.tm x t) z
          rw [a.fr x o t n e] at z
          cases z
theorem ER.grow (r : ER U M H σ Γ) (g : Grow H H1) : ER U M H1 σ Γ where
  tm := r.tm
  kn := fun a m => by
    obtain ⟨o, e⟩ := Option.ne_none_iff_exists'.mp (r.kn a m)
    rw [g a o e]
    simp
  j := U.keep r.j fun a t => by
    obtain ⟨o, e⟩ := Option.ne_none_iff_exists'.mp (r.kn a (r.tm a t))
    rw [g a o e, e]
  len := r.len
  dat := fun i d e => by
    obtain ⟨v, h1, h2⟩ := r.dat i d e
    exact ⟨v, h1, Rp.to g.goes _ _ h2⟩
  own := fun i d e => by
    obtain ⟨a, xs, h1, h2, h3, h4⟩ := r.own i d e
    exact ⟨a, xs, h1, g _ _ h2, h3, RpA.to g.goes _ _ h4⟩
  ownD := fun i d e => by
    obtain ⟨a, xs, h1, h2, h3, h4⟩ := r.ownD i d e
    exact ⟨a, xs, h1, g _ _ h2, h3, RpK.to g.goes _ _ h4⟩
  sep := r.sep
end
end U
/-! U3: the judgements and how they go on. -/
namespace U
open PySem PySem.Spec PyProof.Rows L2
/-- a body's surroundings -/
structure Co where
  X : Cx
  U : Vol
  M : Ex
  E : Addr → Option (Str × D) → Ga → Prop
structure wpE (X : Cx) (e : Expr) (σ : Sw) (H : Hw) (Q : VK) : Prop where
  run : ∀ (pins : List (Addr × Obj)) (s : Shared), Inv X pins σ H s → wpAny (model X.prog X.w) X.A (eval e X.env) (EP X pins σ Q) X.xe s
structure wpT (X : Cx) (e : Expr) (σ : Sw) (H : Hw) (Q : Bool → Hw → Prop) : Prop where
  run : ∀ (pins : List (Addr × Obj)) (s : Shared), Inv X pins σ H s → wpAny (model X.prog X.w) X.A (isTrue e X.env (eval e X.env)) (TP X pins σ Q) X.xe s
structure wpA (X : Cx) (es : List Expr) (σ : Sw) (H : Hw) (Q : List V → Hw → Prop) : Prop where
  run : ∀ (pos : Pos) (pins : List (Addr × Obj)) (s : Shared), Inv X pins σ H s → wpAny (model X.prog X.w) X.A (spliced (backTo pos (starEach es X.env))) (AP X pins σ Q) X.xe s
structure wpK (X : Cx) (kws : List Keyword) (σ : Sw) (H : Hw) (Q : List V → Hw → Prop) : Prop where
  run : ∀ (pos : Pos) (pins : List (Addr × Obj)) (s : Shared), Inv X pins σ H s → wpAny (model X.prog X.w) X.A (evalAll ((backToKw pos (keywordEach kws X.env)).map (·.2))) (AP X pins σ Q) X.xe s
structure wpS (X : Cx) (st : Stmt) (D : Ends) (σ : Sw) (H : Hw) : Prop where
  run : ∀ (pins : List (Addr × Obj)) (s : Shared), Inv X pins σ H s → wpAny (model X.prog X.w) X.A (exec st X.env) (SP X pins D) X.xe s
structure wpB (X : Cx) (sts : List Stmt) (D : Ends) (σ : Sw) (H : Hw) : Prop where
  run : ∀ (pins : List (Addr × Obj)) (s : Shared), Inv X pins σ H s → wpAny (model X.prog X.w) X.A (execs sts X.env) (SP X pins D) X.xe s
section
variable {X : Cx} {e : Expr} {es : List Expr} {kws : List Keyword} {st : Stmt} {sts : List Stmt} {σ : Sw} {H : Hw}
theorem selfE : PE X e (wpE X e) := ⟨fun pins s _ _ _ I h => h.run pins s I⟩
theorem selfT : PT X e (wpT X e) := ⟨fun pins s _ _ _ I h => h.run pins s I⟩
theorem selfA : PA X es (wpA X es) := ⟨fun pos pins s _ _ _ I h => h.run pos pins s I⟩
theorem selfK : PK X kws (wpK X kws) := ⟨fun pos pins s _ _ _ I h => h.run pos pins s I⟩
theorem selfS : PS X st (wpS X st) := ⟨fun pins s _ _ _ I h => h.run pins s I⟩
theorem selfB : PSs X sts (wpB X sts) := ⟨fun pins s _ _ _ I h => h.run pins s I⟩
theorem outE {t : TE} {Q : VK} (h : PE X e t) (q : t σ H Q) : wpE X e σ H Q := ⟨fun pins s I => h.run pins s σ H Q I q⟩
theorem outT {t : TT} {Q : Bool → Hw → Prop} (h : PT X e t) (q : t σ H Q) : wpT X e σ H Q := ⟨fun pins s I => h.run pins s σ H Q I q⟩
theorem outA {t : TA} {Q : List V → Hw → Prop} (h : PA X es t) (q : t σ H Q) : wpA X es σ H Q := ⟨fun pos pins s I => h.run pos pins s σ H Q I q⟩
theorem outK {t : TA} {Q : List V → Hw → Prop} (h : PK X kws t) (q : t σ H Q) : wpK X kws σ H Q := ⟨fun pos pins s I => h.run pos pins s σ H Q I q⟩
theorem outS {t : TS} {D : Ends} (h : PS X st t) (q : t D σ H) : wpS X st D σ H := ⟨fun pins s I => h.run pins s σ H D I q⟩
theorem outB {t : TS} {D : Ends} (h : PSs X sts t) (q : t D σ H) : wpB X sts D σ H := ⟨fun pins s I => h.run pins s σ H D I q⟩
end
/-! ### goings -/
def sh (Γ : Ga) : List Bool := Γ.map Sl.mine
theorem sh_at {Γ Γ' : Ga} (h : sh Γ' = sh Γ) {i : Nat} {s : Sl} (e : Γ[i]? = some s) (m : s.mine = true) : ∃ t, Γ'[i]? = some t ∧ t.mine = true := by
  have q : (sh Γ')[i]? = some true := by
    rw [h]
    show (Γ.map Sl.mine)[i]? = some true
    rw [List.getElem?_map, e]
    simp [m]
  have q' : (Γ'.map Sl.mine)[i]? = some true := q
  rw [List.getElem?_map] at q'
  obtain ⟨t, h1, h2⟩ := Option.map_eq_some_iff.mp q'
  exact ⟨t, h1, h2⟩
theorem ow_sh {σ : Sw} {Γ Γ' : Ga} (h : sh Γ' = sh Γ) {a : Addr} (o : Ow σ Γ a) : Ow σ Γ' a := by
  obtain ⟨i, s, h1, h2, h3⟩ := o
  obtain ⟨t, q1, q2⟩ := sh_at h h1 h2
  exact ⟨i, t, q1, q2, h3⟩
theorem mx_sh {M : Ex} {σ : Sw} {Γ Γ' : Ga} (h : sh Γ' = sh Γ) {a : Addr} (o : Mx M σ Γ a) : Mx M σ Γ' a := o.elim .inl fun z => .inr (ow_sh h z)
/-- from (Γ, H) to (Γ', H'), the slots as they were -/
structure Go (c : Co) (σ : Sw) (Γ : Ga) (H : Hw) (Γ' : Ga) (H' : Hw) : Prop where
  st : Step c.U σ Γ H σ Γ' H'
  sh : sh Γ' = sh Γ
  er : ER c.U c.M H' σ Γ'
section
variable {c : Co} {σ : Sw} {Γ Γ1 Γ2 : Ga} {H H1 H2 : Hw}
theorem Go.refl (r : ER c.U c.M H σ Γ) : Go c σ Γ H Γ H := ⟨.refl, rfl, r⟩
theorem Go.trans (a : Go c σ Γ H Γ1 H1) (b : Go c σ Γ1 H1 Γ2 H2) : Go c σ Γ H Γ2 H2 := ⟨a.st.trans a.er b.st, b.sh.trans a.sh, b.er⟩
theorem Go.grow (a : Go c σ Γ H Γ1 H1) (g : Grow H1 H2) : Go c σ Γ H Γ1 H2 := a.trans ⟨⟨fun x o _ _ e => g x o e, fun x h => .inl h⟩, rfl, a.er.grow g⟩
/-- data outlives a going -/
theorem Go.goes (r : ER c.U c.M H σ Γ) (a : Go c σ Γ H Γ1 H1) : Goes (Mx c.M σ Γ) (Mx c.M σ Γ1) H H1 := ⟨fun x o m e => ⟨a.st.fr x o (fun t => m (.inl (r.tm x t))) (fun z => m (.inr z)) e, fun z => m (mx_sh a.sh.symm z)⟩⟩
end
/-- what is wanted of an exception, from here -/
def XW (c : Co) (σ : Sw) (Γ : Ga) (H : Hw) (W : WX) : Prop := ∀ (C : Addr) (fo : Option (Str × D)) (dx : Option Addr) (σ' : Sw) (Γ' : Ga) (H' : Hw), Step c.U σ Γ H σ' Γ' H' → ER c.U c.M H' σ' Γ' →
  (∀ f x, fo = some (f, x) → ∃ a v, dx = some a ∧ H' a = some (.xd [(f, v)]) ∧ Rp (Mx c.M σ' Γ') H' v x) → c.E C fo Γ' → W (.ref C) dx σ' H'
theorem XW.on {c : Co} {σ : Sw} {Γ : Ga} {H : Hw} {W : WX} (x : XW c σ Γ H W) {σ1 : Sw} {Γ1 : Ga} {H1 : Hw} (r : ER c.U c.M H1 σ1 Γ1) (s : Step c.U σ Γ H σ1 Γ1 H1) : XW c σ1 Γ1 H1 W :=
  fun C fo dx σ' Γ' H' s' r' f e => x C fo dx σ' Γ' H' (s.trans r s') r' f e
/-! ### the judgements -/
def Ev (c : Co) (e : Expr) (Γ : Ga) (P : D → Ga → Prop) : Prop := ∀ (σ : Sw) (H : Hw), ER c.U c.M H σ Γ → ∀ (Q : VK) (W : WX), Takes c.X W → XW c σ Γ H W →
  (∀ v d Γ' H', Go c σ Γ H Γ' H' → Rp (Mx c.M σ Γ') H' v d → P d Γ' → Q v H') → wpE c.X e σ H Q
def Tv (c : Co) (e : Expr) (Γ : Ga) (P : Bool → Ga → Prop) : Prop := ∀ (σ : Sw) (H : Hw), ER c.U c.M H σ Γ → ∀ (Q : Bool → Hw → Prop) (W : WX), Takes c.X W → XW c σ Γ H W →
  (∀ b Γ' H', Go c σ Γ H Γ' H' → P b Γ' → Q b H') → wpT c.X e σ H Q
def Av (c : Co) (es : List Expr) (Γ : Ga) (P : List D → Ga → Prop) : Prop := ∀ (σ : Sw) (H : Hw), ER c.U c.M H σ Γ → ∀ (Q : List V → Hw → Prop) (W : WX), Takes c.X W → XW c σ Γ H W →
  (∀ vs ds Γ' H', Go c σ Γ H Γ' H' → RpA (Mx c.M σ Γ') H' vs ds → P ds Γ' → Q vs H') → wpA c.X es σ H Q
def Kv (c : Co) (es : List Keyword) (Γ : Ga) (P : List D → Ga → Prop) : Prop := ∀ (σ : Sw) (H : Hw), ER c.U c.M H σ Γ → ∀ (Q : List V → Hw → Prop) (W : WX), Takes c.X W → XW c σ Γ H W →
  (∀ vs ds Γ' H', Go c σ Γ H Γ' H' → RpA (Mx c.M σ Γ') H' vs ds → P ds Γ' → Q vs H') → wpK c.X es σ H Q
/-- the ends of a statement -/
structure Oc where
  nx : Ga → Prop
  rt : D → Prop
  bk : Ga → Prop := fun _ => False
  ct : Ga → Prop := fun _ => False
structure Ends' (c : Co) (σ : Sw) (Γ : Ga) (H : Hw) (R : Oc) (W : WX) (Dd : Ends) : Prop where
  nx : ∀ σ' Γ' H', Step c.U σ Γ H σ' Γ' H' → ER c.U c.M H' σ' Γ' → R.nx Γ' → Dd.nx σ' H'
  rt : ∀ v d H', (∀ a o, ¬ c.U.T a → ¬ Ow σ Γ a → H a = some o → H' a = some o) → c.U.J H' → Rp c.M H' v d → R.rt d → Dd.rt v H'
  bk : ∀ σ' Γ' H', Step c.U σ Γ H σ' Γ' H' → ER c.U c.M H' σ' Γ' → R.bk Γ' → Dd.bk σ' H'
  ct : ∀ σ' Γ' H', Step c.U σ Γ H σ' Γ' H' → ER c.U c.M H' σ' Γ' → R.ct Γ' → Dd.ct σ' H'
  xw : XW c σ Γ H W
theorem Ends'.on {c : Co} {σ : Sw} {Γ : Ga} {H : Hw} {R : Oc} {W : WX} {Dd : Ends} (k : Ends' c σ Γ H R W Dd) {σ1 : Sw} {Γ1 : Ga} {H1 : Hw} (r : ER c.U c.M H1 σ1 Γ1) (s : Step c.U σ Γ H σ1 Γ1 H1) : Ends' c σ1 Γ1 H1 R W Dd where
  nx := fun σ' Γ' H' s' r' p => k.nx σ' Γ' H' (s.trans r s') r' p
  rt := fun v d H' f j p q => k.rt v d H' (fun a o t n e => f a o t (fun z => (s.og a z).elim n fun y => by rw [e] at y; cases y) (s.fr a o t n e)) j p q
  bk := fun σ' Γ' H' s' r' p => k.bk σ' Γ' H' (s.trans r s') r' p
  ct := fun σ' Γ' H' s' r' p => k.ct σ' Γ' H' (s.trans r s') r' p
  xw := k.xw.on r s
def S1 (c : Co) (st : Stmt) (Γ : Ga) (R : Oc) : Prop := ∀ (σ : Sw) (H : Hw), ER c.U c.M H σ Γ → ∀ (W : WX) (Dd : Ends), Takes c.X W → Ends' c σ Γ H R W Dd → wpS c.X st Dd σ H
def Sv (c : Co) (sts : List Stmt) (Γ : Ga) (R : Oc) : Prop := ∀ (σ : Sw) (H : Hw), ER c.U c.M H σ Γ → ∀ (W : WX) (Dd : Ends), Takes c.X W → Ends' c σ Γ H R W Dd → wpB c.X sts Dd σ H
/-- data to be read: what it holds is outside M, itself perhaps not -/
inductive Rq (M : Ex) (H : Hw) : V → D → Prop
  | of {v : V} {d : D} : Rp M H v d → Rq M H v d
  | lst {a : Addr} {xs : List V} {ds : List D} : H a = some (.lst xs) → RpA M H xs ds → Rq M H (.ref a) (.lst ds)
  | dic {a : Addr} {kvs : List (L2.Key × V)} {ds : List (L2.Key × D)} : H a = some (.dK kvs) → RpK M H kvs ds → Rq M H (.ref a) (.dic ds)
inductive RqA (M : Ex) (H : Hw) : List V → List D → Prop
  | nil : RqA M H [] []
  | cons {v : V} {vs : List V} {d : D} {ds : List D} : Rq M H v d → RqA M H vs ds → RqA M H (v :: vs) (d :: ds)
section
variable {M : Ex} {H : Hw} {v : V}
theorem RqA.of : ∀ {vs : List V} {ds : List D}, RpA M H vs ds → RqA M H vs ds
  | [], [], _ => .nil
  | _ :: _, _ :: _, h => by
    cases h with
    | cons a b => exact .cons (.of a) (RqA.of b)
  | [], _ :: _, h => by cases h
  | _ :: _, [], h => by cases h
theorem Rq.int_ {i : Int} (h : Rq M H v (.int i)) : v = .int i := by
  cases h with
  | of h => cases h; rfl
theorem Rq.bl_ {i : Bool} (h : Rq M H v (.bl i)) : v = .bl i := by
  cases h with
  | of h => cases h; rfl
theorem Rq.str_ {i : Str} (h : Rq M H v (.str i)) : v = .str i := by
  cases h with
  | of h => cases h; rfl
theorem Rq.non_ (h : Rq M H v .non) : v = .non := by
  cases h with
  | of h => cases h; rfl
theorem Rq.lst_ {ds : List D} (h : Rq M H v (.lst ds)) : ∃ a xs, v = .ref a ∧ H a = some (.lst xs) ∧ RpA M H xs ds := by
  cases h with
  | of h => cases h with
    | lst a b c => exact ⟨_, _, rfl, a, c⟩
  | lst a b => exact ⟨_, _, rfl, a, b⟩
theorem Rq.tup_ {ds : List D} (h : Rq M H v (.tup ds)) : ∃ a xs, v = .ref a ∧ H a = some (.tup xs) ∧ ¬ M a ∧ RpA M H xs ds := by
  cases h with
  | of h => cases h with
    | tup a b c => exact ⟨_, _, rfl, a, b, c⟩
theorem Rq.dic_ {ds : List (L2.Key × D)} (h : Rq M H v (.dic ds)) : ∃ a xs, v = .ref a ∧ H a = some (.dK xs) ∧ RpK M H xs ds := by
  cases h with
  | of h => cases h with
    | dic a b c => exact ⟨_, _, rfl, a, c⟩
  | dic a b => exact ⟨_, _, rfl, a, b⟩
end
def EvQ (c : Co) (e : Expr) (Γ : Ga) (P : D → Ga → Prop) : Prop := ∀ (σ : Sw) (H : Hw), ER c.U c.M H σ Γ → ∀ (Q : VK) (W : WX), Takes c.X W → XW c σ Γ H W →
  (∀ v d Γ' H', Go c σ Γ H Γ' H' → Rq (Mx c.M σ Γ') H' v d → P d Γ' → Q v H') → wpE c.X e σ H Q
/-! ### operations by values -/
/-- x op y comes to z, new objects at most -/
def Vo2 (r : R2) (x y z : D) : Prop := ∀ (M : Ex) (H : Hw) (v w : V), (∀ a, M a → H a ≠ none) → Rq M H v x → Rq M H w y → ∀ Q : VK, (∀ u H', Grow H H' → Rp M H' u z → Q u H') → r v w H Q
def Vo1 (r : V → Hw → VK → Prop) (x z : D) : Prop := ∀ (M : Ex) (H : Hw) (v : V), (∀ a, M a → H a ≠ none) → Rq M H v x → ∀ Q : VK, (∀ u H', Grow H H' → Rp M H' u z → Q u H') → r v H Q
def Von (r : List V → Hw → VK → Prop) (xs : List D) (z : D) : Prop := ∀ (M : Ex) (H : Hw) (vs : List V), (∀ a, M a → H a ≠ none) → RqA M H vs xs → ∀ Q : VK, (∀ u H', Grow H H' → Rp M H' u z → Q u H') → r vs H Q
section
variable {c : Co} {Γ : Ga} {P : D → Ga → Prop} {e a b : Expr} {es : List Expr}
theorem ev_mono {P' : D → Ga → Prop} (h : Ev c e Γ P) (k : ∀ d Γ', P d Γ' → P' d Γ') : Ev c e Γ P' := fun σ H r Q W tk xw q => h σ H r Q W tk xw fun v d Γ' H' g p hp => q v d Γ' H' g p (k d Γ' hp)
theorem eq_of (h : Ev c e Γ P) : EvQ c e Γ P := fun σ H r Q W tk xw q => h σ H r Q W tk xw fun v d Γ' H' g p hp => q v d Γ' H' g (.of p) hp
theorem eq_own {x : Str} {pos : Pos} {ds : List D} (i : Nat) (hN : c.X.N[i]? = some x) (hv : Vis c.X.env.scope x) (hd : Γ[i]? = some (.own ds)) (h : P (.lst ds) Γ) (hdb : (x == ("__debug__" : Str)) = false := by decide) (hcd : (x == ("__classdict__" : Str)) = false := by decide) : EvQ c (.Name x pos) Γ P := fun σ H er Q W tk xw q => by
  obtain ⟨a, xs, e, h1, _, p⟩ := er.own i ds hd
  exact outE (pe_var hN hv hdb hcd) ⟨_, e, q _ _ Γ H (.refl er) (.lst h1 p) h⟩
theorem eq_ownD {x : Str} {pos : Pos} {ds : List (L2.Key × D)} (i : Nat) (hN : c.X.N[i]? = some x) (hv : Vis c.X.env.scope x) (hd : Γ[i]? = some (.ownD ds)) (h : P (.dic ds) Γ) (hdb : (x == ("__debug__" : Str)) = false := by decide) (hcd : (x == ("__classdict__" : Str)) = false := by decide) : EvQ c (.Name x pos) Γ P := fun σ H er Q W tk xw q => by
  obtain ⟨a, xs, e, h1, _, p⟩ := er.ownD i ds hd
  exact outE (pe_var hN hv hdb hcd) ⟨_, e, q _ _ Γ H (.refl er) (.dic h1 p) h⟩
theorem ev2 {r : R2} (pe : PE c.X a (wpE c.X a) → PE c.X b (wpE c.X b) → PE c.X e (tOp r (wpE c.X a) (wpE c.X b))) (h : Ev c a Γ fun x Γ1 => EvQ c b Γ1 fun y Γ2 => ∃ z, Vo2 r x y z ∧ P z Γ2) : Ev c e Γ P := fun σ H er Q W tk xw q => by
  refine outE (pe selfE selfE) (h σ H er _ W tk xw fun v x Γ1 H1 g1 p1 hp => hp σ H1 g1.er _ W tk (xw.on g1.er g1.st) fun w y Γ2 H2 g2 p2 hz => ?_)
  obtain ⟨z, vo, hz⟩ := hz
  exact vo (Mx c.M σ Γ2) H2 v w g2.er.mx (.of (Rp.to (g2.goes g1.er) _ _ p1)) p2 Q fun u H3 g3 p3 => q u z Γ2 H3 ((g1.trans g2).grow g3) p3 hz
/-- the left operand a list of this body's own, the right one changing nothing -/
theorem ev2o {r : R2} {x : Str} {pos : Pos} {ds : List D} (i : Nat) (hN : c.X.N[i]? = some x) (hv : Vis c.X.env.scope x) (hd : Γ[i]? = some (.own ds)) (pe : PE c.X (.Name x pos) (tVar i) → PE c.X b (wpE c.X b) → PE c.X e (tOp r (tVar i) (wpE c.X b)))
    (h : EvQ c b Γ fun y Γ2 => Γ2[i]? = some (.own ds) ∧ ∃ z, Vo2 r (.lst ds) y z ∧ P z Γ2) (hdb : (x == ("__debug__" : Str)) = false := by decide) (hcd : (x == ("__classdict__" : Str)) = false := by decide) : Ev c e Γ P := fun σ H er Q W tk xw q => by
  obtain ⟨a, xs, e, h1, _, p⟩ := er.own i ds hd
  refine outE (pe (pe_var hN hv hdb hcd) selfE) ⟨_, e, h σ H er _ W tk xw fun w y Γ2 H2 g2 p2 hz => ?_⟩
  obtain ⟨hk, z, vo, hz⟩ := hz
  obtain ⟨a', xs', e', h1', _, p'⟩ := g2.er.own i ds hk
  rw [e] at e'
  cases e'
  exact vo (Mx c.M σ Γ2) H2 _ w g2.er.mx (.lst h1' p') p2 Q fun u H3 g3 p3 => q u z Γ2 H3 (g2.grow g3) p3 hz
theorem ev2oD {r : R2} {x : Str} {pos : Pos} {ds : List (L2.Key × D)} (i : Nat) (hN : c.X.N[i]? = some x) (hv : Vis c.X.env.scope x) (hd : Γ[i]? = some (.ownD ds)) (pe : PE c.X (.Name x pos) (tVar i) → PE c.X b (wpE c.X b) → PE c.X e (tOp r (tVar i) (wpE c.X b)))
    (h : EvQ c b Γ fun y Γ2 => Γ2[i]? = some (.ownD ds) ∧ ∃ z, Vo2 r (.dic ds) y z ∧ P z Γ2) (hdb : (x == ("__debug__" : Str)) = false := by decide) (hcd : (x == ("__classdict__" : Str)) = false := by decide) : Ev c e Γ P := fun σ H er Q W tk xw q => by
  obtain ⟨a, xs, e, h1, _, p⟩ := er.ownD i ds hd
  refine outE (pe (pe_var hN hv hdb hcd) selfE) ⟨_, e, h σ H er _ W tk xw fun w y Γ2 H2 g2 p2 hz => ?_⟩
  obtain ⟨hk, z, vo, hz⟩ := hz
  obtain ⟨a', xs', e', h1', _, p'⟩ := g2.er.ownD i ds hk
  rw [e] at e'
  cases e'
  exact vo (Mx c.M σ Γ2) H2 _ w g2.er.mx (.dic h1' p') p2 Q fun u H3 g3 p3 => q u z Γ2 H3 (g2.grow g3) p3 hz
theorem ev1 {r : V → Hw → VK → Prop} (pe : PE c.X a (wpE c.X a) → PE c.X e (tUn r (wpE c.X a))) (h : EvQ c a Γ fun x Γ1 => ∃ z, Vo1 r x z ∧ P z Γ1) : Ev c e Γ P := fun σ H er Q W tk xw q => by
  refine outE (pe selfE) (h σ H er _ W tk xw fun v x Γ1 H1 g1 p1 hz => ?_)
  obtain ⟨z, vo, hz⟩ := hz
  exact vo (Mx c.M σ Γ1) H1 v g1.er.mx p1 Q fun u H3 g3 p3 => q u z Γ1 H3 (g1.grow g3) p3 hz
theorem evn {r : List V → Hw → VK → Prop} (pe : PA c.X es (wpA c.X es) → PE c.X e (tCB r (wpA c.X es))) (h : Av c es Γ fun xs Γ1 => ∃ z, Von r xs z ∧ P z Γ1) : Ev c e Γ P := fun σ H er Q W tk xw q => by
  refine outE (pe selfA) (h σ H er _ W tk xw fun v x Γ1 H1 g1 p1 hz => ?_)
  obtain ⟨z, vo, hz⟩ := hz
  exact vo (Mx c.M σ Γ1) H1 v g1.er.mx (.of p1) Q fun u H3 g3 p3 => q u z Γ1 H3 (g1.grow g3) p3 hz
/-- one argument, perhaps a list of this body's own -/
theorem evn1 {r : List V → Hw → VK → Prop} (pe : PA c.X [a] (tCons (wpE c.X a) tNil) → PE c.X e (tCB r (tCons (wpE c.X a) tNil))) (h : EvQ c a Γ fun x Γ1 => ∃ z, Von r [x] z ∧ P z Γ1) (hs : starEach [a] c.X.env = (false, eval a c.X.env) :: starEach [] c.X.env := by rfl) : Ev c e Γ P := fun σ H er Q W tk xw q => by
  refine outE (pe (pa_cons selfE pa_nil hs)) (h σ H er _ W tk xw fun v x Γ1 H1 g1 p1 hz => ?_)
  obtain ⟨z, vo, hz⟩ := hz
  exact vo (Mx c.M σ Γ1) H1 [v] g1.er.mx (.cons p1 .nil) Q fun u H3 g3 p3 => q u z Γ1 H3 (g1.grow g3) p3 hz
theorem av_nil {P : List D → Ga → Prop} (h : P [] Γ) : Av c [] Γ P := fun σ H er Q W tk xw q => outA pa_nil (q [] [] Γ H (.refl er) .nil h)
theorem av_cons {P : List D → Ga → Prop} (h : Ev c a Γ fun x Γ1 => Av c es Γ1 fun xs Γ2 => P (x :: xs) Γ2) (hs : starEach (a :: es) c.X.env = (false, eval a c.X.env) :: starEach es c.X.env := by rfl) : Av c (a :: es) Γ P := fun σ H er Q W tk xw q =>
  outA (pa_cons selfE selfA hs) (h σ H er _ W tk xw fun v x Γ1 H1 g1 p1 hp => hp σ H1 g1.er _ W tk (xw.on g1.er g1.st) fun vs xs Γ2 H2 g2 p2 hz => q _ _ Γ2 H2 (g1.trans g2) (.cons (Rp.to (g2.goes g1.er) _ _ p1) p2) hz)
theorem kv_nil {P : List D → Ga → Prop} (h : P [] Γ) : Kv c [] Γ P := fun σ H er Q W tk xw q => outK pk_nil (q [] [] Γ H (.refl er) .nil h)
theorem kv_cons {kws : List Keyword} {nm : Option Str} {kpos : Pos} {P : List D → Ga → Prop} (h : Ev c a Γ fun x Γ1 => Kv c kws Γ1 fun xs Γ2 => P (x :: xs) Γ2) : Kv c (⟨nm, a, kpos⟩ :: kws) Γ P := fun σ H er Q W tk xw q =>
  outK (pk_cons selfE selfK) (h σ H er _ W tk xw fun v x Γ1 H1 g1 p1 hp => hp σ H1 g1.er _ W tk (xw.on g1.er g1.st) fun vs xs Γ2 H2 g2 p2 hz => q _ _ Γ2 H2 (g1.trans g2) (.cons (Rp.to (g2.goes g1.er) _ _ p1) p2) hz)
/-- the left operand one's own list, in a comparison as a value, as a test -/
theorem ev_cmpo {op : CmpOp} {r : R2} {x : Str} {pos pos' : Pos} {ds : List D} (i : Nat) (hN : c.X.N[i]? = some x) (hv : Vis c.X.env.scope x) (hd : Γ[i]? = some (.own ds)) (ho : OpR c.X (compareOp op) r)
    (h : EvQ c b Γ fun y Γ2 => Γ2[i]? = some (.own ds) ∧ ∃ z, Vo2 r (.lst ds) y z ∧ P z Γ2) (hm : behindInMarks op b = false) (hdb : (x == ("__debug__" : Str)) = false := by decide) (hcd : (x == ("__classdict__" : Str)) = false := by decide) : Ev c (.Compare (.Name x pos') [op] [b] pos) Γ P := ev2o i hN hv hd (fun h1 h2 => pe_cmpR ho h1 h2 hm) h hdb hcd
/-! ### names and constants -/
theorem ev_var {x : Str} {pos : Pos} {d : D} (i : Nat) (hN : c.X.N[i]? = some x) (hv : Vis c.X.env.scope x) (hd : Γ[i]? = some (.dat d)) (h : P d Γ) (hdb : (x == ("__debug__" : Str)) = false := by decide) (hcd : (x == ("__classdict__" : Str)) = false := by decide) : Ev c (.Name x pos) Γ P := fun σ H er Q W tk xw q => by
  obtain ⟨v, e, p⟩ := er.dat i d hd
  exact outE (pe_var hN hv hdb hcd) ⟨v, e, q v d Γ H (.refl er) p h⟩
theorem ev_c {v : V} {d : D} (pe : PE c.X e (tC v)) (hv : ∀ M H, Rp M H v d) (h : P d Γ) : Ev c e Γ P := fun σ H er Q W tk xw q => outE pe (q v d Γ H (.refl er) (hv _ _) h)
theorem ev_int {i : Int} {j : Nat} {pos : Pos} (h : P (.int i) Γ) : Ev c (.Constant (.int i) j pos) Γ P := ev_c pe_int (fun _ _ => .int _) h
theorem ev_bl {i : Bool} {j : Nat} {pos : Pos} (h : P (.bl i) Γ) : Ev c (.Constant (.bool i) j pos) Γ P := ev_c pe_bl (fun _ _ => .bl _) h
theorem ev_non {j : Nat} {pos : Pos} (h : P .non Γ) : Ev c (.Constant .none j pos) Γ P := ev_c pe_non (fun _ _ => .non) h
theorem ev_str {x : Str} {j : Nat} {pos : Pos} (h : P (.str x) Γ) : Ev c (.Constant (.str x) j pos) Γ P := ev_c pe_str (fun _ _ => .str _) h
theorem ev_glob {x : Str} {i : Int} {t : Tok} {pos : Pos} (hm : c.X.mg x = some (.int i t)) (hg : Gl c.X x) (h : P (.int i) Γ) (hd : (x == ("__debug__" : Str)) = false := by decide) : Ev c (.Name x pos) Γ P := ev_c (pe_glob hg hm (v := .int i) ⟨t, rfl⟩ hd) (fun _ _ => .int _) h
theorem ev_globS {x : Str} {i : Str} {t : Tok} {pos : Pos} (hm : c.X.mg x = some (.str i t)) (hg : Gl c.X x) (h : P (.str i) Γ) (hd : (x == ("__debug__" : Str)) = false := by decide) : Ev c (.Name x pos) Γ P := ev_c (pe_glob hg hm (v := .str i) ⟨t, rfl⟩ hd) (fun _ _ => .str _) h
/-! ### tests -/
variable {T : Bool → Ga → Prop}
theorem tv_val (h : Ev c e Γ fun d Γ1 => ∃ k, d = .bl k ∧ T k Γ1) (he : ∀ whole, isTrue e c.X.env whole = (do let v ← whole; standAt e.pos; holding [v] (truthy v)) := by intro _; rfl) : Tv c e Γ T := fun σ H er Q W tk xw q =>
  outT (pt_val selfE he) (h σ H er _ W tk xw fun v d Γ1 H1 g p ⟨k, e, hk⟩ => by
    subst e
    cases p
    exact ⟨k, rfl, q k Γ1 H1 g hk⟩)
theorem tv_cmp {op : CmpOp} {r : R2} {pos : Pos} (ho : OpR c.X (compareOp op) r) (h : Ev c a Γ fun x Γ1 => EvQ c b Γ1 fun y Γ2 => ∃ k, Vo2 r x y (.bl k) ∧ T k Γ2) (hm : behindInMarks op b = false) : Tv c (.Compare a [op] [b] pos) Γ T := fun σ H er Q W tk xw q => by
  refine outT (pt_cmpR ho selfE selfE hm) (h σ H er _ W tk xw fun v x Γ1 H1 g1 p1 hp => hp σ H1 g1.er _ W tk (xw.on g1.er g1.st) fun w y Γ2 H2 g2 p2 hz => ?_)
  obtain ⟨k, vo, hz⟩ := hz
  refine vo (Mx c.M σ Γ2) H2 v w g2.er.mx (.of (Rp.to (g2.goes g1.er) _ _ p1)) p2 _ fun u H3 g3 p3 => ?_
  cases p3
  exact ⟨k, rfl, q k Γ2 H3 ((g1.trans g2).grow g3) hz⟩
theorem ev_cmp {op : CmpOp} {r : R2} {pos : Pos} (ho : OpR c.X (compareOp op) r) (h : Ev c a Γ fun x Γ1 => EvQ c b Γ1 fun y Γ2 => ∃ z, Vo2 r x y z ∧ P z Γ2) (hm : behindInMarks op b = false) : Ev c (.Compare a [op] [b] pos) Γ P := ev2 (fun h1 h2 => pe_cmpR ho h1 h2 hm) h
theorem ev_op {op : Operator} {r : R2} {pos : Pos} (ho : OpR c.X (binaryOp op) r) (h : Ev c a Γ fun x Γ1 => EvQ c b Γ1 fun y Γ2 => ∃ z, Vo2 r x y z ∧ P z Γ2) : Ev c (.BinOp a op b pos) Γ P := ev2 (fun h1 h2 => pe_op ho h1 h2) h
theorem ev_un {op : UnaryOp} {r : V → Hw → VK → Prop} {pos : Pos} (ho : UnR c.X (unaryOp op) r) (h : EvQ c a Γ fun x Γ1 => ∃ z, Vo1 r x z ∧ P z Γ1) : Ev c (.UnaryOp op a pos) Γ P := ev1 (fun h1 => pe_un ho h1) h
end
end U
/-! U4: slots stored, own lists made and changed; statements. -/
namespace U
open PySem PySem.Spec PyProof.Rows L2
section
variable {U : Vol} {M : Ex} {H H1 : Hw} {σ σ' : Sw} {Γ Γ' : Ga}
theorem at_set {α : Type} {l : List α} {i j : Nat} {x y : α} (h : (l.set i x)[j]? = some y) : (j = i ∧ y = x ∧ i < l.length) ∨ (j ≠ i ∧ l[j]? = some y) := by
  by_cases e : i = j
  · subst e
    rw [List.getElem?_set_self'] at h
    by_cases hl : i < l.length
    · rw [List.getElem?_eq_getElem hl] at h
      exact .inl ⟨rfl, (Option.some.inj h).symm, hl⟩
    · rw [List.getElem?_eq_none (by omega)] at h
      cases h
  · rw [List.getElem?_set_ne e] at h
    exact .inr ⟨fun z => e z.symm, h⟩
theorem set_at {α : Type} {l : List α} {i : Nat} {x : α} (h : i < l.length) : (l.set i x)[i]? = some x := by rw [List.getElem?_set_self h]
theorem set_off {α : Type} {l : List α} {i j : Nat} {x : α} (h : j ≠ i) : (l.set i x)[j]? = l[j]? := List.getElem?_set_ne fun z => h z.symm
/-- slots with data -/
theorem ow_set {i : Nat} {v : V} {s : Sl} (hs : s.mine = false) (a : Addr) (h : Ow (σ.set i (some v)) (Γ.set i s) a) : Ow σ Γ a := by
  obtain ⟨j, t, h1, h2, h3⟩ := h
  rcases at_set h1 with ⟨e, e2, _⟩ | ⟨e, h1⟩
  · rw [e2, hs] at h2
    cases h2
  · rw [set_off e] at h3
    exact ⟨j, t, h1, h2, h3⟩
theorem shrink (h : ∀ a, Ow σ' Γ' a → Ow σ Γ a) : Goes (Mx M σ Γ) (Mx M σ' Γ') H H := ⟨fun a o m e => ⟨e, fun z => m (z.elim .inl fun y => .inr (h a y))⟩⟩
theorem ER.set {v : V} {d : D} (r : ER U M H σ Γ) (i : Nat) (p : Rp (Mx M σ Γ) H v d) (hi : i < Γ.length) : ER U M H (σ.set i (some v)) (Γ.set i (.dat d)) := by
  have g : Goes (Mx M σ Γ) (Mx M (σ.set i (some v)) (Γ.set i (.dat d))) H H := shrink (ow_set rfl)
  have hσ : i < σ.length := by rw [r.len]; exact hi
  refine ⟨r.tm, r.kn, r.j, by rw [List.length_set, List.length_set, r.len], fun j e h => ?_, fun j e h => ?_, fun j e h => ?_, fun j k s t a h1 h2 m1 m2 h3 h4 => ?_⟩
  · rcases at_set h with ⟨e1, e2, _⟩ | ⟨e1, h⟩
    · cases e2
      subst e1
      exact ⟨v, set_at hσ, Rp.to g _ _ p⟩
    · obtain ⟨w, q1, q2⟩ := r.dat j e h
      exact ⟨w, (set_off e1).trans q1, Rp.to g _ _ q2⟩
  · rcases at_set h with ⟨e1, e2, _⟩ | ⟨e1, h⟩
    · cases e2
    · obtain ⟨a, xs, q1, q2, q3, q4⟩ := r.own j e h
      exact ⟨a, xs, (set_off e1).trans q1, q2, q3, RpA.to g _ _ q4⟩
  · rcases at_set h with ⟨e1, e2, _⟩ | ⟨e1, h⟩
    · cases e2
    · obtain ⟨a, xs, q1, q2, q3, q4⟩ := r.ownD j e h
      exact ⟨a, xs, (set_off e1).trans q1, q2, q3, RpK.to g _ _ q4⟩
  · rcases at_set h1 with ⟨e1, e2, _⟩ | ⟨e1, h1⟩
    · rw [e2] at m1; cases m1
    · rcases at_set h2 with ⟨e2, e3, _⟩ | ⟨e2, h2⟩
      · rw [e3] at m2; cases m2
      · rw [set_off e1] at h3
        rw [set_off e2] at h4
        exact r.sep j k s t a h1 h2 m1 m2 h3 h4
theorem step_set {v : V} {d : D} (i : Nat) : Step U σ Γ H (σ.set i (some v)) (Γ.set i (.dat d)) H := ⟨fun _ _ _ _ e => e, fun a h => .inl (ow_set rfl a h)⟩
/-- a slot forgotten -/
theorem ER.forget (r : ER U M H σ Γ) (i : Nat) (x : Option V) : ER U M H (σ.set i x) (Γ.set i .un) := by
  have ow : ∀ a, Ow (σ.set i x) (Γ.set i .un) a → Ow σ Γ a := fun a h => by
    obtain ⟨j, t, h1, h2, h3⟩ := h
    rcases at_set h1 with ⟨e, e2, _⟩ | ⟨e, h1⟩
    · rw [e2] at h2
      cases h2
    · rw [set_off e] at h3
      exact ⟨j, t, h1, h2, h3⟩
  have g : Goes (Mx M σ Γ) (Mx M (σ.set i x) (Γ.set i .un)) H H := shrink ow
  refine ⟨r.tm, r.kn, r.j, by rw [List.length_set, List.length_set, r.len], fun j e h => ?_, fun j e h => ?_, fun j e h => ?_, fun j k s t a h1 h2 m1 m2 h3 h4 => ?_⟩
  · rcases at_set h with ⟨e1, e2, _⟩ | ⟨e1, h⟩
    · cases e2
    · obtain ⟨w, q1, q2⟩ := r.dat j e h
      exact ⟨w, (set_off e1).trans q1, Rp.to g _ _ q2⟩
  · rcases at_set h with ⟨e1, e2, _⟩ | ⟨e1, h⟩
    · cases e2
    · obtain ⟨a, xs, q1, q2, q3, q4⟩ := r.own j e h
      exact ⟨a, xs, (set_off e1).trans q1, q2, q3, RpA.to g _ _ q4⟩
  · rcases at_set h with ⟨e1, e2, _⟩ | ⟨e1, h⟩
    · cases e2
    · obtain ⟨a, xs, q1, q2, q3, q4⟩ := r.ownD j e h
      exact ⟨a, xs, (set_off e1).trans q1, q2, q3, RpK.to g _ _ q4⟩
  · rcases at_set h1 with ⟨e1, e2, _⟩ | ⟨e1, h1⟩
    · rw [e2] at m1; cases m1
    · rcases at_set h2 with ⟨e2, e3, _⟩ | ⟨e2, h2⟩
      · rw [e3] at m2; cases m2
      · rw [set_off e1] at h3
        rw [set_off e2] at h4
        exact r.sep j k s t a h1 h2 m1 m2 h3 h4
/-- what of own lists, dicts: the object and what it stands for -/
inductive Ob (M : Ex) (H : Hw) : HO → Sl → Prop
  | lst {xs : List V} {ds : List D} : RpA M H xs ds → Ob M H (.lst xs) (.own ds)
  | dic {xs : List (L2.Key × V)} {ds : List (L2.Key × D)} : RpK M H xs ds → Ob M H (.dK xs) (.ownD ds)
theorem Ob.mine {o : HO} {s : Sl} (b : Ob M H o s) : s.mine = true := by cases b <;> rfl
theorem Ob.to {M' : Ex} {o : HO} {s : Sl} (g : Goes M M' H H1) (b : Ob M H o s) : Ob M' H1 o s := by
  cases b with
  | lst p => exact .lst (RpA.to g _ _ p)
  | dic p => exact .dic (RpK.to g _ _ p)
theorem ER.ob (r : ER U M H σ Γ) {i : Nat} {s : Sl} (h : Γ[i]? = some s) (m : s.mine = true) : ∃ a o, σ[i]? = some (some (.ref a)) ∧ H a = some o ∧ ¬ M a ∧ Ob (Mx M σ Γ) H o s := by
  cases s with
  | un => cases m
  | dat d => cases m
  | own ds =>
    obtain ⟨a, xs, q1, q2, q3, q4⟩ := r.own i ds h
    exact ⟨a, _, q1, q2, q3, .lst q4⟩
  | ownD ds =>
    obtain ⟨a, xs, q1, q2, q3, q4⟩ := r.ownD i ds h
    exact ⟨a, _, q1, q2, q3, .dic q4⟩
theorem ER.of (tm : ∀ a, U.T a → M a) (kn : ∀ a, M a → H a ≠ none) (j : U.J H) (len : σ.length = Γ.length)
    (dat : ∀ (i : Nat) (d : D), Γ[i]? = some (.dat d) → ∃ v, σ[i]? = some (some v) ∧ Rp (Mx M σ Γ) H v d)
    (ob : ∀ (i : Nat) (s : Sl), Γ[i]? = some s → s.mine = true → ∃ a o, σ[i]? = some (some (.ref a)) ∧ H a = some o ∧ ¬ M a ∧ Ob (Mx M σ Γ) H o s)
    (sep : ∀ (i j : Nat) (s t : Sl) (a : Addr), Γ[i]? = some s → Γ[j]? = some t → s.mine = true → t.mine = true → σ[i]? = some (some (.ref a)) → σ[j]? = some (some (.ref a)) → i = j) : ER U M H σ Γ := by
  refine ⟨tm, kn, j, len, dat, fun i ds h => ?_, fun i ds h => ?_, sep⟩
  · obtain ⟨a, o, q1, q2, q3, q4⟩ := ob i _ h rfl
    cases q4 with
    | lst p => exact ⟨a, _, q1, q2, q3, p⟩
  · obtain ⟨a, o, q1, q2, q3, q4⟩ := ob i _ h rfl
    cases q4 with
    | dic p => exact ⟨a, _, q1, q2, q3, p⟩
/-- a new object becomes one's own -/
theorem ER.make {p : Addr} {o : HO} {s : Sl} (r : ER U M H σ Γ) (i : Nat) (hi : i < Γ.length) (hp : H p = none) (b : Ob (Mx M σ Γ) H o s) :
    ER U M (upd H p o) (σ.set i (some (.ref p))) (Γ.set i s) ∧ Step U σ Γ H (σ.set i (some (.ref p))) (Γ.set i s) (upd H p o) := by
  have hσ : i < σ.length := by rw [r.len]; exact hi
  have gr : Grow H (upd H p o) := Grow.new hp
  have ow : ∀ a, Ow (σ.set i (some (.ref p))) (Γ.set i s) a → Ow σ Γ a ∨ a = p := fun a h => by
    obtain ⟨j, t, h1, h2, h3⟩ := h
    rcases at_set h1 with ⟨e, e2, _⟩ | ⟨e, h1⟩
    · subst e
      rw [set_at hσ] at h3
      cases h3
      exact .inr rfl
    · rw [set_off e] at h3
      exact .inl ⟨j, t, h1, h2, h3⟩
  have g : Goes (Mx M σ Γ) (Mx M (σ.set i (some (.ref p))) (Γ.set i s)) H (upd H p o) := ⟨fun a u m e => ⟨gr a u e, fun z => by
    rcases z with z | z
    · exact m (.inl z)
    · rcases ow a z with z | z
      · exact m (.inr z)
      · rw [z, hp] at e
        cases e⟩⟩
  have er := r.grow gr
  have pm : ¬ M p := fun z => r.kn p z hp
  refine ⟨ER.of r.tm er.kn er.j (by rw [List.length_set, List.length_set, r.len]) (fun j e h => ?_) (fun j t h m => ?_) (fun j k t u a h1 h2 m1 m2 h3 h4 => ?_), ⟨fun a u _ _ e => gr a u e, fun a h => (ow a h).elim .inl fun z => .inr (by rw [z]; exact hp)⟩⟩
  · rcases at_set h with ⟨e1, e2, _⟩ | ⟨e1, h⟩
    · have z := b.mine
      rw [← e2] at z
      cases z
    · obtain ⟨w, q1, q2⟩ := r.dat j e h
      exact ⟨w, (set_off e1).trans q1, Rp.to g _ _ q2⟩
  · rcases at_set h with ⟨e1, e2, _⟩ | ⟨e1, h⟩
    · subst e1
      subst e2
      exact ⟨p, o, set_at hσ, upd_same, pm, b.to g⟩
    · obtain ⟨a, u, q1, q2, q3, q4⟩ := r.ob h m
      exact ⟨a, u, (set_off e1).trans q1, gr _ _ q2, q3, q4.to g⟩
  · have ne : ∀ {j : Nat} {t : Sl}, Γ[j]? = some t → t.mine = true → σ[j]? = some (some (.ref p)) → False := fun {j t} h m e => by
      obtain ⟨a, u, q1, q2, _⟩ := r.ob h m
      rw [e] at q1
      cases q1
      rw [hp] at q2
      cases q2
    rcases at_set h1 with ⟨e1, _, _⟩ | ⟨e1, y1⟩
    · rcases at_set h2 with ⟨e2, _, _⟩ | ⟨e2, y2⟩
      · omega
      · rw [e1, set_at hσ] at h3
        cases h3
        rw [set_off e2] at h4
        exact (ne y2 m2 h4).elim
    · rcases at_set h2 with ⟨e2, _, _⟩ | ⟨e2, y2⟩
      · rw [e2, set_at hσ] at h4
        cases h4
        rw [set_off e1] at h3
        exact (ne y1 m1 h3).elim
      · rw [set_off e1] at h3
        rw [set_off e2] at h4
        exact r.sep j k t u a y1 y2 m1 m2 h3 h4
/-- one's own object is changed -/
theorem ER.mut {a : Addr} {o : HO} {s t : Sl} (r : ER U M H σ Γ) (i : Nat) (hs : Γ[i]? = some s) (ms : s.mine = true) (ha : σ[i]? = some (some (.ref a))) (b : Ob (Mx M σ Γ) H o t) :
    ER U M (upd H a o) σ (Γ.set i t) ∧ Step U σ Γ H σ (Γ.set i t) (upd H a o) ∧ sh (Γ.set i t) = sh Γ := by
  have hi : i < Γ.length := (List.getElem?_eq_some_iff.mp hs).1
  have oa : Ow σ Γ a := ⟨i, s, hs, ms, ha⟩
  have am : ¬ M a := (r.own_ne oa).1
  have es : sh (Γ.set i t) = sh Γ := by
    unfold sh
    apply List.ext_getElem?
    intro k
    rw [List.getElem?_map, List.getElem?_map]
    by_cases e : k = i
    · subst e
      rw [set_at hi, hs]
      show some t.mine = some s.mine
      rw [b.mine, ms]
    · rw [set_off e]
  have ow : ∀ x, Ow σ (Γ.set i t) x → Ow σ Γ x := fun x h => ow_sh es.symm h
  have fr : ∀ x u, x ≠ a → H x = some u → (upd H a o) x = some u := fun x u n e => by rw [upd_ne n]; exact e
  have g : Goes (Mx M σ Γ) (Mx M σ (Γ.set i t)) H (upd H a o) := ⟨fun x u m e => ⟨fr x u (fun z => m (.inr (by rw [z]; exact oa))) e, fun z => m (z.elim .inl fun y => .inr (ow x y))⟩⟩
  refine ⟨ER.of r.tm (fun x m z => ?_) (U.keep r.j fun x tx => upd_ne fun z => am (by rw [← z]; exact r.tm x tx)) (by rw [List.length_set, r.len]) (fun j e h => ?_) (fun j u h m => ?_) (fun j k u w x h1 h2 m1 m2 h3 h4 => ?_), ⟨fun x u _ n e => fr x u (fun z => n (by rw [z]; exact oa)) e, fun x h => .inl (ow x h)⟩, es⟩
  · rw [upd_ne fun y => am (by rw [← y]; exact m)] at z
    exact r.kn x m z
  · rcases at_set h with ⟨e1, e2, _⟩ | ⟨e1, h⟩
    · have z := b.mine
      rw [← e2] at z
      cases z
    · obtain ⟨w, q1, q2⟩ := r.dat j e h
      exact ⟨w, q1, Rp.to g _ _ q2⟩
  · rcases at_set h with ⟨e1, e2, _⟩ | ⟨e1, h⟩
    · subst e1
      subst e2
      exact ⟨a, o, ha, upd_same, am, b.to g⟩
    · obtain ⟨x, v, q1, q2, q3, q4⟩ := r.ob h m
      refine ⟨x, v, q1, fr _ _ (fun z => e1 ?_) q2, q3, q4.to g⟩
      rw [z] at q1
      exact r.sep j i u s a h hs m ms q1 ha
  · have old : ∀ {j : Nat} {u : Sl}, (Γ.set i t)[j]? = some u → u.mine = true → ∃ u', Γ[j]? = some u' ∧ u'.mine = true := fun {j u} h m => by
      rcases at_set h with ⟨e1, e2, _⟩ | ⟨e1, h⟩
      · subst e1
        exact ⟨s, hs, ms⟩
      · exact ⟨u, h, m⟩
    obtain ⟨u', p1, p2⟩ := old h1 m1
    obtain ⟨w', p3, p4⟩ := old h2 m2
    exact r.sep j k u' w' x p1 p3 p2 p4 h3 h4
/-- one's own list becomes data -/
theorem ER.freeze {ds : List D} (r : ER U M H σ Γ) (i : Nat) (hs : Γ[i]? = some (.own ds)) : ER U M H σ (Γ.set i (.dat (.lst ds))) ∧ Step U σ Γ H σ (Γ.set i (.dat (.lst ds))) H := by
  obtain ⟨a, xs, e1, e2, e3, e4⟩ := r.own i ds hs
  have ow : ∀ x, Ow σ (Γ.set i (.dat (.lst ds))) x → Ow σ Γ x := fun x h => by
    obtain ⟨j, t, h1, h2, h3⟩ := h
    rcases at_set h1 with ⟨e, e2, _⟩ | ⟨e, h1⟩
    · rw [e2] at h2
      cases h2
    · exact ⟨j, t, h1, h2, h3⟩
  have g : Goes (Mx M σ Γ) (Mx M σ (Γ.set i (.dat (.lst ds)))) H H := shrink ow
  have na : ¬ Mx M σ (Γ.set i (.dat (.lst ds))) a := fun z => by
    rcases z with z | z
    · exact e3 z
    · obtain ⟨j, t, h1, h2, h3⟩ := z
      rcases at_set h1 with ⟨e, e5, _⟩ | ⟨e, h1⟩
      · rw [e5] at h2
        cases h2
      · exact e (r.sep j i t _ a h1 hs h2 rfl h3 e1)
  refine ⟨ER.of r.tm r.kn r.j (by rw [List.length_set, r.len]) (fun j e h => ?_) (fun j t h m => ?_) (fun j k s t x h1 h2 m1 m2 h3 h4 => ?_), ⟨fun _ _ _ _ e => e, fun x h => .inl (ow x h)⟩⟩
  · rcases at_set h with ⟨q1, q2, _⟩ | ⟨q1, h⟩
    · subst q1
      cases q2
      exact ⟨_, e1, .lst e2 na (RpA.to g _ _ e4)⟩
    · obtain ⟨w, q1, q2⟩ := r.dat j e h
      exact ⟨w, q1, Rp.to g _ _ q2⟩
  · rcases at_set h with ⟨q1, q2, _⟩ | ⟨q1, h⟩
    · rw [q2] at m
      cases m
    · obtain ⟨x, v, p1, p2, p3, p4⟩ := r.ob h m
      exact ⟨x, v, p1, p2, p3, p4.to g⟩
  · rcases at_set h1 with ⟨q1, q2, _⟩ | ⟨q1, h1⟩
    · rw [q2] at m1; cases m1
    · rcases at_set h2 with ⟨q2, q3, _⟩ | ⟨q2, h2⟩
      · rw [q3] at m2; cases m2
      · exact r.sep j k s t x h1 h2 m1 m2 h3 h4
end
end U
/-! U5: statements, tests, displays, calls. -/
namespace U
open PySem PySem.Spec PyProof.Rows L2
/-- what a body's surroundings have -/
structure Bd (c : Co) (k : Nat) : Prop where
  calm : c.X.calm = true
  own : PassesOwn (model c.X.prog c.X.w) c.X.A c.X.env c.X.xe
  nd : c.X.N.Nodup
  hr : Room k c.X.A
  gd : c.X.A.guards = some []
theorem Go.length {c : Co} {σ : Sw} {Γ Γ' : Ga} {H H' : Hw} (g : Go c σ Γ H Γ' H') : Γ'.length = Γ.length := by
  have := congrArg List.length g.sh
  simpa [U.sh] using this
theorem ER.rp {U : Vol} {M : Ex} {H : Hw} {σ : Sw} {Γ : Ga} {v : V} {d : D} (r : ER U M H σ Γ) (p : Rp (Mx M σ Γ) H v d) : Rp M H v d := Rp.to ⟨fun a o m e => ⟨e, fun z => m (.inl z)⟩⟩ _ _ p
section
variable {c : Co} {k : Nat} {Γ : Ga} {R : Oc} {P : D → Ga → Prop} {T : Bool → Ga → Prop} {e a b : Expr} {es : List Expr} {st : Stmt} {sts : List Stmt} {pos pos' : Pos}
theorem Ends'.nxt {σ : Sw} {H : Hw} {W : WX} {Dd : Ends} {f : Ga → Prop} {g : L2.St → Hw → Prop} (k : Ends' c σ Γ H R W Dd) (h : ∀ σ' Γ' H', Step c.U σ Γ H σ' Γ' H' → ER c.U c.M H' σ' Γ' → f Γ' → g σ' H') : Ends' c σ Γ H { R with nx := f } W { Dd with nx := g } :=
  ⟨h, k.rt, k.bk, k.ct, k.xw⟩
theorem sv_nil (h : R.nx Γ) : Sv c [] Γ R := fun σ H er W Dd tk k => outB pss_nil (k.nx σ Γ H .refl er h)
theorem sv_cons (h : S1 c st Γ { R with nx := fun Γ1 => Sv c sts Γ1 R }) : Sv c (st :: sts) Γ R := fun σ H er W Dd tk k =>
  outB (pss_cons selfS selfB) (h σ H er W _ tk (k.nxt fun σ' Γ' H' s r p => p σ' H' r W Dd tk (k.on r s)))
theorem s1_mono {R' : Oc} (h : S1 c st Γ R) (h1 : ∀ Γ, R.nx Γ → R'.nx Γ) (h2 : ∀ d, R.rt d → R'.rt d) (h3 : ∀ Γ, R.bk Γ → R'.bk Γ) (h4 : ∀ Γ, R.ct Γ → R'.ct Γ) : S1 c st Γ R' := fun σ H er W Dd tk k =>
  h σ H er W Dd tk ⟨fun σ' Γ' H' s r p => k.nx σ' Γ' H' s r (h1 _ p), fun v d H' f j p q => k.rt v d H' f j p (h2 _ q), fun σ' Γ' H' s r p => k.bk σ' Γ' H' s r (h3 _ p), fun σ' Γ' H' s r p => k.ct σ' Γ' H' s r (h4 _ p), k.xw⟩
theorem sv_mono {R' : Oc} (h : Sv c sts Γ R) (h1 : ∀ Γ, R.nx Γ → R'.nx Γ) (h2 : ∀ d, R.rt d → R'.rt d) (h3 : ∀ Γ, R.bk Γ → R'.bk Γ) (h4 : ∀ Γ, R.ct Γ → R'.ct Γ) : Sv c sts Γ R' := fun σ H er W Dd tk k =>
  h σ H er W Dd tk ⟨fun σ' Γ' H' s r p => k.nx σ' Γ' H' s r (h1 _ p), fun v d H' f j p q => k.rt v d H' f j p (h2 _ q), fun σ' Γ' H' s r p => k.bk σ' Γ' H' s r (h3 _ p), fun σ' Γ' H' s r p => k.ct σ' Γ' H' s r (h4 _ p), k.xw⟩
/-- x = e -/
theorem s1_set (bd : Bd c k) {x : Str} (i : Nat) (hi : c.X.N[i]? = some x) (hx : Loc c.X.env.scope x) (hl : i < Γ.length) (h : Ev c e Γ fun d Γ1 => R.nx (Γ1.set i (.dat d)))
    (hs : swapsWith e (some (.Name x pos')) pos.line c.X.env = pure false := by rfl) (hf : c.X.fn x = true ∨ c.X.env.scope.names.lookup x = some .local := by first | exact .inl rfl | exact .inr rfl) : S1 c (.Assign [.Name x pos'] e pos) Γ R := fun σ H er W Dd tk k =>
  outS (ps_set bd.nd hi hx selfE hs hf) (h σ H er _ W tk k.xw fun v d Γ1 H1 g p hp => k.nx _ _ _ (g.st.trans g.er (step_set i)) (g.er.set i p (by rw [g.length]; exact hl)) hp)
/-- return e -/
theorem s1_ret (h : Ev c e Γ fun d _ => R.rt d) : S1 c (.Return (some e) pos) Γ R := fun σ H er W Dd tk k =>
  outS (ps_ret selfE) (h σ H er _ W tk k.xw fun v d Γ1 H1 g p hp => k.rt v d H1 (fun x o t n y => g.st.fr x o t n y) g.er.j (g.er.rp p) hp)
theorem s1_retN (h : R.rt .non) : S1 c (.Return none pos) Γ R := fun σ H er W Dd tk k =>
  outS ps_retN (k.rt .non .non H (fun x o t n y => y) er.j .non h)
/-- return of a list of this body's own -/
theorem s1_retOwn {x : Str} {ds : List D} (i : Nat) (hN : c.X.N[i]? = some x) (hv : Vis c.X.env.scope x) (hd : Γ[i]? = some (.own ds)) (h : R.rt (.lst ds)) (hdb : (x == ("__debug__" : Str)) = false := by decide) (hcd : (x == ("__classdict__" : Str)) = false := by decide) : S1 c (.Return (some (.Name x pos')) pos) Γ R := fun σ H er W Dd tk k => by
  obtain ⟨a, xs, e1, e2, e3, e4⟩ := er.own i ds hd
  exact outS (ps_ret (pe_var hN hv hdb hcd)) ⟨_, e1, k.rt _ _ H (fun x o t n y => y) er.j (.lst e2 e3 (RpA.to ⟨fun a o m e => ⟨e, fun z => m (.inl z)⟩⟩ _ _ e4)) h⟩
theorem s1_expr (h : Ev c e Γ fun _ Γ1 => R.nx Γ1) (hs : swapsWith e none pos.line c.X.env = pure false := by rfl) : S1 c (.Expr e pos) Γ R := fun σ H er W Dd tk k =>
  outS (ps_expr selfE hs) (h σ H er _ W tk k.xw fun v d Γ1 H1 g p hp => k.nx _ _ _ g.st g.er hp)
theorem s1_pass (h : R.nx Γ) : S1 c (.Pass pos) Γ R := fun σ H er W Dd tk k => outS ps_pass (k.nx σ Γ H .refl er h)
theorem s1_break (h : R.bk Γ) : S1 c (.Break pos) Γ R := fun σ H er W Dd tk k => outS ps_break (k.bk σ Γ H .refl er h)
theorem s1_continue (h : R.ct Γ) : S1 c (.Continue pos) Γ R := fun σ H er W Dd tk k => outS ps_continue (k.ct σ Γ H .refl er h)
theorem s1_if {ss ts : List Stmt} (h : Tv c e Γ fun k Γ1 => (k = true → Sv c ss Γ1 R) ∧ (k = false → Sv c ts Γ1 R)) : S1 c (.If e ss ts pos) Γ R := fun σ H er W Dd tk k =>
  outS (ps_if selfT selfB selfB) (h σ H er _ W tk k.xw fun q Γ1 H1 g hp => by
    cases q with
    | true =>
      show wpB c.X ss Dd σ H1
      exact hp.1 rfl σ H1 g.er W Dd tk (k.on g.er g.st)
    | false =>
      show wpB c.X ts Dd σ H1
      exact hp.2 rfl σ H1 g.er W Dd tk (k.on g.er g.st))
theorem s1_while (bd : Bd c k) {ss : List Stmt} (I : Nat → Ga → Prop) (m0 : Nat) (h0 : I m0 Γ) (hs : ∀ m Γ1, I m Γ1 → Tv c e Γ1 fun q Γ2 => (q = true → Sv c ss Γ2 { nx := fun Γ3 => ∃ m', m' < m ∧ I m' Γ3, ct := fun Γ3 => ∃ m', m' < m ∧ I m' Γ3, bk := R.nx, rt := R.rt }) ∧ (q = false → R.nx Γ2)) : S1 c (.While e ss [] pos) Γ R := fun σ H er W Dd tk k => by
  refine outS (ps_while bd.own selfT selfB) ⟨fun m σ1 H1 => ∃ Γ1, Step c.U σ Γ H σ1 Γ1 H1 ∧ ER c.U c.M H1 σ1 Γ1 ∧ I m Γ1, ⟨m0, Γ, .refl, er, h0⟩, fun m σ1 H1 ⟨Γ1, s1, r1, i1⟩ => ?_⟩
  refine hs m Γ1 i1 σ1 H1 r1 _ W tk (k.xw.on r1 s1) fun q Γ2 H2 g hp => ?_
  have s2 := s1.trans r1 g.st
  cases q with
  | false =>
    show Dd.nx σ1 H2
    exact k.nx σ1 Γ2 H2 s2 g.er (hp.2 rfl)
  | true =>
    refine iteT ⟨fun σ3 H3 => ∃ m', m' < m ∧ ∃ Γ3, Step c.U σ Γ H σ3 Γ3 H3 ∧ ER c.U c.M H3 σ3 Γ3 ∧ I m' Γ3, fun σ3 H3 z => z, ?_⟩
    have k2 := k.on g.er s2
    exact hp.1 rfl σ1 H2 g.er W _ tk ⟨fun σ' Γ' H' s r ⟨m', h1, h2⟩ => ⟨m', h1, Γ', s2.trans g.er s, r, h2⟩, k2.rt, k2.nx, fun σ' Γ' H' s r ⟨m', h1, h2⟩ => ⟨m', h1, Γ', s2.trans g.er s, r, h2⟩, k2.xw⟩
/-! ### tests -/
structure wpW (X : Cx) (e : Expr) (σ : Sw) (H : Hw) (Q : Bool → Hw → Prop) : Prop where
  run : ∀ (whole : Sem Value) (pins : List (Addr × Obj)) (s : Shared), Inv X pins σ H s → wpAny (model X.prog X.w) X.A (isTrue e X.env whole) (TP X pins σ Q) X.xe s
theorem selfW {X : Cx} {e : Expr} : PW X e (wpW X e) := ⟨fun wh pins s _ _ _ I h => h.run wh pins s I⟩
theorem outW {X : Cx} {e : Expr} {σ : Sw} {H : Hw} {t : TT} {Q : Bool → Hw → Prop} (h : PW X e t) (q : t σ H Q) : wpW X e σ H Q := ⟨fun wh pins s I => h.run wh pins s σ H Q I q⟩
def Wv (c : Co) (e : Expr) (Γ : Ga) (P : Bool → Ga → Prop) : Prop := ∀ (σ : Sw) (H : Hw), ER c.U c.M H σ Γ → ∀ (Q : Bool → Hw → Prop) (W : WX), Takes c.X W → XW c σ Γ H W →
  (∀ b Γ' H', Go c σ Γ H Γ' H' → P b Γ' → Q b H') → wpW c.X e σ H Q
theorem tv_w (h : Wv c e Γ T) : Tv c e Γ T := fun σ H er Q W tk xw q => outT selfW.pt (h σ H er Q W tk xw q)
theorem wv_one {op : BoolOp} (h : Tv c a Γ T) (ho : op = .And ∨ op = .Or) : Wv c (.BoolOp op [a] pos) Γ T := fun σ H er Q W tk xw q => by
  rcases ho with rfl | rfl
  · exact outW (pw_and1 selfT) (h σ H er Q W tk xw q)
  · exact outW (pw_or1 selfT) (h σ H er Q W tk xw q)
theorem wv_and {rest : List Expr} (h : Tv c a Γ fun q Γ1 => (q = true → Wv c (.BoolOp .And (b :: rest) pos) Γ1 T) ∧ (q = false → T false Γ1)) : Wv c (.BoolOp .And (a :: b :: rest) pos) Γ T := fun σ H er Q W tk xw q =>
  outW (pw_and selfT selfW) (h σ H er _ W tk xw fun w Γ1 H1 g hp => by
    cases w with
    | true =>
      show wpW c.X _ σ H1 Q
      exact hp.1 rfl σ H1 g.er Q W tk (xw.on g.er g.st) fun w Γ2 H2 g2 h2 => q w Γ2 H2 (g.trans g2) h2
    | false =>
      show Q false H1
      exact q false Γ1 H1 g (hp.2 rfl))
theorem wv_or {rest : List Expr} (h : Tv c a Γ fun q Γ1 => (q = false → Wv c (.BoolOp .Or (b :: rest) pos) Γ1 T) ∧ (q = true → T true Γ1)) : Wv c (.BoolOp .Or (a :: b :: rest) pos) Γ T := fun σ H er Q W tk xw q =>
  outW (pw_or selfT selfW) (h σ H er _ W tk xw fun w Γ1 H1 g hp => by
    cases w with
    | false =>
      show wpW c.X _ σ H1 Q
      exact hp.1 rfl σ H1 g.er Q W tk (xw.on g.er g.st) fun w Γ2 H2 g2 h2 => q w Γ2 H2 (g.trans g2) h2
    | true =>
      show Q true H1
      exact q true Γ1 H1 g (hp.2 rfl))
theorem tv_not (h : Tv c a Γ fun q Γ1 => T (!q) Γ1) : Tv c (.UnaryOp .Not a pos) Γ T := fun σ H er Q W tk xw q => outT (pt_not selfT) (h σ H er _ W tk xw fun w Γ1 H1 g hp => q _ Γ1 H1 g hp)
/-- and, or, not as values, of bools -/
theorem ev_one {op : BoolOp} (h : Ev c a Γ P) : Ev c (.BoolOp op [a] pos) Γ P := fun σ H er Q W tk xw q => outE (pe_one selfE) (h σ H er Q W tk xw q)
theorem ev_and {rest : List Expr} (h : Ev c a Γ fun d Γ1 => ∃ q, d = .bl q ∧ (q = true → Ev c (.BoolOp .And (b :: rest) pos) Γ1 P) ∧ (q = false → P (.bl false) Γ1)) : Ev c (.BoolOp .And (a :: b :: rest) pos) Γ P := fun σ H er Q W tk xw q =>
  outE (pe_and selfE selfE) (h σ H er _ W tk xw fun v d Γ1 H1 g p ⟨w, e, h1, h2⟩ => by
    subst e
    cases p
    refine ⟨w, rfl, ?_⟩
    cases w with
    | true =>
      show wpE c.X _ σ H1 Q
      exact h1 rfl σ H1 g.er Q W tk (xw.on g.er g.st) fun v d Γ2 H2 g2 p2 hp => q v d Γ2 H2 (g.trans g2) p2 hp
    | false =>
      show Q (.bl false) H1
      exact q _ _ Γ1 H1 g (.bl _) (h2 rfl))
theorem ev_or {rest : List Expr} (h : Ev c a Γ fun d Γ1 => ∃ q, d = .bl q ∧ (q = false → Ev c (.BoolOp .Or (b :: rest) pos) Γ1 P) ∧ (q = true → P (.bl true) Γ1)) : Ev c (.BoolOp .Or (a :: b :: rest) pos) Γ P := fun σ H er Q W tk xw q =>
  outE (pe_or selfE selfE) (h σ H er _ W tk xw fun v d Γ1 H1 g p ⟨w, e, h1, h2⟩ => by
    subst e
    cases p
    refine ⟨w, rfl, ?_⟩
    cases w with
    | false =>
      show wpE c.X _ σ H1 Q
      exact h1 rfl σ H1 g.er Q W tk (xw.on g.er g.st) fun v d Γ2 H2 g2 p2 hp => q v d Γ2 H2 (g.trans g2) p2 hp
    | true =>
      show Q (.bl true) H1
      exact q _ _ Γ1 H1 g (.bl _) (h2 rfl))
theorem ev_not (h : Ev c a Γ fun d Γ1 => ∃ q, d = .bl q ∧ P (.bl (!q)) Γ1) : Ev c (.UnaryOp .Not a pos) Γ P := fun σ H er Q W tk xw q =>
  outE (pe_not selfE) (h σ H er _ W tk xw fun v d Γ1 H1 g p ⟨w, e, h1⟩ => by
    subst e
    cases p
    exact ⟨w, rfl, q _ _ Γ1 H1 g (.bl _) h1⟩)
theorem ev_ifExp (h : Tv c e Γ fun q Γ1 => (q = true → Ev c a Γ1 P) ∧ (q = false → Ev c b Γ1 P)) : Ev c (.IfExp e a b pos) Γ P := fun σ H er Q W tk xw q =>
  outE (pe_ifExp selfT selfE selfE) (h σ H er _ W tk xw fun w Γ1 H1 g hp => by
    cases w with
    | true =>
      show wpE c.X a σ H1 Q
      exact hp.1 rfl σ H1 g.er Q W tk (xw.on g.er g.st) fun v d Γ2 H2 g2 p2 hp => q v d Γ2 H2 (g.trans g2) p2 hp
    | false =>
      show wpE c.X b σ H1 Q
      exact hp.2 rfl σ H1 g.er Q W tk (xw.on g.er g.st) fun v d Γ2 H2 g2 p2 hp => q v d Γ2 H2 (g.trans g2) p2 hp)
/-- a chain of two comparisons -/
theorem ev_chain {op op' : CmpOp} {r r' : R2} {e3 : Expr} (ho : OpR c.X (compareOp op) r) (ho' : OpR c.X (compareOp op') r')
    (h : Ev c a Γ fun x Γ1 => Ev c b Γ1 fun y Γ2 => ∃ q, Vo2 r x y (.bl q) ∧ (q = false → P (.bl false) Γ2) ∧ (q = true → Ev c e3 Γ2 fun z Γ3 => ∃ w, Vo2 r' y z w ∧ P w Γ3))
    (hm : lastMarks [op, op'] [b, e3] = false := by with_unfolding_all rfl) : Ev c (.Compare a [op, op'] [b, e3] pos) Γ P := fun σ H er Q W tk xw q => by
  refine outE (pe_chain ho ho' selfE selfE selfE hm) (h σ H er _ W tk xw fun v x Γ1 H1 g1 p1 hp => hp σ H1 g1.er _ W tk (xw.on g1.er g1.st) fun w y Γ2 H2 g2 p2 hz => ?_)
  obtain ⟨z, vo, h1, h2⟩ := hz
  refine vo (Mx c.M σ Γ2) H2 v w g2.er.mx (.of (Rp.to (g2.goes g1.er) _ _ p1)) (.of p2) _ fun u H3 g3 p3 => ?_
  have G := (g1.trans g2).grow g3
  cases p3
  refine ⟨z, rfl, ?_⟩
  cases z with
  | false =>
    show Q (.bl false) H3
    exact q _ _ Γ2 H3 G (.bl _) (h1 rfl)
  | true =>
    show wpE c.X e3 σ H3 _
    refine h2 rfl σ H3 G.er _ W tk (xw.on G.er G.st) fun u3 d3 Γ3 H4 g4 p4 ⟨w3, vo3, hp3⟩ => ?_
    exact vo3 (Mx c.M σ Γ3) H4 w u3 g4.er.mx (.of (Rp.to (g4.goes G.er) _ _ (Rp.to g3.goes _ _ p2))) (.of p4) Q fun u5 H5 g5 p5 => q _ _ Γ3 H5 ((G.trans g4).grow g5) p5 hp3
theorem tv_chain {op op' : CmpOp} {r r' : R2} {e3 : Expr} (ho : OpR c.X (compareOp op) r) (ho' : OpR c.X (compareOp op') r')
    (h : Ev c a Γ fun x Γ1 => Ev c b Γ1 fun y Γ2 => ∃ q, Vo2 r x y (.bl q) ∧ (q = false → T false Γ2) ∧ (q = true → Ev c e3 Γ2 fun z Γ3 => ∃ w, Vo2 r' y z (.bl w) ∧ T w Γ3))
    (hm : lastMarks [op, op'] [b, e3] = false := by with_unfolding_all rfl) : Tv c (.Compare a [op, op'] [b, e3] pos) Γ T := fun σ H er Q W tk xw q => by
  refine outT (pt_chain ho ho' selfE selfE selfE hm) (h σ H er _ W tk xw fun v x Γ1 H1 g1 p1 hp => hp σ H1 g1.er _ W tk (xw.on g1.er g1.st) fun w y Γ2 H2 g2 p2 hz => ?_)
  obtain ⟨z, vo, h1, h2⟩ := hz
  refine vo (Mx c.M σ Γ2) H2 v w g2.er.mx (.of (Rp.to (g2.goes g1.er) _ _ p1)) (.of p2) _ fun u H3 g3 p3 => ?_
  have G := (g1.trans g2).grow g3
  cases p3
  refine ⟨z, rfl, ?_⟩
  cases z with
  | false => exact ⟨false, rfl, q _ Γ2 H3 G (h1 rfl)⟩
  | true =>
    show wpE c.X e3 σ H3 _
    refine h2 rfl σ H3 G.er _ W tk (xw.on G.er G.st) fun u3 d3 Γ3 H4 g4 p4 ⟨w3, vo3, hp3⟩ => ?_
    refine vo3 (Mx c.M σ Γ3) H4 w u3 g4.er.mx (.of (Rp.to (g4.goes G.er) _ _ (Rp.to g3.goes _ _ p2))) (.of p4) _ fun u5 H5 g5 p5 => ?_
    cases p5
    exact ⟨w3, rfl, q _ Γ3 H5 ((G.trans g4).grow g5) hp3⟩
/-! ### displays -/
theorem ev_tup {ctx : Nat} (h : Av c es Γ fun ds Γ1 => ds.length ≤ 16777216 ∧ P (.tup ds) Γ1) : Ev c (.Tuple es ctx pos) Γ P := fun σ H er Q W tk xw q =>
  outE (pe_tup selfA) (h σ H er _ W tk xw fun vs ds Γ1 H1 g p ⟨hl, hp⟩ => ⟨by rw [p.length]; exact hl, fun t ht => q _ _ Γ1 _ (g.grow (Grow.new ht)) (.tup upd_same (fun z => g.er.mx _ z ht) (RpA.to (Grow.new ht).goes _ _ p)) hp⟩)
theorem ev_lst (h : Av c es Γ fun ds Γ1 => ds.length ≤ 16777216 ∧ P (.lst ds) Γ1) : Ev c (.List es pos) Γ P := fun σ H er Q W tk xw q =>
  outE (pe_lst selfA) (h σ H er _ W tk xw fun vs ds Γ1 H1 g p ⟨hl, hp⟩ => ⟨by rw [p.length]; exact hl, fun t ht => q _ _ Γ1 _ (g.grow (Grow.new ht)) (.lst upd_same (fun z => g.er.mx _ z ht) (RpA.to (Grow.new ht).goes _ _ p)) hp⟩)
/-- x = [..], the list this body's own -/
theorem s1_setL (bd : Bd c k) {x : Str} (i : Nat) (hi : c.X.N[i]? = some x) (hx : Loc c.X.env.scope x) (hl : i < Γ.length) (h : Av c es Γ fun ds Γ1 => ds.length ≤ 16777216 ∧ R.nx (Γ1.set i (.own ds))) {lp : Pos}
    (hs : swapsWith (.List es lp) (some (.Name x pos')) pos.line c.X.env = pure false := by rfl) (hf : c.X.fn x = true ∨ c.X.env.scope.names.lookup x = some .local := by first | exact .inl rfl | exact .inr rfl) : S1 c (.Assign [.Name x pos'] (.List es lp) pos) Γ R := fun σ H er W Dd tk k =>
  outS (ps_set bd.nd hi hx (pe_lst selfA) hs hf) (h σ H er _ W tk k.xw fun vs ds Γ1 H1 g p ⟨hz, hp⟩ => ⟨by rw [p.length]; exact hz, fun t ht => by
    obtain ⟨r2, s2⟩ := g.er.make i (by rw [g.length]; exact hl) ht (.lst p)
    exact k.nx _ _ _ (g.st.trans g.er s2) r2 hp⟩)
/-- x.append(e) -/
theorem s1_append {x name : Str} {apos cpos npos : Pos} (i : Nat) (hN : c.X.N[i]? = some x) (hv : Vis c.X.env.scope x) (hn : name = "append") {s0 : List D} (hs0 : Γ[i]? = some (.own s0)) (h : Ev c e Γ fun d Γ1 => ∃ ds, Γ1[i]? = some (.own ds) ∧ ds.length < 16777216 ∧ R.nx (Γ1.set i (.own (ds ++ [d]))))
    (hdb : (x == ("__debug__" : Str)) = false := by decide) (hcd : (x == ("__classdict__" : Str)) = false := by decide)
    (hfew : ((backTo cpos (starEach [e] c.X.env)).all (fun x => !x.1) && (backToKw cpos (keywordEach [] c.X.env)).all (fun x => x.1.isSome) && decide (([e] : List Expr).length + ([] : List Keyword).length + (if ([] : List Keyword).isEmpty then 0 else 1) < 30)) = true := by rfl)
    (hbase : attributeBase (.Name x npos) "append" c.X.env (eval (.Name x npos) c.X.env) = eval (.Name x npos) c.X.env := by rfl)
    (hline : (apos.endLine == cpos.line) = true := by rfl) (hst : starEach [e] c.X.env = (false, eval e c.X.env) :: starEach [] c.X.env := by rfl)
    (hs : swapsWith (.Call (.Attribute (.Name x npos) "append" apos) [e] [] cpos) none pos.line c.X.env = pure false := by rfl) :
    S1 c (.Expr (.Call (.Attribute (.Name x npos) name apos) [e] [] cpos) pos) Γ R := fun σ H er W Dd tk k => by
  subst hn
  obtain ⟨a0, xs0, f1, f2, f3, f4⟩ := er.own i s0 hs0
  refine outS (ps_expr (pe_bm PySem.F.plainAttrs_list PySem.F.slot_list_append PySem.F.type_list_append mt_append (pe_var hN hv hdb hcd) (pa_cons selfE pa_nil hst) hbase hfew hline hst (by rfl)) hs) ⟨_, f1, .inl ⟨rfl, _, .inl (.inl f2)⟩, ?_⟩
  refine h σ H er _ W tk k.xw fun v d Γ1 H1 g p ⟨ds, h1, h2, h3⟩ => ?_
  obtain ⟨a1, xs1, q1, q2, q3, q4⟩ := g.er.own i ds h1
  have e1 := q1.symm.trans f1
  cases e1
  obtain ⟨r2, s2, _⟩ := g.er.mut i h1 rfl q1 (.lst (RpA.app q4 (.cons p .nil)))
  exact ⟨_, xs1, v, rfl, rfl, q2, by rw [q4.length]; exact h2, k.nx _ _ _ (g.st.trans g.er s2) r2 h3⟩
end
end U
/-! U6: defs and their promises over data; calls. -/
namespace U
open PySem PySem.Spec PyProof.Rows L2
/-- a promise over data: arguments, what is wanted of the answer, of an error -/
abbrev Fs := List D → (D → Prop) → (Addr → Option (Str × D) → Prop) → Prop
def FrT (U : Vol) (H H' : Hw) : Prop := ∀ a o, ¬ U.T a → H a = some o → H' a = some o
def lift (U : Vol) (n : Nat) (S : Fs) : Sp := fun vs H Q E => ∃ (M : Ex) (ds : List D) (P : D → Prop) (X : Addr → Option (Str × D) → Prop),
  (∀ a, U.T a → M a) ∧ (∀ a, M a → H a ≠ none) ∧ U.J H ∧ RpA M H vs ds ∧ ds.length = n ∧ S ds P X ∧
  (∀ v d H', FrT U H H' → U.J H' → Rp M H' v d → P d → Q v H') ∧
  (∀ C fo dx H', FrT U H H' → U.J H' → (∀ f x, fo = some (f, x) → ∃ a v, dx = some a ∧ H' a = some (.xd [(f, v)]) ∧ Rp M H' v x) → X C fo → E (.ref C) dx H')
/-- a def that keeps a promise, called where no repr is under way -/
structure FnG (P : Program) (w : World) (K : PySem.W.Frag) (mg : Str → Option Value) (base : Heap) (k : Nat) (f : Addr) (fd : FuncData) (ps : List Str) (sp : Sp) : Prop where
  len : ∀ vs H Q E, sp vs H Q E → vs.length = ps.length
  run : ∀ (A : Around) (outer : List Env) (s : Shared) (H : Hw) (args : Args) (us : List Value) (vs : List V) (Q : VK) (E : XK), Room k A → A.guards = some [] →
    Env0 P w K mg base A outer s H → BindsTo s fd args (ps.zip us) → Vals vs us → sp vs H Q E →
    codeAny (model P w) A (.call (.ref f) args) (CR (L2.CX P w) outer P w H s Q E) s
theorem FnG.mono {P : Program} {w : World} {K : PySem.W.Frag} {mg : Str → Option Value} {base : Heap} {j k : Nat} {f : Addr} {fd : FuncData} {ps : List Str} {sp : Sp} (F : FnG P w K mg base j f fd ps sp) (h : j ≤ k) : FnG P w K mg base k f fd ps sp :=
  ⟨F.len, fun A outer s H args us vs Q E hr => F.run A outer s H args us vs Q E (hr.mono h)⟩
section
variable {P : Program} {w : World} {K : PySem.W.Frag} {mg : Str → Option Value} {base : Heap}
/-- a def of the text by its body, under the same proviso -/
theorem fn_ofG {k : Nat} {f : Addr} {name qual : Str} {params : Arguments} {body : List Stmt} {scope : Scope} {dV kV doc pm cdv ct oc : Value} {an od : Option Addr}
    {osl : Array (Option Value)} {N ps : List Str} {sp : Sp} (lk : K.lookup f = some ⟨oc, od, .func (PySem.W.fnOf name qual params body scope dV kV doc pm an cdv ct), osl⟩)
    (hcd : PySem.W.codeIn K cdv qual = true) (sc : FnScope N ps scope) (len : ∀ vs H Q E, sp vs H Q E → vs.length = ps.length)
    (hbody : ∀ (A : Around) (outer : List Env) (s : Shared) (H : Hw) (vs : List V) (Q : VK) (E : XK), Room k (A.deeper (envOfC qual scope s.heap.objs.size f cdv)) → A.guards = some [] → sp vs H Q E →
      wpB (cxOf (L2.CX P w) P w K mg base N qual scope f cdv A outer s H E) body { nx := fun _ H' => Q .non H', rt := Q } (L2.start N vs) H) :
    FnG P w K mg base (k + 1) f (PySem.W.fnOf name qual params body scope dV kV doc pm an cdv ct) ps sp := by
  constructor
  · exact len
  intro A outer s H args us vs Q E hr hgd e0 hb rl hsp
  have KX : K.In s.heap := e0.mod.kin.keeps fun b o e => (e0.bs b o e).1
  have lim : s.heap.NoLimit := e0.mod.nolimit.keeps fun b o e => (e0.bs b o e).1
  have kinds : ∀ y ∈ ps.zip us, scope.names.lookup y.1 = some .local ∨ (scope.names.lookup y.1 = some .cell ∧ ((cellsFrom (s.heap.objs.size + 1) scope.names []).lookup y.1).isSome = true) := by
    rintro ⟨n, v⟩ hy
    have q := sc.par n (List.of_mem_zip hy).1
    exact q.imp id fun q => ⟨q, PySem.W.cellsFrom_some _ _ _ (.inl q)⟩
  apply codeAny_call_function hr.depth (KX _ _ lk) rfl sc.co sc.gen rfl (PySem.W.codeRec_of KX hcd) (hb _ _ _ _ _)
  apply wpAny_newFunctionEnv_cells sc.kind kinds
  intro env he s1 x
  cases he
  refine ⟨lim.keeps x.toInCall.keep, ?_⟩
  apply codeAny_func
  have I := inv_start (CX := L2.CX P w) (E := E) sc hr.hd e0 (len _ _ _ _ hsp) rl x
  refine wpAny_mono ((hbody A outer s H vs Q E (hr.deeper _) hgd hsp).run [] s1 I) ?_ (fun e s' hs => hs)
  intro fl s' hs
  cases fl with
  | ret u => exact let ⟨v, _, H', J, rv, q⟩ := hs; ⟨v, H', J.os, J.bare, J.base, J.hok, rv, q⟩
  | next => exact let ⟨_, H', J, q⟩ := hs; ⟨.non, H', J.os, J.bare, J.base, J.hok, (show RelV V.non Value.none from rfl), q⟩
  | brk => exact let ⟨_, _, _, q⟩ := hs; False.elim q
  | cont => exact let ⟨_, _, _, q⟩ := hs; False.elim q
end
/-- the environment at a def's entry -/
def Ga.start (n : Nat) (ds : List D) : Ga := ds.map Sl.dat ++ List.replicate (n - ds.length) Sl.un
theorem er_start {U : Vol} {M : Ex} {H : Hw} {vs : List V} {ds : List D} {N : List Str} (tm : ∀ a, U.T a → M a) (kn : ∀ a, M a → H a ≠ none) (j : U.J H) (r : RpA M H vs ds) (hn : ds.length ≤ N.length) :
    ER U M H (L2.start N vs) (Ga.start N.length ds) := by
  have nomine : ∀ (i : Nat) (s : Sl), (Ga.start N.length ds)[i]? = some s → s.mine = false := fun i s h => by
    unfold Ga.start at h
    by_cases hi : i < ds.length
    · rw [List.getElem?_append_left (by simpa using hi), List.getElem?_map, List.getElem?_eq_getElem hi] at h
      cases h
      rfl
    · rw [List.getElem?_append_right (by simpa using hi), List.getElem?_replicate] at h
      split at h
      · cases h; rfl
      · cases h
  have now : ∀ a, ¬ Ow (L2.start N vs) (Ga.start N.length ds) a := fun a ⟨i, s, h1, h2, _⟩ => by rw [nomine i s h1] at h2; cases h2
  refine ⟨tm, kn, j, ?_, fun i d h => ?_, fun i d h => ?_, fun i d h => ?_, fun i j s t a h1 h2 m1 => ?_⟩
  · unfold L2.start Ga.start
    rw [List.length_append, List.length_append, List.length_map, List.length_map, List.length_replicate, List.length_replicate, r.length]
  · unfold Ga.start at h
    by_cases hi : i < ds.length
    · rw [List.getElem?_append_left (by simpa using hi), List.getElem?_map] at h
      obtain ⟨d', e1, e2⟩ := Option.map_eq_some_iff.mp h
      cases e2
      obtain ⟨v, q1, q2⟩ := r.at e1
      refine ⟨v, ?_, Rp.to ⟨fun a o m e => ⟨e, fun z => z.elim m (now a)⟩⟩ _ _ q2⟩
      unfold L2.start
      rw [List.getElem?_append_left (by rw [List.length_map, r.length]; exact hi), List.getElem?_map, q1]
      rfl
    · rw [List.getElem?_append_right (by simpa using hi), List.getElem?_replicate] at h
      split at h <;> cases h
  · have z := nomine i _ h
    cases z
  · have z := nomine i _ h
    cases z
  · rw [nomine i s h1] at m1
    cases m1
/-- the surroundings of a def's body -/
def coOf (P : Program) (w : World) (K : PySem.W.Frag) (mg : Str → Option Value) (base : Heap) (N : List Str) (qual : Str) (scope : Scope) (f : Addr) (cdv : Value) (A : Around) (outer : List Env) (s : Shared) (H : Hw) (E : XK) (U : Vol) (M : Ex) (X : Addr → Option (Str × D) → Prop) : Co :=
  ⟨cxOf (L2.CX P w) P w K mg base N qual scope f cdv A outer s H E, U, M, fun C fo _ => X C fo⟩
section
variable {P : Program} {w : World} {K : PySem.W.Frag} {mg : Str → Option Value} {base : Heap}
/-- THE RULE for a def over data -/
theorem fn_data {x qual : Str} {st : Stmt} {f : Addr} {fd : FuncData} {N ps : List Str} {k n : Nat} {S : Fs} {U : Vol} (F : Fun K x qual st f fd) (sc : FnScope N ps (defScope st)) (hn : n = ps.length) (hN : ps.length ≤ N.length)
    (hbody : ∀ (cdv : Value) (A : Around) (outer : List Env) (s : Shared) (H : Hw) (E : XK) (M : Ex) (ds : List D) (Pd : D → Prop) (X : Addr → Option (Str × D) → Prop),
      Bd (coOf P w K mg base N qual (defScope st) f cdv A outer s H E U M X) k → ds.length = n → S ds Pd X →
      Sv (coOf P w K mg base N qual (defScope st) f cdv A outer s H E U M X) (defBody st) (Ga.start N.length ds) { nx := fun _ => Pd .non, rt := Pd }) :
    FnG P w K mg base (k + 1) f fd ps (lift U n S) := by
  obtain ⟨oc, od, kV, doc, pm, an, cdv, ct, osl, rfl, lk, hcd⟩ := F.ex
  refine fn_ofG lk hcd sc (fun vs H Q E ⟨M, ds, _, _, _, _, _, r, e, _⟩ => by rw [r.length, e, hn]) fun A outer s H vs Q E hr hgd hsp => ?_
  obtain ⟨M, ds, Pd, X, tm, kn, j, r, e, hS, q, qx⟩ := hsp
  refine hbody cdv A outer s H E M ds Pd X ⟨rfl, passes_of rfl, sc.nd, hr, hgd⟩ e hS _ H (er_start tm kn j r (by rw [e, hn]; exact hN)) (fun cls d _ H' => E cls d H') _ (takes_of rfl rfl rfl rfl) ?_
  have no : ∀ a, ¬ Ow (L2.start N vs) (Ga.start N.length ds) a := fun a ⟨i, s, h1, h2, _⟩ => by
    unfold Ga.start at h1
    by_cases hi : i < ds.length
    · rw [List.getElem?_append_left (by simpa using hi), List.getElem?_map, List.getElem?_eq_getElem hi] at h1
      cases h1
      cases h2
    · rw [List.getElem?_append_right (by simpa using hi), List.getElem?_replicate] at h1
      split at h1
      · cases h1; cases h2
      · cases h1
  exact ⟨fun σ' Γ' H' st r p => q .non .non H' (fun a o t e => st.fr a o t (no a) e) r.j .non p, fun v d H' fr j p h => q v d H' (fun a o t e => fr a o t (no a) e) j p h, fun _ _ _ _ _ z => z.elim, fun _ _ _ _ _ z => z.elim,
    fun C fo dx σ' Γ' H' st r hf hx => qx C fo dx H' (fun a o t e => st.fr a o t (no a) e) r.j (fun f x e => let ⟨a, v, h1, h2, h3⟩ := hf f x e; ⟨a, v, h1, h2, r.rp h3⟩) hx⟩
end
/-! ### calls -/
section
variable {c : Co} {k : Nat} {Γ : Ga} {P : D → Ga → Prop} {e : Expr} {es : List Expr} {pos p : Pos}
/-- the callee runs -/
theorem run_data {f : Addr} {fd : FuncData} {ps : List Str} {n j : Nat} {S : Fs} {pins : List (Addr × Obj)} {σ : Sw} {Γ0 : Ga} {H : Hw} {s : Shared} {args : Args} {us : List Value} {vs : List V} {ds : List D} {Q : VK} {W : WX}
    (F : FnG c.X.prog c.X.w c.X.K c.X.mg c.X.base j f fd ps (lift c.U n S)) (bd : Bd c k) (hj : j ≤ k) (hb : BindsTo s fd args (ps.zip us)) (er : ER c.U c.M H σ Γ0) (tk : Takes c.X W) (xw : XW c σ Γ0 H W) (I : Inv c.X pins σ H s) (rv : Vals vs us) (r : RpA (Mx c.M σ Γ0) H vs ds) (hn : ds.length = n)
    (q : ∀ v d Γ' H', Go c σ Γ0 H Γ' H' → Rp (Mx c.M σ Γ') H' v d → P d Γ' → Q v H') (h : S ds (fun d => P d Γ0) fun C fo => c.E C fo Γ0) :
    wpAny (model c.X.prog c.X.w) c.X.A (call (.ref f) args.pos args.kw) (EP c.X pins σ Q) c.X.xe s := by
  have go : ∀ H', FrT c.U H H' → c.U.J H' → Go c σ Γ0 H Γ0 H' := fun H' fr j => by
    have g : Goes (Mx c.M σ Γ0) (Mx c.M σ Γ0) H H' := ⟨fun a o m e => ⟨fr a o (fun t => m (.inl (er.tm a t))) e, m⟩⟩
    refine ⟨⟨fun a o t _ e => fr a o t e, fun a h => .inl h⟩, rfl, ER.of er.tm (fun a m => ?_) j er.len (fun i d e => ?_) (fun i s e m => ?_) er.sep⟩
    · by_cases t : c.U.T a
      · exact c.U.known j t
      · obtain ⟨o, e⟩ := Option.ne_none_iff_exists'.mp (er.kn a m)
        rw [fr a o t e]
        simp
    · obtain ⟨v, q1, q2⟩ := er.dat i d e
      exact ⟨v, q1, Rp.to g _ _ q2⟩
    · obtain ⟨a, o, q1, q2, q3, q4⟩ := er.ob e m
      exact ⟨a, o, q1, fr a o (fun t => q3 (er.tm a t)) q2, q3, q4.to g⟩
  have hsp : lift c.U n S vs H Q (fun cls d H' => W cls d σ H') :=
    ⟨Mx c.M σ Γ0, ds, _, _, fun a t => .inl (er.tm a t), er.mx, er.j, r, hn, h, fun v d H' fr j p hp => q v d Γ0 H' (go H' fr j) p hp, fun C fo dx H' fr j hf hx => xw C fo dx σ Γ0 H' (go H' fr j).st (go H' fr j).er hf hx⟩
  refine wpAny_call (codeAny_mono (F.run c.X.A c.X.stack s H args us vs Q _ (bd.hr.mono hj) bd.gd I.env0 hb rv hsp) fun r s' hq => ?_)
  cases r with
  | error e => exact tk e s' (XE.of_call I (fun _ _ _ h => h) hq)
  | ok fl =>
    cases fl with
    | ret u => exact I.after hq
    | next => exact False.elim hq
    | brk => exact False.elim hq
    | cont => exact False.elim hq
/-- f(e, ..) -/
theorem ev_call {x : Str} {f : Addr} {fd : FuncData} {ps : List Str} {n j : Nat} {S : Fs} (F : FnG c.X.prog c.X.w c.X.K c.X.mg c.X.base j f fd ps (lift c.U n S)) (bd : Bd c k) (hj : j ≤ k) (hm : c.X.mg x = some (.ref f)) (hk : PySem.W.keepIn c.X.K (.ref f) = true) (hb : Binds c.X.K fd ps []) (hg : Gl c.X x)
    (h : Av c (e :: es) Γ fun ds Γ1 => ds.length = n ∧ S ds (fun d => P d Γ1) fun C fo => c.E C fo Γ1)
    (hdb : (x == ("__debug__" : Str)) = false := by decide) (he : starEach (e :: es) c.X.env = (false, eval e c.X.env) :: starEach es c.X.env := by rfl) (hpl : (backTo pos (starEach es c.X.env)).any (·.1) = false := by rfl) :
    Ev c (.Call (.Name x p) (e :: es) [] pos) Γ P := fun σ H er Q W tk xw q => .mk fun pins s I => by
  refine wpAny_Call_Name_kw (ld_glob I hg hm ?_ hdb)
  refine PySem.W.callWith_K (h₀ := c.X.base) I.ok.mod.kin hk (thn ((h σ H er (fun vs H1 => ∃ ds Γ1, Go c σ Γ H Γ1 H1 ∧ RpA (Mx c.M σ Γ1) H1 vs ds ∧ ds.length = n ∧ S ds (fun d => P d Γ1) fun C fo => c.E C fo Γ1) W tk xw (fun vs ds Γ1 H1 g r hp => ⟨ds, Γ1, g, r, hp⟩)).run pos pins s I) fun us s1 ⟨vs, H1, I1, rv, ds, Γ1, g, r, hn, hS⟩ => ⟨I1.kIn, ?_⟩) he hpl
  have hl : us.length = ps.length := by
    rw [← rv.length]
    refine F.len vs H1 (fun _ _ => True) (fun _ _ _ => True) ⟨Mx c.M σ Γ1, ds, _, _, fun a t => .inl (g.er.tm a t), g.er.mx, g.er.j, r, hn, hS, fun _ _ _ _ _ _ _ => trivial, fun _ _ _ _ _ _ _ _ => trivial⟩
  have hb1 := hb s1 us I1.kIn (by rw [List.append_nil]; exact hl)
  rw [List.append_nil] at hb1
  exact run_data (args := ⟨us, []⟩) F bd hj hb1 g.er tk (xw.on g.er g.st) I1 rv r hn (fun v d Γ' H' g' p hp => q v d Γ' H' (g.trans g') p hp) hS
end
end U
/-! U7: what is walked: lists, tuples, ranges, texts, enumerate, zip; for loops. -/
namespace U
open PySem PySem.Spec PyProof.Rows L2
/-! ### enumerate of anything that begins -/
theorem meets_enum_one {v : Value} {o : Obj} {G : Heap → Prop} (B : Begins v o G) :
    Meets (Builtin.«enumerate.__new__» ⟨[.type "enumerate", v], []⟩) (fun _ R s => G s.heap ∧
      R (.ok (.ret (.ref (s.heap.push o).objs.size))) { s with heap := (s.heap.push o).push { cls := .type "enumerate", data := .fields #[.none, .bool false, .ref s.heap.objs.size, rawInt 0, .none, .none] } }) := by
  apply Meets.of_wp
  rintro prog w A R ⟨hp, g, d, tk, os⟩ ⟨h1, h⟩
  have hsub := sub_enumerate
  have q2 : ∀ {A' : Around} {E : Value → Shared → Prop} {Q : Value → Shared → Prop}, Q (.ref hp.objs.size) ⟨hp.push o, g, d, tk, os⟩ → wpAny (model prog w) A' (pyIter v) Q E ⟨hp, g, d, tk, os⟩ := fun q => B.iter prog w _ _ ⟨hp, g, d, tk, os⟩ _ h1 q
  wp_walk using q2
  apply wpAny_stack_any
  intro st
  apply wpAny_pure
  split
  · rename_i c _ _ _ _ _
    cases (c == Value.type "enumerate") <;> (wp_walk using q2; exact ⟨_, rfl, h⟩)
  · wp_walk using q2
    exact ⟨_, rfl, h⟩
theorem enum_one {prog : Program} {w : World} {A : Around} {E : Value → Shared → Prop} {s : Shared} {v : Value} {o : Obj} {G : Heap → Prop} {Q : Value → Shared → Prop} (B : Begins v o G) (h1 : G s.heap)
    (h : ∀ h', IsEnum h' (s.heap.objs.size + 1) s.heap.objs.size 0 .none → h'.get? s.heap.objs.size = some o → (∀ b o, s.heap.get? b = some o → h'.get? b = some o) → Q (.ref (s.heap.objs.size + 1)) { s with heap := h' }) :
    wpAny (model prog w) A (call (.type "enumerate") [v]) Q E s := by
  apply callType_new F.called_enumerate (by decide) (F.typeCall_enumerate_1 _) (F.newCall_enumerate_1 _) (fun obj => F.args_object_init_2 obj _) F.entry_enumerate_new (meets_enum_one B)
  have hz : (s.heap.push o).objs.size = s.heap.objs.size + 1 := Heap.size_push ..
  refine ⟨h1, ?_⟩
  have he := Heap.get?_push_size (s.heap.push o) (o := { cls := .type "enumerate", data := .fields #[.none, .bool false, .ref s.heap.objs.size, rawInt 0, .none, .none] }) rfl
  rw [hz] at he ⊢
  exact ⟨⟨_, he, rfl⟩, h _ he (Heap.get?_push_of_some _ (Heap.get?_push_size _ B.free)) fun b u x => Heap.get?_push_of_some _ (Heap.get?_push_of_some _ x)⟩
/-- a tuple's items with their numbers, in new pairs -/
def IteT (K : PySem.W.Frag) (a : Addr) : It :=
  ⟨fun i H => ∃ (xs : List V) (x : V), SqT K H a xs ∧ xs[i]? = some x, fun i H v H' => ∃ t x, v = .ref t ∧ H t = none ∧ H' = upd H t (.tup [.int (i : Nat), x]) ∧ ∀ xs, SqT K H a xs → xs[i]? = some x, fun i H => ∃ xs : List V, SqT K H a xs ∧ xs.length ≤ i⟩
theorem turn_enumT {P : Program} {w : World} {K : PySem.W.Frag} {elts : List Expr} {kk : Nat} {tpos : Pos} (a e it : Addr) :
    Turn P w K (.Tuple elts kk tpos) (IteT K a) [e, it] e (fun i h => (∃ old, IsEnum h e it (i : Int) old) ∧ h.IsTupleIter it a i ∧ e ≠ it ∧ a ≠ it ∧ a ≠ e) := by
  have two : ∀ {b : Addr} {p : Addr → Prop}, p e → p it → b ∈ [e, it] → p b := fun {b p} h1 h2 hb => by
    rcases List.mem_cons.mp hb with z | z
    · rw [z]; exact h1
    · rw [List.mem_singleton.mp z]; exact h2
  have off : ∀ {a' : Addr}, e ≠ it → a ≠ e → e ∉ [it, a] := fun n1 n3 z => by
    rcases List.mem_cons.mp z with z | z
    · exact n1 z
    · exact n3 (List.mem_singleton.mp z).symm
  constructor
  · simp
  · rintro i h ⟨⟨old, he⟩, ⟨o, ho, hc, hd⟩, _⟩ b hb
    exact two (p := fun b => ∃ o, h.get? b = some o ∧ ∀ v, o.data ≠ .cell v) ⟨_, he, fun v q => nomatch q⟩ ⟨o, ho, fun v q => by rw [hd] at q; cases q⟩ hb
  · rintro i h h' ⟨⟨old, he⟩, hi, r⟩ k
    exact ⟨⟨old, k e (by simp) _ he⟩, hi.at fun o q => k it (by simp) o q, r⟩
  · intro X hP hw hK hc i pins s σ H E I hf st hg
    subst hP hw hK
    obtain ⟨⟨old, he⟩, hit, n1, n2, n3⟩ := st
    obtain ⟨xs, x, hq, hx⟩ := hg
    obtain ⟨its, rv, p, hz⟩ := I.tuple hq
    obtain ⟨u, hu, ru⟩ := rv.get hx
    have hi : i < its.toArray.size := by simpa using (List.getElem?_eq_some_iff.mp hu).1
    have hel : e < s.heap.objs.size := Heap.lt_size he
    have hil : it < s.heap.objs.size := by obtain ⟨_, q, _⟩ := hit; exact Heap.lt_size q
    refine wpAny_pyNext_enum_itemD (Draws.tuple (prog := X.prog) (w := X.w) (A := X.A.in1) (I.ok.hd hc) it a n2 its.toArray) he ⟨hit, p⟩ hi n1 (off (a' := a) n1 n3) fun y h' tk hy ho hst hT hsz hk => ?_
    have ey : y = u := Option.some.inj ((show its[i]? = some y by simpa using hy).symm.trans hu)
    subst ey
    refine ⟨_, rfl, wpAny_letOwnedTupleGo_enum (s := { s with heap := h', toks := tk + 1 }) ho fun h'' he' sb => ?_⟩
    have hT2 := (sb.2 _ (Nat.ne_of_gt hel)).trans hT
    have new : ObjOk X.prog X.w (upd H s.heap.objs.size (.tup [.int (i : Nat), x])) h'' s.heap.objs.size (.tup [.int (i : Nat), x]) :=
      ⟨by show 2 ≤ sizeLine; decide, [.int i tk, y], .cons ⟨_, rfl⟩ (.cons ru .nil), ⟨_, hT2, rfl, _, rfl⟩⟩
    have I1 := I.turnedNew (t' := tk + 1) (ch := [e, it]) (fun b ob hb q => (sb.2 b (fun z => hb (by simp [z]))).trans (hk b ob (fun z => hb (by simp [z])) (fun z => hb (by simp [z])) q)) hf (Nat.le_refl _) new
    refine ⟨.ref s.heap.objs.size, _, I1, rfl, ⟨_, x, rfl, I.hok.fresh (Nat.le_refl _), rfl, fun ys hy => by rw [I.tuple_inj hy hq]; exact hx⟩, ⟨⟨y, ?_⟩, hst.1.at fun o q => (sb.2 it (Ne.symm n1)).trans q, n1, n2, n3⟩, fun b hb => ?_⟩
    · rw [show ((i + 1 : Nat) : Int) = (i : Int) + 1 by omega]; exact he'
    · rw [upd_ne (Nat.ne_of_lt (two (p := fun b => b < s.heap.objs.size) hel hil hb))]
      exact (hf b hb).1
  · intro X hP hw hK hc i pins s σ H E I hf st hg
    subst hP hw hK
    obtain ⟨⟨old, he⟩, hit, n1, n2, n3⟩ := st
    obtain ⟨xs, hq, hx⟩ := hg
    obtain ⟨its, rv, p, hz⟩ := I.tuple hq
    obtain ⟨f0, f1, f2, f3, f4, f5⟩ := hf it (by simp)
    have hl := rv.length
    have hle : its.toArray.size ≤ i := by simp; omega
    refine wpAny_pyNext_enum_endD (e := e) (n := i) (St := fun j h => i ≤ j ∧ h.IsTupleIter it a i ∧ h.IsTuple a its.toArray) (P := fun _ _ => True) (fp := [it, a]) ⟨fun _ _ st => let ⟨o, ho, _⟩ := st.2.1; ⟨o, ho⟩, fun _ _ _ st hk => ⟨st.1, st.2.1.at fun o e => hk it (by simp) o e, st.2.2.at fun o e => hk a (by simp) o e⟩, fun j s Q E hi st hQ => absurd hi (Nat.not_lt.mpr st.1), fun s Q E st hE => wpAny_nextOf_tuple_end (I.ok.hd hc) st.2.1 st.2.2 (by simp; omega) hE⟩ he ⟨Nat.le_refl _, hit, p⟩ fun h' eb => ⟨rfl, I.turned (t' := s.toks) (fun b o hb q => eb b o hb q) f0 f1 f3 f4 f5⟩
  · rintro A i s Q E ⟨⟨_, he⟩, _⟩ h
    exact wpAny_pyIter_enum he h
def iEnumT (K : PySem.W.Frag) (ta : TA) : TI := fun σ H R => ta σ H fun vs H1 => ∃ a xs, vs = [.ref a] ∧ SqT K H1 a xs ∧ R (IteT K a) H1
theorem pi_enumT {X : Cx} {e : Expr} {ta : TA} {p pos tpos : Pos} {elts : List Expr} {kk : Nat} (hg : Gl X "enumerate") (hm : X.mg "enumerate" = none) (ha : PA X [e] ta) (hs : starEach [e] X.env = [(false, eval e X.env)] := by rfl) :
    PI X (.Tuple elts kk tpos) (.Call (.Name "enumerate" p) [e] [] pos) (iEnumT X.K ta) := by
  constructor
  intro pins s σ H R I h
  refine Call_ (ld_blt I hg hm boot_enumerate (PyProof.Rows.callWith_type1 (thn (ha.run pos pins s σ H _ I h) ?_) hs rfl))
  rintro us s1 ⟨vs, H1, I1, r1, a, xs, rfl, hq, q⟩
  cases r1 with
  | cons r rr =>
    cases rr
    cases r
    obtain ⟨its, rv, p', hz⟩ := I1.tuple hq
    have ha : a < s1.heap.objs.size := by obtain ⟨o, e, _⟩ := p'; exact Heap.lt_size e
    refine enum_one (begins_tuple a its.toArray) p' fun h' he hit hk => wpAny_pyIter_enum he ?_
    have I2 : Inv X pins σ H1 { s1 with heap := h' } := I1.kept (t' := s1.toks) hk
    refine ⟨s1.heap.objs.size + 1, [s1.heap.objs.size + 1, s1.heap.objs.size], _, _, H1, rfl, I2, turn_enumT a (s1.heap.objs.size + 1) s1.heap.objs.size, ⟨⟨.none, he⟩, ⟨_, hit, rfl, rfl⟩, Nat.succ_ne_self _, Nat.ne_of_lt ha, Nat.ne_of_lt (Nat.lt_succ_of_lt ha)⟩, fun b hb => ?_, q⟩
    have hle : s1.heap.objs.size ≤ b := by
      rcases List.mem_cons.mp hb with z | z
      · rw [z]; exact Nat.le_add_right _ _
      · rw [List.mem_singleton.mp z]; exact Nat.le_refl _
    exact I1.fpOk hle (I1.hok.fresh hle)
/-! ### what is walked, over data -/
structure wpI (X : Cx) (tg iter : Expr) (σ : Sw) (H : Hw) (R : It → Hw → Prop) : Prop where
  run : ∀ (pins : List (Addr × Obj)) (s : Shared), Inv X pins σ H s →
  wpAny (model X.prog X.w) X.A (eval iter X.env) (fun v s1 => wpAny (model X.prog X.w) X.A (pyIter v) (PIE X pins σ tg R) X.xe s1) X.xe s
theorem selfI {X : Cx} {tg iter : Expr} : PI X tg iter (wpI X tg iter) := ⟨fun pins s _ _ _ I h => h.run pins s I⟩
theorem outI {X : Cx} {tg iter : Expr} {σ : Sw} {H : Hw} {t : TI} {R : It → Hw → Prop} (h : PI X tg iter t) (q : t σ H R) : wpI X tg iter σ H R := ⟨fun pins s I => h.run pins s σ H R I q⟩
/-- J walks xs, wherever what stood at (σ, Γ, H) still stands -/
structure Src (c : Co) (σ : Sw) (Γ : Ga) (H : Hw) (J : It) (xs : List D) : Prop where
  go : ∀ i (M : Ex) σ1 Γ1 H1, (∀ a, M a → c.M a ∨ H a = none) → Step c.U σ Γ H σ1 Γ1 H1 → ER c.U M H1 σ1 Γ1 → i < xs.length → J.go i H1
  stop : ∀ (M : Ex) σ1 Γ1 H1, (∀ a, M a → c.M a ∨ H a = none) → Step c.U σ Γ H σ1 Γ1 H1 → ER c.U M H1 σ1 Γ1 → J.stop xs.length H1
  yld : ∀ i (M : Ex) σ1 Γ1 H1 v H2, (∀ a, M a → c.M a ∨ H a = none) → Step c.U σ Γ H σ1 Γ1 H1 → ER c.U M H1 σ1 Γ1 → i < xs.length → J.yld i H1 v H2 → Grow H1 H2 ∧ ∃ d, xs[i]? = some d ∧ Rp (Mx M σ1 Γ1) H2 v d
def Iv (c : Co) (tg iter : Expr) (Γ : Ga) (P : List D → Ga → Prop) : Prop := ∀ (σ : Sw) (H : Hw), ER c.U c.M H σ Γ → ∀ (R : It → Hw → Prop) (W : WX), Takes c.X W → XW c σ Γ H W →
  (∀ J xs Γ' H', Go c σ Γ H Γ' H' → Src c σ Γ' H' J xs → P xs Γ' → R J H') → wpI c.X tg iter σ H R
/-- data of before, now -/
theorem Step.goesM {U : Vol} {M M1 : Ex} {σ σ1 : Sw} {Γ Γ1 : Ga} {H H1 : Hw} (er : ER U M H σ Γ) (hM : ∀ a, M1 a → M a ∨ H a = none) (s : Step U σ Γ H σ1 Γ1 H1) : Goes (Mx M σ Γ) (Mx M1 σ1 Γ1) H H1 := ⟨fun a o m e => ⟨s.fr a o (fun t => m (.inl (er.tm a t))) (fun z => m (.inr z)) e, fun z => by
  rcases z with z | z
  · rcases hM a z with z | z
    · exact m (.inl z)
    · rw [e] at z; cases z
  · rcases s.og a z with z | z
    · exact m (.inr z)
    · rw [e] at z; cases z⟩⟩
theorem Step.goes {c : Co} {σ σ1 : Sw} {Γ Γ1 : Ga} {H H1 : Hw} (er : ER c.U c.M H σ Γ) (s : Step c.U σ Γ H σ1 Γ1 H1) : Goes (Mx c.M σ Γ) (Mx c.M σ1 Γ1) H H1 := s.goesM er fun _ h => .inl h
section
variable {c : Co} {Γ : Ga} {P : List D → Ga → Prop} {tg e : Expr} {es : List Expr} {pos p : Pos}
theorem sql_of {K : PySem.W.Frag} {H : Hw} {a : Addr} {xs : List V} (h : H a = some (.lst xs)) : SqL K H a xs := .inl (.inl h)
theorem sqt_of {K : PySem.W.Frag} {H : Hw} {a : Addr} {xs : List V} (h : H a = some (.tup xs)) : SqT K H a xs := .inl (.inl h)
theorem src_list {σ : Sw} {H : Hw} {a : Addr} {vs : List V} {xs : List D} (er : ER c.U c.M H σ Γ) (h : H a = some (.lst vs)) (m : ¬ Mx c.M σ Γ a) (r : RpA (Mx c.M σ Γ) H vs xs) : Src c σ Γ H (Itl c.X.K a) xs := by
  have keep : ∀ σ1 Γ1 H1, Step c.U σ Γ H σ1 Γ1 H1 → H1 a = some (.lst vs) := fun σ1 Γ1 H1 s => s.fr a _ (fun t => m (.inl (er.tm a t))) (fun z => m (.inr z)) h
  have W := walk_list (K := c.X.K) (a := a) (xs := vs)
  refine ⟨fun i M1 σ1 Γ1 H1 hM s _ hi => W.goes i H1 (by rw [r.length]; exact hi) (sql_of (keep _ _ _ s)), fun M1 σ1 Γ1 H1 hM s _ => by rw [← r.length]; exact W.stops H1 (sql_of (keep _ _ _ s)), fun i M1 σ1 Γ1 H1 v H2 hM s e1 hi y => ?_⟩
  obtain ⟨e2, y2⟩ := W.yields i H1 v H2 (by rw [r.length]; exact hi) (sql_of (keep _ _ _ s)) y
  subst e2
  obtain ⟨d, hd, rd⟩ := r.atv y2
  exact ⟨Grow.refl _, d, hd, Rp.to (s.goesM er hM) _ _ rd⟩
theorem src_tup {σ : Sw} {H : Hw} {a : Addr} {vs : List V} {xs : List D} (er : ER c.U c.M H σ Γ) (h : H a = some (.tup vs)) (m : ¬ Mx c.M σ Γ a) (r : RpA (Mx c.M σ Γ) H vs xs) : Src c σ Γ H (Itt c.X.K a) xs := by
  have keep : ∀ σ1 Γ1 H1, Step c.U σ Γ H σ1 Γ1 H1 → H1 a = some (.tup vs) := fun σ1 Γ1 H1 s => s.fr a _ (fun t => m (.inl (er.tm a t))) (fun z => m (.inr z)) h
  have W := walk_tup (K := c.X.K) (a := a) (xs := vs)
  refine ⟨fun i M1 σ1 Γ1 H1 hM s _ hi => W.goes i H1 (by rw [r.length]; exact hi) (sqt_of (keep _ _ _ s)), fun M1 σ1 Γ1 H1 hM s _ => by rw [← r.length]; exact W.stops H1 (sqt_of (keep _ _ _ s)), fun i M1 σ1 Γ1 H1 v H2 hM s e1 hi y => ?_⟩
  obtain ⟨e2, y2⟩ := W.yields i H1 v H2 (by rw [r.length]; exact hi) (sqt_of (keep _ _ _ s)) y
  subst e2
  obtain ⟨d, hd, rd⟩ := r.atv y2
  exact ⟨Grow.refl _, d, hd, Rp.to (s.goesM er hM) _ _ rd⟩
theorem iv_list (h : Ev c e Γ fun d Γ1 => ∃ xs, d = .lst xs ∧ P xs Γ1) : Iv c tg e Γ P := fun σ H er R W tk xw q =>
  outI (pi_list selfE) (h σ H er _ W tk xw fun v d Γ1 H1 g p ⟨xs, e, hp⟩ => by
    subst e
    cases p with
    | lst h1 h2 h3 => exact ⟨_, rfl, ⟨_, sql_of h1⟩, q _ xs Γ1 H1 g (src_list g.er h1 h2 h3) hp⟩)
theorem iv_tup (h : Ev c e Γ fun d Γ1 => ∃ xs, d = .tup xs ∧ P xs Γ1) : Iv c tg e Γ P := fun σ H er R W tk xw q =>
  outI (pi_tup selfE) (h σ H er _ W tk xw fun v d Γ1 H1 g p ⟨xs, e, hp⟩ => by
    subst e
    cases p with
    | tup h1 h2 h3 => exact ⟨_, rfl, ⟨_, sqt_of h1⟩, q _ xs Γ1 H1 g (src_tup g.er h1 h2 h3) hp⟩)
/-- the ints lo, lo + 1, .. -/
def rangeD (lo : Int) (n : Nat) : List D := (List.range n).map fun i => D.int (lo + (i : Nat))
theorem rangeD_length (lo : Int) (n : Nat) : (rangeD lo n).length = n := by simp [rangeD]
theorem rangeD_at {lo : Int} {n i : Nat} (h : i < n) : (rangeD lo n)[i]? = some (.int (lo + (i : Nat))) := by simp [rangeD, h]
theorem src_range {σ : Sw} {H : Hw} (lo : Int) (n : Nat) : Src c σ Γ H (Itr lo n) (rangeD lo n) := by
  have W := walk_range (lo := lo) (n := n)
  refine ⟨fun i M1 σ1 Γ1 H1 hM s _ hi => W.goes i H1 (by rw [rangeD_length] at hi; exact hi) trivial, fun M1 σ1 Γ1 H1 hM s _ => by rw [rangeD_length]; exact W.stops H1 trivial, fun i M1 σ1 Γ1 H1 v H2 hM s e1 hi y => ?_⟩
  rw [rangeD_length] at hi
  obtain ⟨e2, y2⟩ := W.yields i H1 v H2 hi trivial y
  subst e2
  subst y2
  exact ⟨Grow.refl _, _, rangeD_at hi, .int _⟩
theorem iv_range1 (hm : c.X.mg "range" = none) (h : Ev c e Γ fun d Γ1 => ∃ n, d = .int n ∧ n < 2 ^ 60 ∧ -(2 ^ 60) ≤ n ∧ P (rangeD 0 n.toNat) Γ1) (hg : Gl c.X "range") (hs : starEach [e] c.X.env = [(false, eval e c.X.env)] := by rfl) : Iv c tg (.Call (.Name "range" p) [e] [] pos) Γ P := fun σ H er R W tk xw q =>
  outI (pi_range1 hg hm (pa_cons selfE pa_nil hs) hs) (h σ H er _ W tk xw fun v d Γ1 H1 g p ⟨n, e, h1, h2, hp⟩ => by
    subst e
    cases p
    exact ⟨n, rfl, by omega, by omega, q _ _ Γ1 H1 g (src_range 0 n.toNat) hp⟩)
theorem iv_range2 {e2 : Expr} (hm : c.X.mg "range" = none) (h : Ev c e Γ fun d Γ1 => ∃ lo, d = .int lo ∧ Ev c e2 Γ1 fun d2 Γ2 => ∃ n, d2 = .int n ∧ (-(2 ^ 60) ≤ lo ∧ lo < 2 ^ 60 ∧ n < 2 ^ 60 ∧ -(2 ^ 60) ≤ n) ∧ P (rangeD lo (n - lo).toNat) Γ2) (hg : Gl c.X "range") (hs : starEach [e, e2] c.X.env = [(false, eval e c.X.env), (false, eval e2 c.X.env)] := by rfl) (hs2 : starEach [e2] c.X.env = [(false, eval e2 c.X.env)] := by rfl) : Iv c tg (.Call (.Name "range" p) [e, e2] [] pos) Γ P := fun σ H er R W tk xw q =>
  outI (pi_range2 hg hm (pa_cons selfE (pa_cons selfE pa_nil hs2) (by rw [hs, hs2])) hs hs2) (h σ H er _ W tk xw fun v d Γ1 H1 g p ⟨lo, e, h2⟩ => by
    subst e
    cases p
    refine h2 σ H1 g.er _ W tk (xw.on g.er g.st) fun v2 d2 Γ2 H2 g2 p2 ⟨n, e, h3, hp⟩ => ?_
    subst e
    cases p2
    exact ⟨lo, n, rfl, ⟨by omega, by omega, by omega, by omega⟩, q _ _ Γ2 H2 (g.trans g2) (src_range lo _) hp⟩)
/-- items with their numbers -/
def enumD (xs : List D) : List D := xs.zipIdx.map fun x => .tup [.int (x.2 : Nat), x.1]
theorem enumD_length (xs : List D) : (enumD xs).length = xs.length := by simp [enumD]
theorem enumD_at {xs : List D} {i : Nat} {x : D} (h : xs[i]? = some x) : (enumD xs)[i]? = some (.tup [.int (i : Nat), x]) := by simp [enumD, h]
theorem iv_enumT (hm : c.X.mg "enumerate" = none) {elts : List Expr} {kk : Nat} {tpos : Pos} (h : Ev c e Γ fun d Γ1 => ∃ xs, d = .tup xs ∧ P (enumD xs) Γ1) (hg : Gl c.X "enumerate") (hs : starEach [e] c.X.env = [(false, eval e c.X.env)] := by rfl) : Iv c (.Tuple elts kk tpos) (.Call (.Name "enumerate" p) [e] [] pos) Γ P := fun σ H er R W tk xw q =>
  outI (pi_enumT hg hm (pa_cons selfE pa_nil hs) hs) (h σ H er _ W tk xw fun v d Γ1 H1 g p ⟨xs, e, hp⟩ => by
    subst e
    cases p with
    | @tup a vs _ h1 h2 r =>
      have keep : ∀ σ1 Γ1' H2, Step c.U σ Γ1 H1 σ1 Γ1' H2 → H2 a = some (.tup vs) := fun σ1 Γ1' H2 s => s.fr a _ (fun t => h2 (.inl (g.er.tm a t))) (fun z => h2 (.inr z)) h1
      refine ⟨a, vs, rfl, sqt_of h1, q _ _ Γ1 H1 g ⟨fun i M1 σ1 Γ1' H2 hM s _ hi => ?_, fun M1 σ1 Γ1' H2 hM s _ => ?_, fun i M1 σ1 Γ1' H2 v H3 hM s e1 hi y => ?_⟩ hp⟩
      · rw [enumD_length, ← r.length] at hi
        exact ⟨vs, vs[i], sqt_of (keep _ _ _ s), by simp [hi]⟩
      · rw [enumD_length, ← r.length]
        exact ⟨vs, sqt_of (keep _ _ _ s), Nat.le_refl _⟩
      · obtain ⟨t, x, rfl, ht, rfl, hx⟩ := y
        obtain ⟨d, hd, rd⟩ := r.atv (hx vs (sqt_of (keep _ _ _ s)))
        have gr : Grow H2 (upd H2 t (.tup [.int (i : Nat), x])) := Grow.new ht
        exact ⟨gr, _, enumD_at hd, .tup upd_same (fun z => e1.mx t z ht) (.cons (.int _) (.cons (Rp.to gr.goes _ _ (Rp.to (s.goesM g.er hM) _ _ rd)) .nil))⟩)
theorem iv_enumL (hm : c.X.mg "enumerate" = none) {elts : List Expr} {kk : Nat} {tpos : Pos} (h : Ev c e Γ fun d Γ1 => ∃ xs, d = .lst xs ∧ P (enumD xs) Γ1) (hg : Gl c.X "enumerate") (hs : starEach [e] c.X.env = [(false, eval e c.X.env)] := by rfl) : Iv c (.Tuple elts kk tpos) (.Call (.Name "enumerate" p) [e] [] pos) Γ P := fun σ H er R W tk xw q =>
  outI (pi_enum hg hm (pa_cons selfE pa_nil hs) hs) (h σ H er _ W tk xw fun v d Γ1 H1 g p ⟨xs, e, hp⟩ => by
    subst e
    cases p with
    | @lst a vs _ h1 h2 r =>
      have keep : ∀ σ1 Γ1' H2, Step c.U σ Γ1 H1 σ1 Γ1' H2 → H2 a = some (.lst vs) := fun σ1 Γ1' H2 s => s.fr a _ (fun t => h2 (.inl (g.er.tm a t))) (fun z => h2 (.inr z)) h1
      refine ⟨a, vs, rfl, sql_of h1, q _ _ Γ1 H1 g ⟨fun i M1 σ1 Γ1' H2 hM s _ hi => ?_, fun M1 σ1 Γ1' H2 hM s _ => ?_, fun i M1 σ1 Γ1' H2 v H3 hM s e1 hi y => ?_⟩ hp⟩
      · rw [enumD_length, ← r.length] at hi
        exact ⟨vs, vs[i], sql_of (keep _ _ _ s), by simp [hi]⟩
      · rw [enumD_length, ← r.length]
        exact ⟨vs, sql_of (keep _ _ _ s), Nat.le_refl _⟩
      · obtain ⟨t, x, rfl, ht, rfl, hx⟩ := y
        obtain ⟨d, hd, rd⟩ := r.atv (hx vs (sql_of (keep _ _ _ s)))
        have gr : Grow H2 (upd H2 t (.tup [.int (i : Nat), x])) := Grow.new ht
        exact ⟨gr, _, enumD_at hd, .tup upd_same (fun z => e1.mx t z ht) (.cons (.int _) (.cons (Rp.to gr.goes _ _ (Rp.to (s.goesM g.er hM) _ _ rd)) .nil))⟩)
/-- zip of two lists -/
def zipD (xs ys : List D) : List D := (xs.zip ys).map fun x => .tup [x.1, x.2]
theorem zipD_at {xs ys : List D} {i : Nat} {x y : D} (h : xs[i]? = some x) (h' : ys[i]? = some y) : (zipD xs ys)[i]? = some (.tup [x, y]) := by
  have e : (xs.zip ys)[i]? = some (x, y) := by rw [List.getElem?_zip_eq_some]; exact ⟨h, h'⟩
  simp [zipD, e]
theorem iv_zipL {e2 : Expr} (hm : c.X.mg "zip" = none) {elts : List Expr} {kk : Nat} {tpos : Pos} (h : Av c [e, e2] Γ fun ds Γ1 => ∃ xs ys, ds = [.lst xs, .lst ys] ∧ P (zipD xs ys) Γ1) (hg : Gl c.X "zip")
    (hs : starEach [e, e2] c.X.env = (false, eval e c.X.env) :: starEach [e2] c.X.env := by rfl) (hpl : (backTo pos (starEach [e2] c.X.env)).any (·.1) = false := by rfl) : Iv c (.Tuple elts kk tpos) (.Call (.Name "zip" p) [e, e2] [] pos) Γ P := fun σ H er R W tk xw q =>
  outI (pi_zip hg hm selfA hs hpl) (h σ H er _ W tk xw fun ws ds Γ1 H1 g p ⟨xs, ys, e, hp⟩ => by
    subst e
    cases p with
    | cons p1 p2 =>
      cases p2 with
      | cons p2 p3 =>
        cases p3
        cases p1 with
        | @lst a vs _ h1 h2 r =>
          cases p2 with
          | @lst b us _ h1' h2' r' =>
            have keep : ∀ σ1 Γ1' H2, Step c.U σ Γ1 H1 σ1 Γ1' H2 → H2 a = some (.lst vs) := fun σ1 Γ1' H2 s => s.fr a _ (fun t => h2 (.inl (g.er.tm a t))) (fun z => h2 (.inr z)) h1
            have keep' : ∀ σ1 Γ1' H2, Step c.U σ Γ1 H1 σ1 Γ1' H2 → H2 b = some (.lst us) := fun σ1 Γ1' H2 s => s.fr b _ (fun t => h2' (.inl (g.er.tm b t))) (fun z => h2' (.inr z)) h1'
            have ln : (zipD xs ys).length = min vs.length us.length := by simp [zipD, r.length, r'.length]
            refine ⟨a, b, vs, us, rfl, sql_of h1, sql_of h1', q _ _ Γ1 H1 g ⟨fun i M1 σ1 Γ1' H2 hM s _ hi => ?_, fun M1 σ1 Γ1' H2 hM s _ => ?_, fun i M1 σ1 Γ1' H2 v H3 hM s e1 hi y => ?_⟩ hp⟩
            · rw [ln] at hi
              exact ⟨vs, us, vs[i]'(by omega), us[i]'(by omega), sql_of (keep _ _ _ s), sql_of (keep' _ _ _ s), by simp [show i < vs.length by omega], by simp [show i < us.length by omega]⟩
            · rw [ln]
              exact ⟨vs, us, sql_of (keep _ _ _ s), sql_of (keep' _ _ _ s), by omega⟩
            · obtain ⟨t, x, z, rfl, ht, rfl, hx, hz⟩ := y
              obtain ⟨d, hd, rd⟩ := r.atv (hx vs (sql_of (keep _ _ _ s)))
              obtain ⟨d', hd', rd'⟩ := r'.atv (hz us (sql_of (keep' _ _ _ s)))
              have gr : Grow H2 (upd H2 t (.tup [x, z])) := Grow.new ht
              exact ⟨gr, _, zipD_at hd hd', .tup upd_same (fun z => e1.mx t z ht) (.cons (Rp.to gr.goes _ _ (Rp.to (s.goesM g.er hM) _ _ rd)) (.cons (Rp.to gr.goes _ _ (Rp.to (s.goesM g.er hM) _ _ rd')) .nil))⟩)
/-- a text, sign by sign -/
def signsD (z : Str) : List D := z.cps.toList.map fun c => .str ⟨#[c]⟩
theorem iv_str (h : Ev c e Γ fun d Γ1 => ∃ z, d = .str z ∧ P (signsD z) Γ1) : Iv c tg e Γ P := fun σ H er R W tk xw q =>
  outI (pi_str selfE) (h σ H er _ W tk xw fun v d Γ1 H1 g p ⟨z, e, hp⟩ => by
    subst e
    cases p
    have ln : (signsD z).length = z.cps.size := by simp [signsD]
    refine ⟨z, rfl, q _ _ Γ1 H1 g ⟨fun i M1 σ1 Γ1' H2 hM s _ hi => ?_, fun M1 σ1 Γ1' H2 hM s _ => ?_, fun i M1 σ1 Γ1' H2 v H3 hM s e1 hi y => ?_⟩ hp⟩
    · rw [ln] at hi
      exact hi
    · rw [ln]
      exact Nat.le_refl _
    · obtain ⟨rfl, c, hc, rfl⟩ := y
      refine ⟨Grow.refl _, .str ⟨#[c]⟩, ?_, .str _⟩
      simp [signsD, hc])
end
/-! ### for loops -/
structure wpG (X : Cx) (tg : Expr) (v : V) (σ : Sw) (H : Hw) (Q : L2.St → Hw → Prop) : Prop where
  run : ∀ (pins : List (Addr × Obj)) (s : Shared) (u : Value), Inv X pins σ H s → RelV v u → wpAny (model X.prog X.w) X.A (assign tg X.env u) (fun _ s' => ∃ σ' H', Inv X pins σ' H' s' ∧ Q σ' H') X.xe s
theorem selfG {X : Cx} {tg : Expr} : PG X tg (wpG X tg) := ⟨fun pins s _ _ _ u _ I r h => h.run pins s u I r⟩
theorem outG {X : Cx} {tg : Expr} {t : TG} {v : V} {σ : Sw} {H : Hw} {Q : L2.St → Hw → Prop} (h : PG X tg t) (q : t v σ H Q) : wpG X tg v σ H Q := ⟨fun pins s u I r => h.run pins s σ H v u Q I r q⟩
/-- how a target takes an item: a name, a tuple of names -/
def Gv (c : Co) (tg : Expr) (Γ : Ga) (d : D) (P : Ga → Prop) : Prop := ∀ (σ : Sw) (H : Hw) (v : V), ER c.U c.M H σ Γ → Rp (Mx c.M σ Γ) H v d → ∀ Q : L2.St → Hw → Prop,
  (∀ σ' Γ' H', Step c.U σ Γ H σ' Γ' H' → ER c.U c.M H' σ' Γ' → P Γ' → Q σ' H') → wpG c.X tg v σ H Q
section
variable {c : Co} {k : Nat} {Γ : Ga} {R : Oc} {pos : Pos}
theorem gv_name {x : Str} {P : Ga → Prop} {d : D} (i : Nat) (nd : c.X.N.Nodup) (hi : c.X.N[i]? = some x) (hx : Loc c.X.env.scope x) (hl : i < Γ.length) (h : P (Γ.set i (.dat d))) (hf : c.X.fn x = true ∨ c.X.env.scope.names.lookup x = some .local := by first | exact .inl rfl | exact .inr rfl) : Gv c (.Name x pos) Γ d P := fun σ H v er p Q q =>
  outG (pg_name nd hi hx hf) (q _ _ _ (step_set i) (er.set i p hl) h)
theorem gv_two {x y : Str} {P : Ga → Prop} {d1 d2 : D} {p1 p2 : Pos} {ctx : Nat} (i j : Nat) (calm : c.X.calm = true) (nd : c.X.N.Nodup) (hi : c.X.N[i]? = some x) (hj : c.X.N[j]? = some y) (hx : Loc c.X.env.scope x) (hy : Loc c.X.env.scope y) (hl : i < Γ.length) (hl2 : j < Γ.length) (h : P ((Γ.set i (.dat d1)).set j (.dat d2)))
    (hf : c.X.fn x = true ∨ c.X.env.scope.names.lookup x = some .local := by first | exact .inl rfl | exact .inr rfl) (hf2 : c.X.fn y = true ∨ c.X.env.scope.names.lookup y = some .local := by first | exact .inl rfl | exact .inr rfl) : Gv c (.Tuple [.Name x p1, .Name y p2] ctx pos) Γ (.tup [d1, d2]) P := fun σ H v er p Q q => by
  cases p with
  | @tup a vs _ h1 h2 r2 =>
    cases r2 with
    | @cons v1 _ _ _ q1 r2 =>
      cases r2 with
      | @cons v2 _ _ _ q2 r2 =>
        cases r2
        have e1 := er.set i q1 hl
        have s1 : Step c.U σ Γ H (σ.set i (some v1)) (Γ.set i (.dat d1)) H := step_set i
        have e2 := e1.set j (Rp.to (s1.goes er) _ _ q2) (by rw [List.length_set]; exact hl2)
        exact outG (pg_tup calm (pgs_cons (pg_name nd hi hx hf) (pgs_cons (pg_name nd hj hy hf2) pgs_nil))) ⟨a, [v1, v2], rfl, sqt_of h1, rfl, v1, [v2], rfl, v2, [], rfl, rfl, q _ _ _ (s1.trans e1 (step_set j)) e2 h⟩
theorem s1_for (bd : Bd c k) {tg iter : Expr} {body : List Stmt} (h : Iv c tg iter Γ fun xs Γ1 => ∃ I : Nat → Ga → Prop, I 0 Γ1 ∧ (∀ i x Γ2, xs[i]? = some x → I i Γ2 → Gv c tg Γ2 x fun Γ3 => Sv c body Γ3 { nx := I (i + 1), ct := I (i + 1), bk := R.nx, rt := R.rt }) ∧ ∀ Γ2, I xs.length Γ2 → R.nx Γ2)
    (hs : ∀ x, foldedSetIterable iter c.X.env x = pure x := by intro _; rfl) : S1 c (.For tg iter body [] pos) Γ R := fun σ H er W Dd tk k => by
  refine outS (ps_for bd.own bd.calm selfI selfG selfB hs) (h σ H er _ W tk k.xw fun J xs Γ1 H1 g src ⟨I, h0, hs, hd⟩ => ?_)
  refine ⟨fun i m σ2 H2 => m = xs.length - i ∧ i ≤ xs.length ∧ ∃ Γ2, Step c.U σ Γ1 H1 σ2 Γ2 H2 ∧ ER c.U c.M H2 σ2 Γ2 ∧ I i Γ2, ⟨xs.length, by simp, Nat.zero_le _, Γ1, .refl, g.er, h0⟩, ?_⟩
  rintro i m σ2 H2 ⟨rfl, hi, Γ2, s2, r2, i2⟩
  have S2 := g.st.trans g.er s2
  by_cases hlt : i < xs.length
  · refine .inr ⟨src.go i _ σ2 Γ2 H2 (fun _ h => .inl h) s2 r2 hlt, fun σ' H' => ∃ Γ', Step c.U σ Γ1 H1 σ' Γ' H' ∧ ER c.U c.M H' σ' Γ' ∧ I (i + 1) Γ', fun σ' H' z => ⟨xs.length - (i + 1), by omega, rfl, hlt, z⟩, fun v H3 y => ?_⟩
    obtain ⟨gr, d, hd', rd⟩ := src.yld i _ σ2 Γ2 H2 v H3 (fun _ h => .inl h) s2 r2 hlt y
    have r3 := r2.grow gr
    have s3 : Step c.U σ Γ1 H1 σ2 Γ2 H3 := s2.trans r2 ⟨fun a o _ _ e => gr a o e, fun a h => .inl h⟩
    refine hs i d Γ2 hd' i2 σ2 H3 v r3 rd _ (fun σ4 Γ4 H4 s4 r4 sv => ?_)
    have s5 := s3.trans r3 s4
    have k5 := k.on r4 (g.st.trans g.er s5)
    exact sv σ4 H4 r4 W _ tk ⟨fun σ' Γ' H' s r p => ⟨Γ', s5.trans r4 s, r, p⟩, k5.rt, k5.nx, fun σ' Γ' H' s r p => ⟨Γ', s5.trans r4 s, r, p⟩, k5.xw⟩
  · have e : i = xs.length := by omega
    subst e
    exact .inl ⟨src.stop _ σ2 Γ2 H2 (fun _ h => .inl h) s2 r2, k.nx σ2 Γ2 H2 S2 r2 (hd Γ2 i2)⟩
end
end U
/-! U8: list comprehensions. -/
namespace U
open PySem PySem.Spec PyProof.Rows L2
def unset : List Nat → Ga → Ga
  | [], Γ => Γ
  | v :: vs, Γ => (unset vs Γ).set v .un
theorem ER.unset {U : Vol} {M : Ex} {H : Hw} {σ : Sw} {Γ : Ga} (r : ER U M H σ Γ) : ∀ vs : List Nat, ER U M H (wipe σ vs) (unset vs Γ)
  | [] => r
  | v :: vs => (ER.unset r vs).forget v none
theorem wipe_off {σ : Sw} {i : Nat} : ∀ {vs : List Nat}, i ∉ vs → (wipe σ vs)[i]? = σ[i]?
  | [], _ => rfl
  | v :: vs, h => by
    unfold wipe
    rw [set_off (fun e => h (by rw [e]; exact List.mem_cons_self))]
    exact wipe_off fun z => h (List.mem_cons_of_mem _ z)
theorem unset_off {Γ : Ga} {i : Nat} : ∀ {vs : List Nat}, i ∉ vs → (unset vs Γ)[i]? = Γ[i]?
  | [], _ => rfl
  | v :: vs, h => by
    unfold unset
    rw [set_off (fun e => h (by rw [e]; exact List.mem_cons_self))]
    exact unset_off fun z => h (List.mem_cons_of_mem _ z)
theorem unset_on {Γ : Ga} {i : Nat} {s : Sl} : ∀ {vs : List Nat}, i ∈ vs → (unset vs Γ)[i]? = some s → s = .un
  | v :: vs, h, e => by
    unfold unset at e
    by_cases q : i = v
    · subst q
      rcases at_set e with ⟨_, z, _⟩ | ⟨z, _⟩
      · exact z
      · exact absurd rfl z
    · rw [set_off q] at e
      rcases List.mem_cons.mp h with z | z
      · exact absurd z q
      · exact unset_on z e
theorem wipe_ext {σ τ : Sw} {vs : List Nat} (hl : σ.length = τ.length) (h : ∀ i, i ∉ vs → σ[i]? = τ[i]?) : wipe σ vs = wipe τ vs := by
  have len : ∀ (σ : Sw) (vs : List Nat), (wipe σ vs).length = σ.length := fun σ vs => wipe_length σ vs
  have on : ∀ (σ : Sw) (i : Nat) (vs : List Nat), i ∈ vs → i < σ.length → (wipe σ vs)[i]? = some none := fun σ i vs => by
    induction vs with
    | nil => intro h; cases h
    | cons v vs ih =>
      intro h hl
      unfold wipe
      by_cases q : i = v
      · subst q
        exact set_at (by rw [len]; exact hl)
      · rw [set_off q]
        rcases List.mem_cons.mp h with z | z
        · exact absurd z q
        · exact ih z hl
  apply List.ext_getElem?
  intro i
  by_cases hi : i ∈ vs
  · by_cases hb : i < σ.length
    · rw [on σ i vs hi hb, on τ i vs hi (by rw [← hl]; exact hb)]
    · rw [List.getElem?_eq_none (by rw [len]; omega), List.getElem?_eq_none (by rw [len]; omega)]
  · rw [wipe_off hi, wipe_off hi]
    exact h i hi
/-- a target that stores in the slots vs alone, the heap as it is -/
def Gw (c : Co) (vs : List Nat) (tg : Expr) (Γ : Ga) (d : D) (P : Ga → Prop) : Prop := ∀ (σ : Sw) (H : Hw) (v : V), ER c.U c.M H σ Γ → Rp (Mx c.M σ Γ) H v d → ∀ Q : L2.St → Hw → Prop,
  (∀ σ' Γ', wipe σ' vs = wipe σ vs → unset vs Γ' = unset vs Γ → Step c.U σ Γ H σ' Γ' H → ER c.U c.M H σ' Γ' → P Γ' → Q σ' H) → wpG c.X tg v σ H Q
section
variable {c : Co} {k : Nat} {Γ : Ga} {pos : Pos}
theorem unset_len (Γ : Ga) : ∀ vs : List Nat, (unset vs Γ).length = Γ.length
  | [] => rfl
  | v :: vs => by unfold unset; rw [List.length_set, unset_len Γ vs]
theorem unset_ext {Γ Δ : Ga} {vs : List Nat} (hl : Γ.length = Δ.length) (h : ∀ i, i ∉ vs → Γ[i]? = Δ[i]?) : unset vs Γ = unset vs Δ := by
  apply List.ext_getElem?
  intro i
  by_cases hi : i ∈ vs
  · by_cases hb : i < Γ.length
    · have h1 : i < (unset vs Γ).length := by rw [unset_len]; exact hb
      have h2 : i < (unset vs Δ).length := by rw [unset_len, ← hl]; exact hb
      have a := List.getElem?_eq_getElem h1
      have b := List.getElem?_eq_getElem h2
      have a' := unset_on hi a
      have b' := unset_on hi b
      rw [a, b, a', b']
    · rw [List.getElem?_eq_none (by rw [unset_len]; omega), List.getElem?_eq_none (by rw [unset_len]; omega)]
  · rw [unset_off hi, unset_off hi]
    exact h i hi
theorem unset_idem (Γ : Ga) (vs : List Nat) : unset vs (unset vs Γ) = unset vs Γ := unset_ext (unset_len Γ vs) fun i hi => unset_off hi
theorem wipe_idem (σ : Sw) (vs : List Nat) : wipe (wipe σ vs) vs = wipe σ vs := wipe_ext (wipe_length σ vs) fun i hi => wipe_off hi
theorem gw_name {x : Str} {P : Ga → Prop} {d : D} (i : Nat) (nd : c.X.N.Nodup) (hi : c.X.N[i]? = some x) (hx : Loc c.X.env.scope x) (hl : i < Γ.length) (h : P (Γ.set i (.dat d))) (hf : c.X.fn x = true ∨ c.X.env.scope.names.lookup x = some .local := by first | exact .inl rfl | exact .inr rfl) : Gw c [i] (.Name x pos) Γ d P := fun σ H v er p Q q =>
  outG (pg_name nd hi hx hf) (q _ _ (wipe_ext (by rw [List.length_set]) fun j hj => set_off (by simpa using hj)) (unset_ext (by rw [List.length_set]) fun j hj => set_off (by simpa using hj)) (step_set i) (er.set i p hl) h)
theorem gw_two {x y : Str} {P : Ga → Prop} {d1 d2 : D} {p1 p2 : Pos} {ctx : Nat} (i j : Nat) (calm : c.X.calm = true) (nd : c.X.N.Nodup) (hi : c.X.N[i]? = some x) (hj : c.X.N[j]? = some y) (hx : Loc c.X.env.scope x) (hy : Loc c.X.env.scope y) (hl : i < Γ.length) (hl2 : j < Γ.length) (h : P ((Γ.set i (.dat d1)).set j (.dat d2)))
    (hf : c.X.fn x = true ∨ c.X.env.scope.names.lookup x = some .local := by first | exact .inl rfl | exact .inr rfl) (hf2 : c.X.fn y = true ∨ c.X.env.scope.names.lookup y = some .local := by first | exact .inl rfl | exact .inr rfl) : Gw c [i, j] (.Tuple [.Name x p1, .Name y p2] ctx pos) Γ (.tup [d1, d2]) P := fun σ H v er p Q q => by
  cases p with
  | @tup a vs _ h1 h2 r2 =>
    cases r2 with
    | @cons v1 _ _ _ q1 r2 =>
      cases r2 with
      | @cons v2 _ _ _ q2 r2 =>
        cases r2
        have e1 := er.set i q1 hl
        have s1 : Step c.U σ Γ H (σ.set i (some v1)) (Γ.set i (.dat d1)) H := step_set i
        have e2 := e1.set j (Rp.to (s1.goes er) _ _ q2) (by rw [List.length_set]; exact hl2)
        refine outG (pg_tup calm (pgs_cons (pg_name nd hi hx hf) (pgs_cons (pg_name nd hj hy hf2) pgs_nil))) ⟨a, [v1, v2], rfl, sqt_of h1, rfl, v1, [v2], rfl, v2, [], rfl, rfl, q _ _ (wipe_ext (by rw [List.length_set, List.length_set]) fun m hm => ?_) (unset_ext (by rw [List.length_set, List.length_set]) fun m hm => ?_) (s1.trans e1 (step_set j)) e2 h⟩
        all_goals
          have hm' : ¬ (m = i ∨ m = j) := by simpa using hm
          rw [set_off fun z => hm' (.inr z), set_off fun z => hm' (.inl z)]
/-- the surroundings of a comprehension's block; its list at Dl -/
def Co.inner (c : Co) (s : Shared) (H : Hw) (scope : Scope) (C : Addr) (cl : List (Str × Addr)) (fp : List Addr) (Dl : Addr) : Co :=
  ⟨c.X.blk s H scope (compEnvC scope cl C c.X.env) fp, c.U, fun a => c.M a ∨ a = Dl, fun _ _ _ => False⟩
theorem Bd.inner {c : Co} (bd : Bd c k) (s : Shared) (H : Hw) (scope : Scope) (C : Addr) (cl : List (Str × Addr)) (fp : List Addr) (Dl : Addr) : Bd (c.inner s H scope C cl fp Dl) k := ⟨bd.calm, PassesOwn.never, bd.nd, bd.hr, bd.gd⟩
/-- the tests of a comprehension: none, or one -/
def Fv (c : Co) (ifs : List Expr) (Γ : Ga) (P : Bool → Ga → Prop) : Prop := (ifs = [] ∧ P true Γ) ∨ ∃ t, ifs = [t] ∧ Tv c t Γ P
def wpF (X : Cx) (ifs : List Expr) : TT := fun σ H Q => (ifs = [] ∧ Q true H) ∨ ∃ t, ifs = [t] ∧ wpT X t σ H Q
theorem selfF {X : Cx} {ifs : List Expr} : PTs X ifs (wpF X ifs) := ⟨fun pins s σ H Q I h => by
  rcases h with ⟨rfl, h⟩ | ⟨t, rfl, h⟩
  · exact pts_nil.run pins s σ H Q I h
  · exact (pts_one selfT).run pins s σ H Q I h⟩
theorem ER.subM {U : Vol} {M M' : Ex} {H : Hw} {σ : Sw} (r : ER U M' H σ Γ) (tm : ∀ a, U.T a → M a) (sub : ∀ a, M a → M' a) : ER U M H σ Γ := by
  have g : Goes (Mx M' σ Γ) (Mx M σ Γ) H H := ⟨fun a o m e => ⟨e, fun z => m (z.elim (fun y => .inl (sub a y)) .inr)⟩⟩
  refine ER.of tm (fun a m => r.kn a (sub a m)) r.j r.len (fun i d h => ?_) (fun i s h m => ?_) r.sep
  · obtain ⟨v, h1, h2⟩ := r.dat i d h
    exact ⟨v, h1, Rp.to g _ _ h2⟩
  · obtain ⟨a, o, h1, h2, h3, h4⟩ := r.ob h m
    exact ⟨a, o, h1, h2, fun z => h3 (sub a z), h4.to g⟩
/-- a new object, kept apart -/
theorem ER.apart {U : Vol} {M : Ex} {H : Hw} {σ : Sw} {p : Addr} {o : HO} (r : ER U M H σ Γ) (hp : H p = none) : ER U (fun a => M a ∨ a = p) (upd H p o) σ Γ := by
  have gr : Grow H (upd H p o) := Grow.new hp
  have g : Goes (Mx M σ Γ) (Mx (fun a => M a ∨ a = p) σ Γ) H (upd H p o) := ⟨fun a u m e => ⟨gr a u e, fun z => by
    rcases z with (z | z) | z
    · exact m (.inl z)
    · rw [z, hp] at e; cases e
    · exact m (.inr z)⟩⟩
  refine ER.of (fun a t => .inl (r.tm a t)) (fun a m => ?_) (r.grow gr).j r.len (fun i d h => ?_) (fun i s h m => ?_) r.sep
  · rcases m with m | m
    · exact (r.grow gr).kn a m
    · rw [m, upd_same]; simp
  · obtain ⟨v, h1, h2⟩ := r.dat i d h
    exact ⟨v, h1, Rp.to g _ _ h2⟩
  · obtain ⟨a, u, h1, h2, h3, h4⟩ := r.ob h m
    refine ⟨a, u, h1, gr _ _ h2, fun z => z.elim h3 fun y => ?_, h4.to g⟩
    rw [y, hp] at h2; cases h2
/-- the object kept apart is changed -/
theorem ER.apartMut {U : Vol} {M : Ex} {H : Hw} {σ : Sw} {p : Addr} {o : HO} (r : ER U (fun a => M a ∨ a = p) H σ Γ) (np : ¬ U.T p) : ER U (fun a => M a ∨ a = p) (upd H p o) σ Γ := by
  have ne : ∀ a, ¬ Mx (fun a => M a ∨ a = p) σ Γ a → a ≠ p := fun a m z => m (.inl (.inr z))
  have g : Goes (Mx (fun a => M a ∨ a = p) σ Γ) (Mx (fun a => M a ∨ a = p) σ Γ) H (upd H p o) := ⟨fun a u m e => ⟨by rw [upd_ne (ne a m)]; exact e, m⟩⟩
  refine ER.of r.tm (fun a m => ?_) (U.keep r.j fun a t => upd_ne fun z => np (by rw [← z]; exact t)) r.len (fun i d h => ?_) (fun i s h m => ?_) r.sep
  · by_cases q : a = p
    · rw [q, upd_same]; simp
    · rw [upd_ne q]; exact r.kn a m
  · obtain ⟨v, h1, h2⟩ := r.dat i d h
    exact ⟨v, h1, Rp.to g _ _ h2⟩
  · obtain ⟨a, u, h1, h2, h3, h4⟩ := r.ob h m
    exact ⟨a, u, h1, by rw [upd_ne fun z => h3 (.inr z)]; exact h2, h3, h4.to g⟩
def wpGX (X : Cx) (scope : Scope) (tg : Expr) : TG := fun v σ H Q => ∀ (s : Shared) (H0 : Hw) (C : Addr) (cl : List (Str × Addr)) (fp : List Addr), wpG (X.blk s H0 scope (compEnvC scope cl C X.env) fp) tg v σ H Q
def wpFX (X : Cx) (scope : Scope) (ifs : List Expr) : TT := fun σ H Q => ∀ (s : Shared) (H0 : Hw) (C : Addr) (cl : List (Str × Addr)) (fp : List Addr), wpF (X.blk s H0 scope (compEnvC scope cl C X.env) fp) ifs σ H Q
def wpEX (X : Cx) (scope : Scope) (elt : Expr) : TE := fun σ H Q => ∀ (s : Shared) (H0 : Hw) (C : Addr) (cl : List (Str × Addr)) (fp : List Addr), wpE (X.blk s H0 scope (compEnvC scope cl C X.env) fp) elt σ H Q
theorem ow_unset {σ : Sw} {vs : List Nat} {a : Addr} (h : Ow (wipe σ vs) (unset vs Γ) a) : Ow σ Γ a := by
  obtain ⟨i, s, h1, h2, h3⟩ := h
  by_cases hi : i ∈ vs
  · rw [unset_on hi h1] at h2
    cases h2
  · rw [unset_off hi] at h1
    rw [wipe_off hi] at h3
    exact ⟨i, s, h1, h2, h3⟩
/-- the turns of a comprehension: the reading's own heart -/
structure Mid (c : Co) (σ : Sw) (Γ1 : Ga) (vs : List Nat) (H1 : Hw) (Dl : Addr) (accV : List V) (acc : List D) (H2 : Hw) : Prop where
  pres : ∀ a o, ¬ c.U.T a → ¬ Ow σ Γ1 a → H1 a = some o → H2 a = some o
  er : ER c.U (fun a => c.M a ∨ a = Dl) H2 (wipe σ vs) (unset vs Γ1)
  dl : H2 Dl = some (.lst accV)
  ra : RpA (Mx (fun a => c.M a ∨ a = Dl) (wipe σ vs) (unset vs Γ1)) H2 accV acc
theorem lc_data {P : List D → Prop} {elt tg : Expr} {ifs : List Expr} {scope : Scope} {vs : List Nat} {σ : Sw} {Γ1 : Ga} {H1 : Hw} {J : It} {xs : List D} {I : Nat → List D → Prop} {Dl : Addr} {Qd : Hw → Prop} (er : ER c.U c.M H1 σ Γ1) (src : Src c σ Γ1 H1 J xs) (hD : H1 Dl = none) (h0 : I 0 []) (hl : xs.length ≤ 1000000)
    (hs : ∀ i x acc, xs[i]? = some x → I i acc → acc.length ≤ i →
      ∀ (s : Shared) (H : Hw) (C : Addr) (cl : List (Str × Addr)) (fp : List Addr), Gw (c.inner s H scope C cl fp Dl) vs tg (unset vs Γ1) x fun Γ2 =>
        ∀ (s : Shared) (H : Hw) (C : Addr) (cl : List (Str × Addr)) (fp : List Addr), Fv (c.inner s H scope C cl fp Dl) ifs Γ2 fun b Γ3 => Γ3 = Γ2 ∧ (b = true →
          ∀ (s : Shared) (H : Hw) (C : Addr) (cl : List (Str × Addr)) (fp : List Addr), Ev (c.inner s H scope C cl fp Dl) elt Γ2 fun y Γ4 => Γ4 = Γ2 ∧ I (i + 1) (acc ++ [y])) ∧ (b = false → I (i + 1) acc))
    (hd : ∀ accV acc H2, Mid c σ Γ1 vs H1 Dl accV acc H2 → I xs.length acc → Qd H2) :
    ∃ W : Nat → Nat → Hw → Prop, (∃ m, W 0 m (upd H1 Dl (.lst []))) ∧ ∀ i m H, W i m H →
      (J.stop i H ∧ Qd H) ∨ (J.go i H ∧ ∃ Nx : Hw → Prop, (∀ H', Nx H' → ∃ m', m' < m ∧ W (i + 1) m' H') ∧ ∀ x H', J.yld i H x H' → wpGX c.X scope tg x (wipe σ vs) H' fun σ2 H2 => wipe σ2 vs = wipe σ vs ∧ wpFX c.X scope ifs σ2 H2 fun b H3 =>
        if b = true then wpEX c.X scope elt σ2 H3 fun y H4 => ∃ acc, H4 Dl = some (.lst acc) ∧ acc.length < sizeLine ∧ Nx (upd H4 Dl (.lst (acc ++ [y]))) else Nx H3) := by
  have npD : ¬ c.U.T Dl := fun t => er.kn Dl (er.tm Dl t) hD
  have hM : ∀ a, (c.M a ∨ a = Dl) → c.M a ∨ H1 a = none := fun a h => h.imp id fun z => by rw [z]; exact hD
  refine ⟨fun i m H2 => m = xs.length - i ∧ i ≤ xs.length ∧ ∃ accV acc, Mid c σ Γ1 vs H1 Dl accV acc H2 ∧ acc.length ≤ i ∧ I i acc, ⟨xs.length, by simp, Nat.zero_le _, [], [], ⟨fun a o _ _ e => Grow.new hD a o e, (er.unset vs).apart hD, upd_same, .nil⟩, Nat.le_refl _, h0⟩, ?_⟩
  rintro i m H2 ⟨rfl, hi, accV, acc, md, al, hI⟩
  have st : Step c.U σ Γ1 H1 (wipe σ vs) (unset vs Γ1) H2 := ⟨md.pres, fun a z => .inl (ow_unset z)⟩
  by_cases hlt : i < xs.length
  · refine .inr ⟨src.go i _ _ _ H2 hM st md.er hlt, fun H' => ∃ accV acc, Mid c σ Γ1 vs H1 Dl accV acc H' ∧ acc.length ≤ i + 1 ∧ I (i + 1) acc, fun H' z => ⟨xs.length - (i + 1), by omega, rfl, hlt, z⟩, fun v H3 y s H0 C cl fp => ?_⟩
    obtain ⟨gr, d, hd', rd⟩ := src.yld i _ _ _ H2 v H3 hM st md.er hlt y
    refine hs i d acc hd' hI al s H0 C cl fp (wipe σ vs) H3 v (md.er.grow gr) rd _ (fun σ4 Γ4 e4 u4 s4 r4 hF => ⟨e4.trans (wipe_idem σ vs), fun s H0 C cl fp => ?_⟩)
    rw [unset_idem] at u4
    rw [wipe_idem] at e4
    have xw0 : ∀ (s : Shared) (H0 : Hw) (C : Addr) (cl : List (Str × Addr)) (fp : List Addr) {Γ5 : Ga} {H5 : Hw}, XW (c.inner s H0 scope C cl fp Dl) σ4 Γ5 H5 (fun _ _ _ _ => False) := fun _ _ _ _ _ _ _ _ _ _ _ _ _ _ _ _ e => e
    -- from the turn's middle on: what stood at H3 outside one's own and the volatile stands, and the environment is as it was
    have fin : ∀ {H5 : Hw} {accV' : List V} {acc' : List D}, (∀ a o, ¬ c.U.T a → ¬ Ow σ4 Γ4 a → H3 a = some o → H5 a = some o) → ER c.U (fun a => c.M a ∨ a = Dl) H5 σ4 Γ4 → RpA (Mx (fun a => c.M a ∨ a = Dl) σ4 Γ4) H5 accV' acc' → Mid c σ Γ1 vs H1 Dl (accV ++ accV') (acc ++ acc') (upd H5 Dl (.lst (accV ++ accV'))) := fun {H5 accV' acc'} fr r5 ra => by
      have noD : ¬ Ow σ4 Γ4 Dl := fun z => (r5.own_ne z).1 (.inr rfl)
      have keep : ∀ a o, ¬ c.U.T a → ¬ Ow (wipe σ vs) (unset vs Γ1) a → H2 a = some o → H5 a = some o := fun a o t n e => fr a o t (fun z => by
        rcases s4.og a z with z | z
        · exact n z
        · rw [gr a o e] at z; cases z) (gr a o e)
      have e5 : ER c.U (fun a => c.M a ∨ a = Dl) H5 (wipe σ vs) (unset vs Γ1) := by
        have z := r5.unset vs
        rw [u4, e4] at z
        exact z
      refine ⟨fun a o t n e => ?_, e5.apartMut npD, upd_same, RpA.app (RpA.to ⟨fun a o m e => ⟨?_, m⟩⟩ _ _ md.ra) (RpA.to ⟨fun a o m e => ⟨?_, fun z => m (z.elim .inl fun y => .inr ?_)⟩⟩ _ _ ra)⟩
      · rw [upd_ne (ne_of_none e hD)]
        exact keep a o t (fun z => n (ow_unset z)) (md.pres a o t n e)
      · rw [upd_ne fun z => m (.inl (.inr z))]
        exact keep a o (fun t => m (.inl (md.er.tm a t))) (fun z => m (.inr z)) e
      · rw [upd_ne fun z => m (.inl (.inr z))]
        exact e
      · rw [← e4, ← u4] at y
        exact ow_unset y
    have atD : ∀ {H5 : Hw}, (∀ a o, ¬ c.U.T a → ¬ Ow σ4 Γ4 a → H3 a = some o → H5 a = some o) → H5 Dl = some (.lst accV) := fun fr => fr Dl _ npD (fun z => (r4.own_ne z).1 (.inr rfl)) (gr _ _ md.dl)
    have body : ∀ (b : Bool) (H5 : Hw), (∀ a o, ¬ c.U.T a → ¬ Ow σ4 Γ4 a → H3 a = some o → H5 a = some o) → ER c.U (fun a => c.M a ∨ a = Dl) H5 σ4 Γ4 →
        ((b = true → ∀ (s : Shared) (H : Hw) (C : Addr) (cl : List (Str × Addr)) (fp : List Addr), Ev (c.inner s H scope C cl fp Dl) elt Γ4 fun y Γ5 => Γ5 = Γ4 ∧ I (i + 1) (acc ++ [y])) ∧ (b = false → I (i + 1) acc)) →
        if b = true then wpEX c.X scope elt σ4 H5 fun y H4 => ∃ acc, H4 Dl = some (.lst acc) ∧ acc.length < sizeLine ∧ ∃ accV acc', Mid c σ Γ1 vs H1 Dl accV acc' (upd H4 Dl (.lst (acc ++ [y]))) ∧ acc'.length ≤ i + 1 ∧ I (i + 1) acc'
        else ∃ accV acc', Mid c σ Γ1 vs H1 Dl accV acc' H5 ∧ acc'.length ≤ i + 1 ∧ I (i + 1) acc' := fun b H5 fr r5 hb => by
      cases b with
      | false =>
        show ∃ accV acc', Mid c σ Γ1 vs H1 Dl accV acc' H5 ∧ acc'.length ≤ i + 1 ∧ I (i + 1) acc'
        have z := fin (accV' := []) (acc' := []) fr r5 .nil
        rw [List.append_nil, List.append_nil] at z
        have e : upd H5 Dl (.lst accV) = H5 := by
          funext a
          unfold upd
          split
          · rename_i q
            rw [q]
            exact (atD fr).symm
          · rfl
        rw [e] at z
        exact ⟨accV, acc, z, by omega, hb.2 rfl⟩
      | true =>
        show wpEX c.X scope elt σ4 H5 _
        intro s H0 C cl fp
        refine hb.1 rfl s H0 C cl fp σ4 H5 r5 _ (fun _ _ _ _ => False) takes0 (xw0 s H0 C cl fp) fun w d Γ6 H6 g6 p6 ⟨e6, hI6⟩ => ?_
        subst e6
        have fr6 : ∀ a o, ¬ c.U.T a → ¬ Ow σ4 Γ6 a → H3 a = some o → H6 a = some o := fun a o t n e => g6.st.fr a o t n (fr a o t n e)
        refine ⟨accV, atD fr6, Nat.lt_of_lt_of_le (show accV.length < 1000001 by rw [md.ra.length]; omega) (by decide), _, _, fin fr6 g6.er (.cons p6 .nil), by simp; omega, hI6⟩
    rcases hF s H0 C cl fp with ⟨e, _, hb⟩ | ⟨t, e, ht⟩
    · exact .inl ⟨e, body true H3 (fun _ _ _ _ e => e) r4 hb⟩
    · exact .inr ⟨t, e, ht σ4 H3 r4 _ (fun _ _ _ _ => False) takes0 (xw0 s H0 C cl fp) fun b Γ5 H5 g5 ⟨e5, hb⟩ => by
        subst e5
        exact body b H5 (fun a o t n e => g5.st.fr a o t n e) g5.er hb⟩
  · have e : i = xs.length := by omega
    subst e
    exact .inl ⟨src.stop _ _ _ H2 hM st md.er, hd _ _ _ md hI⟩
/-- [elt for tg in iter if ..] -/
theorem ev_lc {P : D → Ga → Prop} {elt tg iter : Expr} {ifs : List Expr} {scope : Scope} (own : List (Str × Nat)) (bd : Bd c k) (ok : BlkOk c.X.N c.X.env.scope scope own)
    (h : Iv c tg iter Γ fun xs Γ1 => ∃ I : Nat → List D → Prop, I 0 [] ∧ xs.length ≤ 1000000 ∧ (∀ m ∈ own.map (·.2), ∀ s, Γ1[m]? = some s → s.mine = false) ∧
      (∀ i x acc, xs[i]? = some x → I i acc → acc.length ≤ i → ∀ (Dl : Addr) (s : Shared) (H : Hw) (C : Addr) (cl : List (Str × Addr)) (fp : List Addr), Gw (c.inner s H scope C cl fp Dl) (own.map (·.2)) tg (unset (own.map (·.2)) Γ1) x fun Γ2 =>
        ∀ (s : Shared) (H : Hw) (C : Addr) (cl : List (Str × Addr)) (fp : List Addr), Fv (c.inner s H scope C cl fp Dl) ifs Γ2 fun b Γ3 => Γ3 = Γ2 ∧ (b = true →
          ∀ (s : Shared) (H : Hw) (C : Addr) (cl : List (Str × Addr)) (fp : List Addr), Ev (c.inner s H scope C cl fp Dl) elt Γ2 fun y Γ4 => Γ4 = Γ2 ∧ I (i + 1) (acc ++ [y])) ∧ (b = false → I (i + 1) acc)) ∧
      ∀ acc, I xs.length acc → P (.lst acc) Γ1)
    (hs : ∀ x, foldedSetIterable iter c.X.env x = pure x := by intro _; rfl) : Ev c (.ListComp elt [⟨tg, iter, ifs, 0⟩] scope pos) Γ P := fun σ H er Q W tk xw q => by
  refine outE (pe_lc (own := own) (g := wpGX c.X scope tg) (tt := wpFX c.X scope ifs) (te := wpEX c.X scope elt) bd.calm bd.nd selfI ok (fun s H C cl fp => ⟨fun pins s' σ H' v u Q I r h => (h s H C cl fp).run pins s' u I r⟩)
    (fun s H C cl fp => ⟨fun pins s' σ H' Q I h => selfF.run pins s' σ H' Q I (h s H C cl fp)⟩) (fun s H C cl fp => ⟨fun pins s' σ H' Q I h => (h s H C cl fp).run pins s' I⟩) hs) ?_
  refine h σ H er _ W tk xw fun J xs Γ1 H1 g src ⟨I, h0, hl, hm, ht, hd⟩ Dl hD => ?_
  refine lc_data (P := fun acc => P (.lst acc) Γ1) g.er src hD h0 hl (fun i x acc hx hI al => ht i x acc hx hI al Dl) fun accV acc H2 md hI => ?_
  have st : Step c.U σ Γ1 H1 σ Γ1 H2 := ⟨md.pres, fun a z => .inl z⟩
  have ge : Goes (Mx c.M σ Γ1) (Mx c.M σ Γ1) H1 H2 := st.goes g.er
  have down : ∀ a, Ow σ Γ1 a → Ow (wipe σ (own.map (·.2))) (unset (own.map (·.2)) Γ1) a := fun a ⟨i, s, h1, h2, h3⟩ => by
    by_cases hi : i ∈ own.map (·.2)
    · rw [hm i hi s h1] at h2
      cases h2
    · exact ⟨i, s, by rw [unset_off hi]; exact h1, h2, by rw [wipe_off hi]; exact h3⟩
  have gd : Goes (Mx (fun a => c.M a ∨ a = Dl) (wipe σ (own.map (·.2))) (unset (own.map (·.2)) Γ1)) (Mx c.M σ Γ1) H2 H2 := ⟨fun a o m e => ⟨e, fun z => m (z.elim (fun y => .inl (.inl y)) fun y => .inr (down a y))⟩⟩
  have er2 : ER c.U c.M H2 σ Γ1 := by
    refine ER.of g.er.tm (fun a m => md.er.kn a (.inl m)) md.er.j g.er.len (fun i d h => ?_) (fun i s h m => ?_) g.er.sep
    · obtain ⟨v, h1, h2⟩ := g.er.dat i d h
      exact ⟨v, h1, Rp.to ge _ _ h2⟩
    · have hi : i ∉ own.map (·.2) := fun z => by rw [hm i z s h] at m; cases m
      obtain ⟨a, o, h1, h2, h3, h4⟩ := md.er.ob (i := i) (s := s) (by rw [unset_off hi]; exact h) m
      rw [wipe_off hi] at h1
      exact ⟨a, o, h1, h2, fun z => h3 (.inl z), h4.to gd⟩
  have nm : ¬ Mx c.M σ Γ1 Dl := fun z => g.er.mx Dl z hD
  exact q _ _ Γ1 H2 (g.trans ⟨st, rfl, er2⟩) (.lst md.dl nm (RpA.to gd _ _ md.ra)) (hd acc hI)
end
end U
/-! U9: operations over data. -/
namespace U
open PySem PySem.Spec PyProof.Rows L2
theorem sz {n : Nat} (h : n ≤ 16777216) : n ≤ sizeLine := Nat.le_trans h (by decide)
theorem szlt {n : Nat} (h : n < 16777216) : n < sizeLine := Nat.lt_of_lt_of_le h (by decide)
section
variable {X : Cx} {i j : Int} {ds es : List D}
theorem vo_I0 {g : Int → Int → Int} : Vo2 (rI0 fun i j => .int (g i j)) (.int i) (.int j) (.int (g i j)) := fun M H v w _ h1 h2 Q q => by
  cases h1.int_; cases h2.int_
  exact ⟨i, j, rfl, rfl, q _ H (Grow.refl H) (.int _)⟩
theorem vo_B0 {g : Int → Int → Bool} : Vo2 (rI0 fun i j => .bl (g i j)) (.int i) (.int j) (.bl (g i j)) := fun M H v w _ h1 h2 Q q => by
  cases h1.int_; cases h2.int_
  exact ⟨i, j, rfl, rfl, q _ H (Grow.refl H) (.bl _)⟩
theorem vo_I {C : Int → Int → Prop} {g : Int → Int → Int} (h : C i j) : Vo2 (rI C fun i j => .int (g i j)) (.int i) (.int j) (.int (g i j)) := fun M H v w _ h1 h2 Q q => by
  cases h1.int_; cases h2.int_
  exact ⟨i, j, rfl, rfl, h, q _ H (Grow.refl H) (.int _)⟩
theorem vo_neg : Vo1 (rU fun i => .int (-i)) (.int i) (.int (-i)) := fun M H v _ h1 Q q => by
  cases h1.int_
  exact ⟨i, rfl, q _ H (Grow.refl H) (.int _)⟩
/-- data without a heap -/
def D.sc : D → Option V
  | .non => some .non
  | .bl b => some (.bl b)
  | .int i => some (.int i)
  | .str x => some (.str x)
  | _ => none
theorem Rq.sc {M : Ex} {H : Hw} {v w : V} {d : D} (h : Rq M H v d) (e : d.sc = some w) : v = w := by
  cases d with
  | non => cases e; exact h.non_
  | bl b => cases e; exact h.bl_
  | int i => cases e; exact h.int_
  | str x => cases e; exact h.str_
  | lst _ => cases e
  | tup _ => cases e
  | dic _ => cases e
  | ad _ => cases e
theorem vo_eq {x y : D} {v w : V} (hx : x.sc = some v) (hy : y.sc = some w) (h : scal v w = true) : Vo2 rEq x y (.bl (decide (v = w))) := fun M H a b _ h1 h2 Q q => by
  cases h1.sc hx; cases h2.sc hy
  exact ⟨h, q _ H (Grow.refl H) (.bl _)⟩
theorem vo_ne {x y : D} {v w : V} (hx : x.sc = some v) (hy : y.sc = some w) (h : scal v w = true) : Vo2 rNe x y (.bl (!decide (v = w))) := fun M H a b _ h1 h2 Q q => by
  cases h1.sc hx; cases h2.sc hy
  exact ⟨h, q _ H (Grow.refl H) (.bl _)⟩
theorem vo_eqI : Vo2 rEq (.int i) (.int j) (.bl (decide (i = j))) := by
  have e : decide (V.int i = V.int j) = decide (i = j) := by
    by_cases h : i = j
    · subst h; simp
    · rw [decide_eq_false h, decide_eq_false fun z => h (V.int.inj z)]
  rw [← e]
  exact vo_eq rfl rfl rfl
theorem vo_neI : Vo2 rNe (.int i) (.int j) (.bl (!decide (i = j))) := by
  have e : decide (V.int i = V.int j) = decide (i = j) := by
    by_cases h : i = j
    · subst h; simp
    · rw [decide_eq_false h, decide_eq_false fun z => h (V.int.inj z)]
  rw [← e]
  exact vo_ne rfl rfl rfl
theorem vo_eqS {x y : Str} : Vo2 rEq (.str x) (.str y) (.bl (decide (x = y))) := by
  have e : decide (V.str x = V.str y) = decide (x = y) := by
    by_cases h : x = y
    · subst h; simp
    · rw [decide_eq_false h, decide_eq_false fun z => h (V.str.inj z)]
  rw [← e]
  exact vo_eq rfl rfl rfl
theorem vo_neS {x y : Str} : Vo2 rNe (.str x) (.str y) (.bl (!decide (x = y))) := by
  have e : decide (V.str x = V.str y) = decide (x = y) := by
    by_cases h : x = y
    · subst h; simp
    · rw [decide_eq_false h, decide_eq_false fun z => h (V.str.inj z)]
  rw [← e]
  exact vo_ne rfl rfl rfl
def D.isNon : D → Bool
  | .non => true
  | _ => false
theorem Rq.isNon {M : Ex} {H : Hw} {v : V} {d : D} (h : Rq M H v d) : decide (v = .non) = d.isNon := by
  cases h with
  | of h => cases h <;> simp [D.isNon]
  | lst => simp [D.isNon]
  | dic => simp [D.isNon]
theorem vo_isN {x : D} : Vo2 (fun x y H Q => y = .non ∧ Q (.bl (decide (x = .non))) H) x .non (.bl x.isNon) := fun M H v w _ h1 h2 Q q => by
  cases h2.non_
  refine ⟨rfl, ?_⟩
  rw [h1.isNon]
  exact q _ H (Grow.refl H) (.bl _)
theorem vo_notN {x : D} : Vo2 (fun x y H Q => y = .non ∧ Q (.bl (!decide (x = .non))) H) x .non (.bl (!x.isNon)) := fun M H v w _ h1 h2 Q q => by
  cases h2.non_
  refine ⟨rfl, ?_⟩
  rw [h1.isNon]
  exact q _ H (Grow.refl H) (.bl _)
/-! ### sequences -/
theorem RpA.ints_ {M : Ex} {H : Hw} : ∀ {ns : List Int} {vs : List V}, RpA M H vs (ns.map D.int) → vs = ns.map V.int
  | [], _, h => by cases h; rfl
  | n :: ns, _, h => by
    cases h with
    | cons a b =>
      cases a
      rw [RpA.ints_ b]
      rfl
theorem ints_flat (ns : List Int) : (ns.map V.int).all flatV = true := by
  rw [List.all_eq_true]
  intro v hv
  obtain ⟨n, _, rfl⟩ := List.mem_map.mp hv
  rfl
theorem ints_in (i : Int) (ns : List Int) : inV (.int i) (ns.map V.int) = decide (i ∈ ns) := by
  unfold inV
  rw [List.any_map]
  induction ns with
  | nil => rfl
  | cons n ns ih =>
    rw [List.any_cons, ih]
    show ((n == i) || decide (i ∈ ns)) = decide (i ∈ n :: ns)
    by_cases h : n = i
    · subst h; simp
    · have h' : ¬ i = n := fun z => h z.symm
      simp [h, h']
/-- a sequence of ints -/
def D.seqI (d : D) (ns : List Int) : Prop := d = .lst (ns.map D.int) ∨ d = .tup (ns.map D.int)
theorem vo_in {y : D} {ns : List Int} (hy : y.seqI ns) : Vo2 (rIn X.K false) (.int i) y (.bl (decide (i ∈ ns))) := fun M H v w _ h1 h2 Q q => by
  cases h1.int_
  have fin : Q (.bl (inV (.int i) (ns.map V.int))) H := by rw [ints_in]; exact q _ H (Grow.refl H) (.bl _)
  rcases hy with rfl | rfl
  · obtain ⟨a, xs, rfl, e, r⟩ := h2.lst_
    rw [r.ints_] at e
    exact ⟨a, _, rfl, .inl (sql_of e), rfl, ints_flat ns, fin⟩
  · obtain ⟨a, xs, rfl, e, _, r⟩ := h2.tup_
    rw [r.ints_] at e
    exact ⟨a, _, rfl, .inr (sqt_of e), rfl, ints_flat ns, fin⟩
theorem vo_notIn {y : D} {ns : List Int} (hy : y.seqI ns) : Vo2 (rIn X.K true) (.int i) y (.bl (!decide (i ∈ ns))) := fun M H v w _ h1 h2 Q q => by
  cases h1.int_
  have fin : Q (.bl (!inV (.int i) (ns.map V.int))) H := by rw [ints_in]; exact q _ H (Grow.refl H) (.bl _)
  rcases hy with rfl | rfl
  · obtain ⟨a, xs, rfl, e, r⟩ := h2.lst_
    rw [r.ints_] at e
    exact ⟨a, _, rfl, .inl (sql_of e), rfl, ints_flat ns, fin⟩
  · obtain ⟨a, xs, rfl, e, _, r⟩ := h2.tup_
    rw [r.ints_] at e
    exact ⟨a, _, rfl, .inr (sqt_of e), rfl, ints_flat ns, fin⟩
theorem RpA.atI {M : Ex} {H : Hw} {vs : List V} {d : D} (r : RpA M H vs ds) (h : L2.atI ds i = some d) : ∃ v, L2.atI vs i = some v ∧ Rp M H v d := by
  unfold L2.atI at h ⊢
  rw [r.length]
  cases e : ixN ds.length i with
  | none => rw [e] at h; cases h
  | some n =>
    rw [e] at h
    obtain ⟨v, h1, h2⟩ := r.at h
    exact ⟨v, h1, h2⟩
theorem vo_ixL {d : D} (h : L2.atI ds i = some d) : Vo2 (rIx X.K) (.lst ds) (.int i) d := fun M H v w _ h1 h2 Q q => by
  cases h2.int_
  obtain ⟨a, xs, rfl, e, r⟩ := h1.lst_
  obtain ⟨u, h3, h4⟩ := r.atI h
  exact .inl ⟨a, xs, i, u, rfl, rfl, sql_of e, h3, q u H (Grow.refl H) h4⟩
theorem vo_ixT {d : D} (h : L2.atI ds i = some d) : Vo2 (rIx X.K) (.tup ds) (.int i) d := fun M H v w _ h1 h2 Q q => by
  cases h2.int_
  obtain ⟨a, xs, rfl, e, _, r⟩ := h1.tup_
  obtain ⟨u, h3, h4⟩ := r.atI h
  exact .inr (.inl ⟨a, xs, i, u, rfl, rfl, sqt_of e, h3, q u H (Grow.refl H) h4⟩)
theorem vo_ixS {z : Str} {k : Nat} (hl : z.length ≤ 16777216) (h : L2.atI z.cps.toList i = some k) : Vo2 (rIx X.K) (.str z) (.int i) (.str ⟨#[k]⟩) := fun M H v w _ h1 h2 Q q => by
  cases h2.int_
  cases h1.str_
  exact .inr (.inr ⟨z, i, k, rfl, rfl, sz hl, h, q _ H (Grow.refl H) (.str _)⟩)
theorem vo_cat (h : ds.length + es.length ≤ 16777216) : Vo2 rCat (.lst ds) (.lst es) (.lst (ds ++ es)) := fun M H v w hk h1 h2 Q q => by
  obtain ⟨a, xs, rfl, e, r⟩ := h1.lst_
  obtain ⟨b, ys, rfl, e', r'⟩ := h2.lst_
  exact ⟨a, b, xs, ys, rfl, rfl, e, e', by rw [r.length, r'.length]; exact sz h, fun p hp => q _ _ (Grow.new hp) (.lst upd_same (fun z => hk p z hp) (RpA.to (Grow.new hp).goes _ _ (r.app r')))⟩
theorem vo_catT (h : ds.length + es.length ≤ 16777216) : Vo2 (rCatA X.K) (.tup ds) (.tup es) (.tup (ds ++ es)) := fun M H v w hk h1 h2 Q q => by
  obtain ⟨a, xs, rfl, e, m, r⟩ := h1.tup_
  obtain ⟨b, ys, rfl, e', m', r'⟩ := h2.tup_
  refine ⟨a, b, xs, ys, rfl, rfl, sqt_of e, sqt_of e', by rw [r.length, r'.length]; exact sz h, fun z => ?_, fun _ z => ?_, fun _ _ p hp => q _ _ (Grow.new hp) (.tup upd_same (fun z => hk p z hp) (RpA.to (Grow.new hp).goes _ _ (r.app r')))⟩
  · subst z
    have : ds = [] := by cases ds with | nil => rfl | cons _ _ => cases r
    subst this
    exact q _ H (Grow.refl H) (.tup e' m' r')
  · subst z
    have : es = [] := by cases es with | nil => rfl | cons _ _ => cases r'
    subst this
    have q' := q (.ref a) H (Grow.refl H)
    rw [List.append_nil] at q'
    exact q' (.tup e m r)
theorem vo_rep (h1 : -(2 ^ 60) ≤ i) (h2 : i < 2 ^ 60) (h : ds.length * i.toNat ≤ 16777216) : Vo2 rRep (.lst ds) (.int i) (.lst (List.replicate i.toNat ds).flatten) := fun M H v w hk g1 g2 Q q => by
  cases g2.int_
  obtain ⟨a, xs, rfl, e, r⟩ := g1.lst_
  exact ⟨a, i, xs, rfl, rfl, e, by omega, by omega, by rw [r.length]; exact sz h, fun p hp => q _ _ (Grow.new hp) (.lst upd_same (fun z => hk p z hp) (RpA.to (Grow.new hp).goes _ _ (r.rep i.toNat)))⟩
/-! ### lengths, lists and tuples made -/
def D.len? : D → Option Nat
  | .lst ds => some ds.length
  | .tup ds => some ds.length
  | .str x => if x.length ≤ 16777216 then some x.length else none
  | _ => none
theorem vo_len {x : D} {n : Nat} (h : x.len? = some n) : Von (fun xs H Q => ∃ x n, xs = [x] ∧ LenV X.K x H n ∧ Q (.int n) H) [x] (.int (n : Nat)) := fun M H vs _ h1 Q q => by
  cases h1 with
  | cons h1 h2 =>
    cases h2
    cases x with
    | lst ds =>
      cases h
      obtain ⟨a, xs, rfl, e, r⟩ := h1.lst_
      exact ⟨_, _, rfl, .inl ⟨xs, sql_of e, rfl⟩, by rw [r.length]; exact q _ H (Grow.refl H) (.int _)⟩
    | tup ds =>
      cases h
      obtain ⟨a, xs, rfl, e, _, r⟩ := h1.tup_
      exact ⟨_, _, rfl, .inr ⟨xs, sqt_of e, rfl⟩, by rw [r.length]; exact q _ H (Grow.refl H) (.int _)⟩
    | str z =>
      cases h1.str_
      have h' : (if z.length ≤ 16777216 then some z.length else none) = some n := h
      split at h'
      · rename_i hz
        cases h'
        exact ⟨_, _, rfl, ⟨sz hz, rfl⟩, q _ H (Grow.refl H) (.int _)⟩
      · cases h'
    | non => cases h
    | bl _ => cases h
    | int _ => cases h
    | dic _ => cases h
    | ad _ => cases h
def D.items? : D → Option (List D)
  | .lst ds => some ds
  | .tup ds => some ds
  | _ => none
theorem vo_list {x : D} (h : x.items? = some ds) : Von (fun xs H Q => ∃ p ys, xs = [.ref p] ∧ (SqL X.K H p ys ∨ SqT X.K H p ys) ∧ ∀ l, H l = none → Q (.ref l) (upd H l (.lst ys))) [x] (.lst ds) := fun M H vs hk h1 Q q => by
  cases h1 with
  | cons h1 h2 =>
    cases h2
    cases x with
    | lst es =>
      cases h
      obtain ⟨a, xs, rfl, e, r⟩ := h1.lst_
      exact ⟨a, xs, rfl, .inl (sql_of e), fun p hp => q _ _ (Grow.new hp) (.lst upd_same (fun z => hk p z hp) (RpA.to (Grow.new hp).goes _ _ r))⟩
    | tup es =>
      cases h
      obtain ⟨a, xs, rfl, e, _, r⟩ := h1.tup_
      exact ⟨a, xs, rfl, .inr (sqt_of e), fun p hp => q _ _ (Grow.new hp) (.lst upd_same (fun z => hk p z hp) (RpA.to (Grow.new hp).goes _ _ r))⟩
    | str z => cases h
    | non => cases h
    | bl _ => cases h
    | int _ => cases h
    | dic _ => cases h
    | ad _ => cases h
theorem vo_tuple {x : D} (h : x.items? = some ds) : Von (fun xs H Q => ∃ p ys, xs = [.ref p] ∧ ((SqL X.K H p ys ∧ ∀ l, H l = none → Q (.ref l) (upd H l (.tup ys))) ∨ (SqT X.K H p ys ∧ Q (.ref p) H))) [x] (.tup ds) := fun M H vs hk h1 Q q => by
  cases h1 with
  | cons h1 h2 =>
    cases h2
    cases x with
    | lst es =>
      cases h
      obtain ⟨a, xs, rfl, e, r⟩ := h1.lst_
      exact ⟨a, xs, rfl, .inl ⟨sql_of e, fun p hp => q _ _ (Grow.new hp) (.tup upd_same (fun z => hk p z hp) (RpA.to (Grow.new hp).goes _ _ r))⟩⟩
    | tup es =>
      cases h
      obtain ⟨a, xs, rfl, e, m, r⟩ := h1.tup_
      exact ⟨a, xs, rfl, .inr ⟨sqt_of e, q _ H (Grow.refl H) (.tup e m r)⟩⟩
    | str z => cases h
    | non => cases h
    | bl _ => cases h
    | int _ => cases h
    | dic _ => cases h
    | ad _ => cases h
theorem vo_int1 : Von (fun xs H Q => (∃ i, xs = [.int i] ∧ Q (.int i) H) ∨ ∃ k, xs = [.bl k] ∧ Q (.int (if k then 1 else 0)) H) [.int i] (.int i) := fun M H vs hk h1 Q q => by
  cases h1 with
  | cons h1 h2 =>
    cases h2
    cases h1.int_
    exact .inl ⟨i, rfl, q _ H (Grow.refl H) (.int _)⟩
theorem vo_int1B {b : Bool} : Von (fun xs H Q => (∃ i, xs = [.int i] ∧ Q (.int i) H) ∨ ∃ k, xs = [.bl k] ∧ Q (.int (if k then 1 else 0)) H) [.bl b] (.int (if b then 1 else 0)) := fun M H vs hk h1 Q q => by
  cases h1 with
  | cons h1 h2 =>
    cases h2
    cases h1.bl_
    exact .inr ⟨b, rfl, q _ H (Grow.refl H) (.int _)⟩
theorem vo_abs : Von (fun xs H Q => ∃ i, xs = [.int i] ∧ Q (.int (if i < 0 then -i else i)) H) [.int i] (.int (if i < 0 then -i else i)) := fun M H vs hk h1 Q q => by
  cases h1 with
  | cons h1 h2 =>
    cases h2
    cases h1.int_
    exact ⟨i, rfl, q _ H (Grow.refl H) (.int _)⟩
theorem vo_min2 : Von (fun xs H Q => ∃ i j, xs = [.int i, .int j] ∧ Q (.int (if j < i then j else i)) H) [.int i, .int j] (.int (if j < i then j else i)) := fun M H vs hk h1 Q q => by
  cases h1 with
  | cons h1 h2 =>
    cases h2 with
    | cons h2 h3 =>
      cases h3
      cases h1.int_
      cases h2.int_
      exact ⟨i, j, rfl, q _ H (Grow.refl H) (.int _)⟩
theorem vo_all {bs : List Bool} : Von (rAll X.K) [.lst (bs.map D.bl)] (.bl (bs.all id)) := fun M H vs hk h1 Q q => by
  cases h1 with
  | cons h1 h2 =>
    cases h2
    obtain ⟨a, xs, rfl, e, r⟩ := h1.lst_
    have : ∀ {bs : List Bool} {vs : List V}, RpA M H vs (bs.map D.bl) → vs = bs.map V.bl := by
      intro bs
      induction bs with
      | nil => intro vs h; cases h; rfl
      | cons b bs ih =>
        intro vs h
        cases h with
        | cons p r => cases p; rw [ih r]; rfl
    rw [this r] at e
    exact ⟨a, bs, rfl, sql_of e, q _ H (Grow.refl H) (.bl _)⟩
end
/-! ### built-ins by name -/
section
variable {c : Co} {k : Nat} {Γ : Ga} {P : D → Ga → Prop} {a b e : Expr} {es : List Expr} {pos p : Pos}
theorem eq_mono {P' : D → Ga → Prop} (h : EvQ c e Γ P) (k : ∀ d Γ', P d Γ' → P' d Γ') : EvQ c e Γ P' := fun σ H r Q W tk xw q => h σ H r Q W tk xw fun v d Γ' H' g p hp => q v d Γ' H' g p (k d Γ' hp)
theorem av_mono {P P' : List D → Ga → Prop} (h : Av c es Γ P) (k : ∀ d Γ', P d Γ' → P' d Γ') : Av c es Γ P' := fun σ H r Q W tk xw q => h σ H r Q W tk xw fun v d Γ' H' g p hp => q v d Γ' H' g p (k d Γ' hp)
theorem ev_len (hm : c.X.mg "len" = none) (h : EvQ c a Γ fun d Γ1 => ∃ n, d.len? = some n ∧ P (.int (n : Nat)) Γ1) (hg : Gl c.X "len") (hs : starEach [a] c.X.env = (false, eval a c.X.env) :: starEach [] c.X.env := by rfl) (hpl : (backTo pos (starEach [] c.X.env)).any (·.1) = false := by rfl) : Ev c (.Call (.Name "len" p) [a] [] pos) Γ P :=
  evn1 (fun ha => pe_callB call_len hg hm PySem.boot_len ha (by decide) (by decide) hs hpl) (eq_mono h fun d Γ1 ⟨n, e, hp⟩ => ⟨_, vo_len e, hp⟩) hs
theorem ev_listOf (hm : c.X.mg "list" = none) (h : EvQ c a Γ fun d Γ1 => ∃ ds, d.items? = some ds ∧ P (.lst ds) Γ1) (hg : Gl c.X "list") (hs : starEach [a] c.X.env = (false, eval a c.X.env) :: starEach [] c.X.env := by rfl) (hpl : (backTo pos (starEach [] c.X.env)).any (·.1) = false := by rfl) : Ev c (.Call (.Name "list" p) [a] [] pos) Γ P :=
  evn1 (fun ha => pe_callTy call_list_of hg hm (by decide +kernel) ha (by decide) (by decide) hs hpl) (eq_mono h fun d Γ1 ⟨n, e, hp⟩ => ⟨_, vo_list e, hp⟩) hs
theorem ev_tupleOf (hm : c.X.mg "tuple" = none) (h : EvQ c a Γ fun d Γ1 => ∃ ds, d.items? = some ds ∧ P (.tup ds) Γ1) (hg : Gl c.X "tuple") (hs : starEach [a] c.X.env = (false, eval a c.X.env) :: starEach [] c.X.env := by rfl) (hpl : (backTo pos (starEach [] c.X.env)).any (·.1) = false := by rfl) : Ev c (.Call (.Name "tuple" p) [a] [] pos) Γ P :=
  evn1 (fun ha => pe_callTy call_tuple_of hg hm (by decide +kernel) ha (by decide) (by decide) hs hpl) (eq_mono h fun d Γ1 ⟨n, e, hp⟩ => ⟨_, vo_tuple e, hp⟩) hs
theorem ev_intOf (hm : c.X.mg "int" = none) (h : Ev c a Γ fun d Γ1 => (∃ i, d = .int i ∧ P (.int i) Γ1) ∨ ∃ b, d = .bl b ∧ P (.int (if b then 1 else 0)) Γ1) (hg : Gl c.X "int") (hs : starEach [a] c.X.env = (false, eval a c.X.env) :: starEach [] c.X.env := by rfl) (hpl : (backTo pos (starEach [] c.X.env)).any (·.1) = false := by rfl) : Ev c (.Call (.Name "int" p) [a] [] pos) Γ P :=
  evn1 (fun ha => pe_callTy call_int1 hg hm (by decide +kernel) ha (by decide) (by decide) hs hpl) (eq_of (ev_mono h fun d Γ1 h => by
    rcases h with ⟨i, rfl, hp⟩ | ⟨b, rfl, hp⟩
    · exact ⟨_, vo_int1, hp⟩
    · exact ⟨_, vo_int1B, hp⟩)) hs
theorem ev_min2 (bd : Bd c k) (hm : c.X.mg "min" = none) (h : Av c [a, b] Γ fun ds Γ1 => ∃ i j, ds = [.int i, .int j] ∧ P (.int (if j < i then j else i)) Γ1) (hg : Gl c.X "min") (hs : starEach [a, b] c.X.env = (false, eval a c.X.env) :: starEach [b] c.X.env := by rfl) (hpl : (backTo pos (starEach [b] c.X.env)).any (·.1) = false := by rfl) : Ev c (.Call (.Name "min" p) [a, b] [] pos) Γ P :=
  evn (fun ha => pe_callB (call_min2 bd.calm) hg hm (by decide +kernel) ha (by decide) (by decide) hs hpl) (av_mono h fun d Γ1 ⟨i, j, e, hp⟩ => ⟨_, by rw [e]; exact vo_min2, hp⟩)
theorem ev_all (bd : Bd c k) (hm : c.X.mg "all" = none) (h : EvQ c a Γ fun d Γ1 => ∃ bs : List Bool, d = .lst (bs.map D.bl) ∧ P (.bl (bs.all id)) Γ1) (hg : Gl c.X "all") (hs : starEach [a] c.X.env = (false, eval a c.X.env) :: starEach [] c.X.env := by rfl) (hpl : (backTo pos (starEach [] c.X.env)).any (·.1) = false := by rfl) : Ev c (.Call (.Name "all" p) [a] [] pos) Γ P :=
  evn1 (fun ha => pe_callB (cr_all bd.calm) hg hm (by decide +kernel) ha (by decide) (by decide) hs hpl) (eq_mono h fun d Γ1 ⟨n, e, hp⟩ => ⟨_, by rw [e]; exact vo_all, hp⟩) hs
/-! ### isinstance of built-in types -/
def tyOf : D → String
  | .non => "NoneType"
  | .bl _ => "bool"
  | .int _ => "int"
  | .str _ => "str"
  | .lst _ => "list"
  | .tup _ => "tuple"
  | .dic _ => "dict"
  | .ad _ => ""
def D.isAd : D → Bool
  | .ad _ => true
  | _ => false
def isTyN (T t : String) : Bool := t == T || (T == "int" && t == "bool")
def kindNames : List String := ["NoneType", "bool", "int", "str", "list", "tuple", "dict"]
theorem tyOf_mem {d : D} (h : d.isAd = false) : tyOf d ∈ kindNames := by
  cases d with
  | ad _ => cases h
  | _ => simp [tyOf, kindNames]
theorem Rq.ty {K : PySem.W.Frag} {M : Ex} {H : Hw} {v : V} {d : D} (r : Rq M H v d) (h : d.isAd = false) : TyX K H v (.type (tyOf d)) := by
  cases d with
  | non => cases r.non_; exact .base .non
  | bl b => cases r.bl_; exact .base (.bl b)
  | int i => cases r.int_; exact .base (.int i)
  | str x => cases r.str_; exact .base (.str x)
  | lst ds => obtain ⟨a, xs, rfl, e, _⟩ := r.lst_; exact .base (.lst e)
  | tup ds => obtain ⟨a, xs, rfl, e, _⟩ := r.tup_; exact .base (.tup e)
  | dic ds => obtain ⟨a, xs, rfl, e, _⟩ := r.dic_; exact .base (.dK e)
  | ad _ => cases h
theorem ev_isi {T : Str} {T' : String} {p2 : Pos} (hm : c.X.mg "isinstance" = none) (hmT : c.X.mg T = none) (hvT : bootBuiltins T = some (.type T')) (hk : (kindNames.all fun t => decide (kitB t T' = some (isTyN T' t))) = true) (h : EvQ c a Γ fun d Γ1 => d.isAd = false ∧ P (.bl (isTyN T' (tyOf d))) Γ1)
    (hg : Gl c.X "isinstance") (hgT : Gl c.X T) (hnT : T ≠ "__name__" := by decide) (hdT : (T == ("__debug__" : Str)) = false := by decide) (hs : starEach [a, .Name T p2] c.X.env = (false, eval a c.X.env) :: starEach [.Name T p2] c.X.env := by rfl)
    (hs2 : starEach [.Name T p2] c.X.env = (false, eval (.Name T p2) c.X.env) :: starEach [] c.X.env := by rfl) (hpl : (backTo pos (starEach [.Name T p2] c.X.env)).any (·.1) = false := by rfl) :
    Ev c (.Call (.Name "isinstance" p) [a, .Name T p2] [] pos) Γ P := fun σ H er Q W tk xw q =>
  outE (pe_callB call_isi hg hm (by decide +kernel) (pa_cons selfE (pa_cons (pe_bltn hgT hmT hvT (v := .ty T') rfl hnT hdT) pa_nil hs2) hs) (by decide) (by decide) hs hpl) (h σ H er _ W tk xw fun v d Γ1 H1 g r ⟨hd, hp⟩ =>
    ⟨v, .ty T', .type (tyOf d), .type T', isTyN T' (tyOf d), rfl, .ty T', r.ty hd, kit_ty (of_decide_eq_true (List.all_eq_true.mp hk _ (tyOf_mem hd))), q _ _ Γ1 H1 g (.bl _) hp⟩)
/-! ### subscripts, slices -/
theorem ev_ix (h : Ev c a Γ fun x Γ1 => EvQ c b Γ1 fun y Γ2 => ∃ i, y = .int i ∧ ∃ z, ((∃ ds, x.items? = some ds ∧ L2.atI ds i = some z) ∨ ∃ s k, x = .str s ∧ s.length ≤ 16777216 ∧ L2.atI s.cps.toList i = some k ∧ z = .str ⟨#[k]⟩) ∧ P z Γ2) (hx : PlainIx b := by intro _ _; rfl) : Ev c (.Subscript a b pos) Γ P :=
  ev2 (fun h1 h2 => pe_ix ix_seq h1 h2 hx) (ev_mono h fun x Γ1 h => eq_mono h fun y Γ2 ⟨i, e, z, h, hp⟩ => by
    subst e
    rcases h with ⟨ds, e, hz⟩ | ⟨s, k, rfl, hl, hz, rfl⟩
    · cases x with
      | lst es => cases e; exact ⟨z, vo_ixL hz, hp⟩
      | tup es => cases e; exact ⟨z, vo_ixT hz, hp⟩
      | non => cases e
      | bl _ => cases e
      | int _ => cases e
      | str _ => cases e
      | dic _ => cases e
      | ad _ => cases e
    · exact ⟨_, vo_ixS hl hz, hp⟩)
/-- a list of this body's own, by an index -/
theorem ev_ixo {x : Str} {ds : List D} {npos : Pos} (i : Nat) (hN : c.X.N[i]? = some x) (hv : Vis c.X.env.scope x) (hd : Γ[i]? = some (.own ds)) (h : EvQ c b Γ fun y Γ2 => Γ2[i]? = some (.own ds) ∧ ∃ j, y = .int j ∧ ∃ z, L2.atI ds j = some z ∧ P z Γ2) (hx : PlainIx b := by intro _ _; rfl) (hdb : (x == ("__debug__" : Str)) = false := by decide) (hcd : (x == ("__classdict__" : Str)) = false := by decide) : Ev c (.Subscript (.Name x npos) b pos) Γ P :=
  ev2o i hN hv hd (fun h1 h2 => pe_ix ix_seq h1 h2 hx) (eq_mono h fun y Γ2 ⟨h1, j, e, z, hz, hp⟩ => ⟨h1, z, by rw [e]; exact vo_ixL hz, hp⟩) hdb hcd
/-- a part of a slice -/
def Ov (c : Co) (e : Option Expr) (Γ : Ga) (P : Option Int → Ga → Prop) : Prop := match e with
  | none => P none Γ
  | some e => Ev c e Γ fun d Γ1 => ∃ i, d = .int i ∧ P (some i) Γ1
def wpO (X : Cx) (e : Option Expr) : TO := match e with
  | none => tNoPart
  | some e => tPart (wpE X e)
theorem selfO {X : Cx} {e : Option Expr} : PO X e (wpO X e) := by
  cases e with
  | none => exact po_none
  | some e => exact po_some selfE
theorem ov_run {e : Option Expr} {P : Option Int → Ga → Prop} (h : Ov c e Γ P) {σ : Sw} {H : Hw} (er : ER c.U c.M H σ Γ) {Q : Option Int → Hw → Prop} {W : WX} (tk : Takes c.X W) (xw : XW c σ Γ H W) (q : ∀ o Γ' H', Go c σ Γ H Γ' H' → P o Γ' → Q o H') : wpO c.X e σ H Q := by
  cases e with
  | none => exact q none Γ H (.refl er) h
  | some e =>
    refine h σ H er _ W tk xw fun v d Γ1 H1 g p ⟨i, e, hp⟩ => ?_
    subst e
    cases p
    exact ⟨i, rfl, q _ Γ1 H1 g hp⟩
def cut {α : Type} (xs : List α) (lo hi : Option Int) : List α := (xs.drop (HT.sIx xs.length 0 lo)).take (HT.sIx xs.length xs.length hi - HT.sIx xs.length 0 lo)
theorem RpA.cut {M : Ex} {H : Hw} {vs : List V} {ds : List D} (r : RpA M H vs ds) (lo hi : Option Int) : RpA M H (cutV vs lo hi) (cut ds lo hi) := by
  unfold cutV U.cut
  rw [r.length]
  exact (r.drop _).take _
theorem cut_all {α : Type} (xs : List α) {lo hi : Option Int} (h : HT.sIx xs.length 0 lo = 0 ∧ HT.sIx xs.length xs.length hi = xs.length) : cut xs lo hi = xs := by
  unfold cut
  rw [h.1, h.2]
  simp
/-- e[lo:hi] of a tuple, a list, a text -/
inductive Cut (lo hi : Option Int) : D → D → Prop
  | lst (ds : List D) : Cut lo hi (.lst ds) (.lst (cut ds lo hi))
  | tup (ds : List D) : Cut lo hi (.tup ds) (.tup (cut ds lo hi))
  | str (z : Str) (h : z.length ≤ 16777216) : Cut lo hi (.str z) (.str (cutS z lo hi))
theorem ev_slice {lo hi : Option Expr} {p2 : Pos} (h : Ev c a Γ fun x Γ1 => Ov c lo Γ1 fun l Γ2 => Ov c hi Γ2 fun u Γ3 => ∃ z, Cut l u x z ∧ P z Γ3) : Ev c (.Subscript a (.Slice lo hi none p2) pos) Γ P := fun σ H er Q W tk xw q => by
  refine outE (pe_slice (SlR.or sl_list (SlR.or sl_tupA sl_str)) selfE selfO selfO) (h σ H er _ W tk xw fun v x Γ1 H1 g1 p1 h1 => ov_run h1 g1.er tk (xw.on g1.er g1.st) fun l Γ2 H2 g2 h2 => ov_run h2 g2.er tk ((xw.on g1.er g1.st).on g2.er g2.st) fun u Γ3 H3 g3 ⟨z, hc, hp⟩ => ?_)
  have G := (g1.trans g2).trans g3
  have p3 := Rp.to (g3.goes g2.er) _ _ (Rp.to (g2.goes g1.er) _ _ p1)
  cases hc with
  | lst ds =>
    cases p3 with
    | lst e m r => exact .inl ⟨_, _, rfl, sql_of e, fun p hp' => q _ _ Γ3 _ (G.grow (Grow.new hp')) (.lst upd_same (fun z => G.er.mx p z hp') (RpA.to (Grow.new hp').goes _ _ (r.cut l u))) hp⟩
  | tup ds =>
    cases p3 with
    | tup e m r =>
      refine .inr (.inl ⟨_, _, rfl, sqt_of e, fun hw => ?_, fun hw p hp' => q _ _ Γ3 _ (G.grow (Grow.new hp')) (.tup upd_same (fun z => G.er.mx p z hp') (RpA.to (Grow.new hp').goes _ _ (r.cut l u))) hp⟩)
      rw [r.length] at hw
      rw [cut_all ds hw] at hp
      exact q _ _ Γ3 H3 G (.tup e m r) hp
  | str z hz =>
    cases p3
    exact .inr (.inr ⟨z, rfl, sz hz, q _ _ Γ3 H3 G (.str _) hp⟩)
end
end U
/-! U10: repr and == over data. -/
namespace U
open PySem PySem.Spec PyProof.Rows L2
def keyPy : L2.Key → PyData
  | .inl i => .int i
  | .inr x => .str x
mutual
def toPy : D → PyData
  | .non => .none
  | .bl b => .bool b
  | .int i => .int i
  | .str x => .str x
  | .lst xs => .list (toPyA xs)
  | .tup xs => .tuple (toPyA xs)
  | .dic _ => .dict []
  | .ad _ => .none
def toPyA : List D → List PyData
  | [] => []
  | x :: xs => toPy x :: toPyA xs
end
mutual
/-- no dict, no address -/
def D.pl : D → Bool
  | .lst xs => D.plA xs
  | .tup xs => D.plA xs
  | .dic _ => false
  | .ad _ => false
  | _ => true
def D.plA : List D → Bool
  | [] => true
  | x :: xs => x.pl && D.plA xs
end
section
variable {X : Cx} {pins : List (Addr × Obj)} {σ : Sw} {H : Hw} {M : Ex} {s : Shared}
mutual
theorem Rp.dp : ∀ (d : D) (v : V), d.pl = true → Rp M H v d → Dp X.K H v (toPy d)
  | .non, _, _, h => by cases h; simp only [toPy]; exact .non
  | .bl _, _, _, h => by cases h; simp only [toPy]; exact .bl _
  | .int _, _, _, h => by cases h; simp only [toPy]; exact .int _
  | .str _, _, _, h => by cases h; simp only [toPy]; exact .str _
  | .lst ds, _, e, h => by
    cases h with
    | lst a b c =>
      simp only [toPy]
      exact .lst (sql_of a) (RpA.dp ds _ (by simpa only [D.pl] using e) c)
  | .tup ds, _, e, h => by
    cases h with
    | tup a b c =>
      simp only [toPy]
      exact .tup (sqt_of a) (RpA.dp ds _ (by simpa only [D.pl] using e) c)
  | .dic _, _, e, _ => by simp [D.pl] at e
  | .ad _, _, e, _ => by simp [D.pl] at e
theorem RpA.dp : ∀ (ds : List D) (vs : List V), D.plA ds = true → RpA M H vs ds → DpAll X.K H vs (toPyA ds)
  | [], _, _, h => by cases h; simp only [toPyA]; exact .nil
  | d :: ds, _, e, h => by
    have e' : d.pl = true ∧ D.plA ds = true := by simpa only [D.plA, Bool.and_eq_true] using e
    cases h with
    | cons a b =>
      simp only [toPyA]
      exact .cons (Rp.dp d _ e'.1 a) (RpA.dp ds _ e'.2 b)
end
theorem Rq.dp {d : D} {v : V} (e : d.pl = true) (h : Rq M H v d) : Dp X.K H v (toPy d) := by
  cases h with
  | of h => exact Rp.dp d v e h
  | lst a c =>
    simp only [toPy]
    exact .lst (sql_of a) (RpA.dp _ _ (by simpa only [D.pl] using e) c)
  | dic _ _ => simp [D.pl] at e
end
/-! ### how long, how deep -/
structure Rk (d : D) (n k : Nat) : Prop where
  pl : d.pl = true
  nd : (toPy d).hasDict = false
  sh : (toPy d).showable = true
  ln : (toPy d).shown.length ≤ n
  dp : (toPy d).depth ≤ k
structure RkA (ds : List D) (n k : Nat) : Prop where
  pl : D.plA ds = true
  nd : PyData.hasDictAll (toPyA ds) = false
  sh : PyData.showableAll (toPyA ds) = true
  ln : ((PyData.shownAll (toPyA ds)).map (·.length)).sum + 2 * (toPyA ds).length ≤ n
  dp : PyData.depthAll (toPyA ds) ≤ k
theorem Rk.le {d : D} {n m k j : Nat} (h : Rk d n k) (a : n ≤ m) (b : k ≤ j) : Rk d m j := ⟨h.pl, h.nd, h.sh, Nat.le_trans h.ln a, Nat.le_trans h.dp b⟩
theorem rk_non {k : Nat} : Rk .non 4 k := ⟨rfl, by simp [toPy, PyData.hasDict], by simp [toPy, PyData.showable], by simp only [toPy, PyData.shown]; decide, by simp [toPy, PyData.depth]⟩
theorem rk_bl {b : Bool} {k : Nat} : Rk (.bl b) 5 k := ⟨rfl, by simp [toPy, PyData.hasDict], by simp [toPy, PyData.showable], by simp only [toPy, PyData.shown]; cases b <;> decide, by simp [toPy, PyData.depth]⟩
theorem int_shown {i : Int} {n : Nat} (hn : 0 < n) (h : i.natAbs < 2 ^ n) : (PyData.shown (.int i)).length ≤ n + 1 := by
  have e := int_text_length_le hn (PySem.Flt.log2_lt_of hn h)
  have e2 : (PyData.shown (.int i)).length = (toString i).length := by
    simp only [PyData.shown]
    exact PySem.ofString_length _
  omega
theorem rk_int {i : Int} {n k : Nat} (h : i.natAbs < 2 ^ n) (h0 : 0 < n) (hn : n ≤ 1900) : Rk (.int i) (n + 1) k :=
  ⟨rfl, by simp [toPy, PyData.hasDict], by simp only [toPy, PyData.showable, decide_eq_true_eq]; exact Nat.lt_of_lt_of_le (PySem.Flt.log2_lt_of h0 h) (by omega), by simp only [toPy]; exact int_shown h0 h, by simp [toPy, PyData.depth]⟩
theorem rk_str {x : Str} {k : Nat} (h : ∀ c ∈ x.cps.toList, c < 16 ^ 8) : Rk (.str x) (10 * x.length + 2) k := ⟨rfl, by simp [toPy, PyData.hasDict], by simp [toPy, PyData.showable], by simp only [toPy, PyData.shown]; exact StrLaws.reprText_len x h, by simp [toPy, PyData.depth]⟩
theorem rka_nil {k : Nat} : RkA [] 0 k := ⟨rfl, by simp [toPyA, PyData.hasDictAll], by simp [toPyA, PyData.showableAll], by simp [toPyA, PyData.shownAll], by simp [toPyA, PyData.depthAll]⟩
theorem rka_cons {d : D} {ds : List D} {n m k : Nat} (h : Rk d n k) (r : RkA ds m k) : RkA (d :: ds) (n + 2 + m) k := by
  refine ⟨by simp [D.plA, h.pl, r.pl], by simp [toPyA, PyData.hasDictAll, h.nd, r.nd], by simp [toPyA, PyData.showableAll, h.sh, r.sh], ?_, ?_⟩
  · have a := h.ln
    have b := r.ln
    simp only [toPyA, PyData.shownAll, List.map_cons, List.sum_cons, List.length_cons]
    omega
  · have a := h.dp
    have b := r.dp
    simp only [toPyA, PyData.depthAll]
    omega
theorem shownAll_len : ∀ ds : List PyData, (PyData.shownAll ds).length = ds.length
  | [] => rfl
  | d :: ds => by simp only [PyData.shownAll, List.length_cons, shownAll_len ds]
theorem rk_lst {ds : List D} {n k : Nat} (r : RkA ds n k) : Rk (.lst ds) (n + 3) (k + 1) := by
  refine ⟨by simp only [D.pl]; exact r.pl, by simp only [toPy, PyData.hasDict]; exact r.nd, by simp only [toPy, PyData.showable]; exact r.sh, ?_, ?_⟩
  · have a := listText_len_le (PyData.shownAll (toPyA ds))
    have b := r.ln
    rw [shownAll_len] at a
    simp only [toPy, PyData.shown]
    omega
  · have b := r.dp
    simp only [toPy, PyData.depth]
    omega
theorem rk_tup {ds : List D} {n k : Nat} (r : RkA ds n k) : Rk (.tup ds) (n + 3) (k + 1) := by
  refine ⟨by simp only [D.pl]; exact r.pl, by simp only [toPy, PyData.hasDict]; exact r.nd, by simp only [toPy, PyData.showable]; exact r.sh, ?_, ?_⟩
  · have a := tupleText_len_le (PyData.shownAll (toPyA ds))
    have b := r.ln
    rw [shownAll_len] at a
    simp only [toPy, PyData.shown]
    omega
  · have b := r.dp
    simp only [toPy, PyData.depth]
    omega
theorem rka_all {n k : Nat} : ∀ {ds : List D}, (∀ d ∈ ds, Rk d n k) → RkA ds ((n + 2) * ds.length) k
  | [], _ => by simpa using rka_nil
  | d :: ds, h => by
    have a := rka_cons (h d List.mem_cons_self) (rka_all fun x hx => h x (List.mem_cons_of_mem _ hx))
    have e : n + 2 + (n + 2) * ds.length = (n + 2) * (d :: ds).length := by rw [List.length_cons, Nat.mul_succ]; omega
    rw [← e]
    exact a
theorem rka_ints {n k : Nat} {ns : List Int} (h : ∀ i ∈ ns, i.natAbs < 2 ^ n) (h0 : 0 < n) (hn : n ≤ 1900) : RkA (ns.map D.int) ((n + 3) * ns.length) k := by
  have a := rka_all (ds := ns.map D.int) (n := n + 1) (k := k) fun d hd => by
    obtain ⟨i, hi, rfl⟩ := List.mem_map.mp hd
    exact rk_int (h i hi) h0 hn
  simpa using a
/-- repr(d) -/
def shw (d : D) : Str := (toPy d).shown
section
variable {c : Co} {k : Nat} {Γ : Ga} {P : D → Ga → Prop} {a b e : Expr} {es : List Expr} {pos p : Pos} {X : Cx}
theorem call_repr_data (gd : X.A.guards = some []) (hu : X.A.units + 64 < cLine) {M : Ex} {H : Hw} {v : V} {d : D} {n j : Nat} (r : Rq M H v d) (h : Rk d n j) (hn : n ≤ 16777216) (hj : j ≤ 60) {pins : List (Addr × Obj)} {s : Shared} {σ : Sw} {u : Value} {Q : VK} (I : Inv X pins σ H s) (ru : RelV v u) (q : Q (.str (shw d)) H) :
    wpAny (model X.prog X.w) X.A (call (.builtin "repr") [u]) (EP X pins σ Q) X.xe s := by
  have hz : (toPy d).shown.length ≤ sizeLine := Nat.le_trans h.ln (sz hn)
  obtain ⟨as, rd⟩ := Dp.reads I (toPy d) v u (r.dp (X := X) h.pl) ru
  have deep : ∀ (a : Addr), u = .ref a → wpAny (model X.prog X.w) X.A (call (.builtin "repr") [u]) (EP X pins σ Q) X.xe s := fun a e => by
    subst e
    have hd := h.dp
    exact repr_of_reads' rd h.sh (fun z => by rw [h.nd] at z; cases z) gd (by omega) (fun _ _ e => e) (fun h' u tk hk => ⟨.str (shw d), H, I.kept (t' := tk) hk, ⟨u, rfl⟩, q⟩) hz
  cases d with
  | non =>
    cases r.non_
    cases ru
    exact PySem.P.repr_of_none ⟨.str (shw .non), H, I.tok _, ⟨s.toks, by simp only [shw, toPy, PyData.shown]⟩, q⟩
  | bl b =>
    cases r.bl_
    cases ru
    refine PySem.P.repr_of_bool ⟨.str (shw (.bl b)), H, I.tok _, ⟨s.toks, ?_⟩, q⟩
    simp only [shw, toPy, PyData.shown]
  | int i =>
    cases r.int_
    obtain ⟨t, rfl⟩ := ru
    refine PySem.P.repr_of_int (by have := h.sh; simpa only [toPy, PyData.showable, decide_eq_true_eq] using this) ⟨.str (shw (.int i)), H, I.tok _, ⟨s.toks, by simp only [shw, toPy, PyData.shown]⟩, q⟩
  | str x =>
    cases r.str_
    obtain ⟨t, rfl⟩ := ru
    exact PySem.P.repr_of_str ⟨.str (shw (.str x)), H, I.tok _, ⟨s.toks, by simp only [shw, toPy, PyData.shown]⟩, q⟩ (by simpa only [toPy, PyData.shown] using hz)
  | lst ds =>
    obtain ⟨a, xs, rfl, _⟩ := r.lst_
    exact deep a ru
  | tup ds =>
    obtain ⟨a, xs, rfl, _⟩ := r.tup_
    exact deep a ru
  | dic _ => have z := h.pl; simp [D.pl] at z
  | ad _ => have z := h.pl; simp [D.pl] at z
theorem ev_repr (bd : Bd c k) (hm : c.X.mg "repr" = none) (h : EvQ c a Γ fun d Γ1 => (∃ n j, Rk d n j ∧ n ≤ 16777216 ∧ j ≤ 60) ∧ P (.str (shw d)) Γ1) (hg : Gl c.X "repr") (hs : starEach [a] c.X.env = (false, eval a c.X.env) :: starEach [] c.X.env := by rfl) (hpl : (backTo pos (starEach [] c.X.env)).any (·.1) = false := by rfl) : Ev c (.Call (.Name "repr" p) [a] [] pos) Γ P := fun σ H er Q W tk xw q => .mk fun pins s I => by
  have cr : CallR c.X (.builtin "repr") (fun vs H Q => ∃ (M' : Ex) (v : V) (d : D) (n j : Nat), vs = [v] ∧ Rq M' H v d ∧ Rk d n j ∧ n ≤ 16777216 ∧ j ≤ 60 ∧ Q (.str (shw d)) H) := by
    intro pins s σ' H xs us Q I r h
    obtain ⟨M', v, d, n, j, rfl, rq, rk, hn, hj, q⟩ := h
    obtain ⟨u, rfl, ru⟩ := vals1 r
    exact call_repr_data bd.gd bd.hr.units rq rk hn hj I ru q
  refine (pe_callB cr hg hm (by decide +kernel) (pa_cons selfE pa_nil hs) (by decide) (by decide) hs hpl).run pins s σ H Q I ?_
  exact h σ H er _ W tk xw fun v d Γ1 H1 g r ⟨⟨n, j, rk, hn, hj⟩, hp⟩ => ⟨_, v, d, n, j, rfl, r, rk, hn, hj, q _ _ Γ1 H1 g (.str _) hp⟩
/-! ### == and != at any depth -/
structure Eqk (d : D) : Prop where
  pl : d.pl = true
  sp : SeqAt.shaped (toPy d) = true
theorem vo_eqD {x y : D} (h1 : Eqk x) (h2 : Eqk y) : Vo2 (rEqD X.K) x y (.bl (PyData.eqv (toPy x) (toPy y))) := fun M H v w _ g1 g2 Q q =>
  ⟨_, _, g1.dp (X := X) h1.pl, g2.dp (X := X) h2.pl, h1.sp, h2.sp, q _ H (Grow.refl H) (.bl _)⟩
theorem vo_neD {x y : D} (h1 : Eqk x) (h2 : Eqk y) : Vo2 (rNeD X.K) x y (.bl (!PyData.eqv (toPy x) (toPy y))) := fun M H v w _ g1 g2 Q q =>
  ⟨_, _, g1.dp (X := X) h1.pl, g2.dp (X := X) h2.pl, h1.sp, h2.sp, q _ H (Grow.refl H) (.bl _)⟩
end
end U
/-! U11: operators by what their operands are; comparisons; keywords; several targets. -/
namespace U
open PySem PySem.Spec PyProof.Rows L2
/-! ### tuples and texts, many times over -/
def rRepT2 : R2 := fun x y H Q => ∃ l k xs, x = .ref l ∧ y = .int k ∧ H l = some (.tup xs) ∧ xs ≠ [] ∧ 2 ≤ k ∧ xs.length * k.toNat ≤ 1000000 ∧ ∀ p, H p = none → Q (.ref p) (upd H p (.tup (List.replicate k.toNat xs).flatten))
theorem op_repT2 {X : Cx} : OpR X (binaryOp .Mult) rRepT2 := by
  intro pins s σ H x y v u Q I rx ry h
  obtain ⟨l, k, xs, rfl, rfl, he, hne, hk2, hz, q⟩ := h
  cases rx
  obtain ⟨t, rfl⟩ := ry
  obtain ⟨hzx, its, r, o, ho, hc, n, hd⟩ := (show ObjOk X.prog X.w H s.heap l (.tup xs) from I.hok l _ he)
  obtain ⟨oc, dd, dt, sl⟩ := o
  simp only at hc hd
  subst hc hd
  have hle : xs.length = its.length := r.length
  have hpos : 0 < its.length := by rw [← hle]; exact List.length_pos_iff.mpr hne
  have hempty : its.toArray.isEmpty = false := by
    cases its with
    | nil => cases hpos
    | cons _ _ => rfl
  have kn : ((k.toNat : Nat) : Int) = k := by omega
  have hk1 : k.toNat ≤ 1000000 := by
    have : 1 * k.toNat ≤ xs.length * k.toNat := Nat.mul_le_mul_right _ (by omega)
    omega
  have hm : ((its.toArray.size : Nat) : Int) * k ≤ 1000000 := by
    rw [List.size_toArray, ← hle, ← kn]
    have z := Int.ofNat_le.mpr hz
    rw [Int.natCast_mul] at z
    exact z
  have flen : (List.replicate k.toNat its).flatten.length ≤ sizeLine := by
    rw [PyProof.Rows.lm_len_rep_flat, ← hle, sizeLine_eq, Nat.mul_comm]
    omega
  have b0 : (decide (k < -(2 ^ 63)) || decide (k ≥ 2 ^ 63)) = false := by rw [decide_eq_false (by omega), decide_eq_false (by omega)] <;> rfl
  have b1 : (its.toArray.isEmpty || k == 1) = false := by rw [hempty, Bool.false_or]; exact beq_eq_false_iff_ne.mpr (by omega)
  have b2 : (decide (k ≤ 0) || its.toArray.isEmpty) = false := by rw [hempty, Bool.or_false]; exact decide_eq_false (by omega)
  have b4 : Builtin.Tuple.tupleTooMany (((its.toArray.size : Nat) : Int) * k) = false := by
    unfold Builtin.Tuple.tupleTooMany
    rw [sizeLine_eq]
    exact decide_eq_false (by omega)
  have go := tuple_mulW l its.toArray n dd sl k t b0 b1 b2 (by omega) b4 (by rw [size_rep, List.size_toArray]; exact flen)
  refine wpAny_binaryOp_repeat_ref (T := "tuple") (U := "int") (by decide) ⟨_, ho, rfl⟩ (fun s' => typeIs_int s' k t) noFill_tuple_mul F.fills_int_mul F.slot_int_rmul repeat_tuple F.slot_int_index.lookup ?_
  refine call_meets F.slot_int_rmul (typeIs_int s k t) F.entry_int_rmul (F.args_int_rmul_2 _ _) (int_rmul_tuple k t l its.toArray n dd sl) ⟨ho, rfl, ⟨_, ho, rfl⟩, ?_⟩
  refine call_meets F.slot_tuple_mul ⟨_, ho, rfl⟩ F.entry_tuple_mul (F.args_tuple_mul_2 _ _) go ⟨ho, ?_⟩
  rw [size_rep]
  refine ⟨.ref s.heap.objs.size, _, I.laid (t' := s.toks) (o := .tup (List.replicate k.toNat xs).flatten) (fun b ob q => Heap.get?_push_of_some _ q) (Nat.le_refl _) ⟨?_, _, r.rep k.toNat, IsTup.new _ _⟩, rfl, q _ (I.hok.fresh (Nat.le_refl _))⟩
  rw [PyProof.Rows.lm_len_rep_flat, sizeLine_eq, Nat.mul_comm]
  omega
/-! ### + - * by what the operands are -/
inductive AddD : D → D → D → Prop
  | int {i j : Int} : AddD (.int i) (.int j) (.int (i + j))
  | lst {xs ys : List D} (h : xs.length + ys.length ≤ 16777216) : AddD (.lst xs) (.lst ys) (.lst (xs ++ ys))
  | tup {xs ys : List D} (h : xs.length + ys.length ≤ 16777216) : AddD (.tup xs) (.tup ys) (.tup (xs ++ ys))
  | str {x y : Str} (h : x.length + y.length ≤ 16777216) : AddD (.str x) (.str y) (.str (x ++ y))
theorem vo_add {X : Cx} {x y z : D} (h : AddD x y z) : Vo2 (fun x y H Q => rI0 (fun i j => .int (i + j)) x y H Q ∨ rCat x y H Q ∨ rCatA X.K x y H Q ∨ ∃ i j, x = .str i ∧ y = .str j ∧ i.length + j.length ≤ sizeLine ∧ Q (.str (i ++ j)) H) x y z := fun M H v w hk h1 h2 Q q => by
  cases h with
  | int => exact .inl (vo_I0 (g := fun i j => i + j) M H v w hk h1 h2 Q q)
  | lst h => exact .inr (.inl (vo_cat h M H v w hk h1 h2 Q q))
  | tup h => exact .inr (.inr (.inl (vo_catT (X := X) h M H v w hk h1 h2 Q q)))
  | str h =>
    cases h1.str_; cases h2.str_
    exact .inr (.inr (.inr ⟨_, _, rfl, rfl, sz h, q _ H (Grow.refl H) (.str _)⟩))
inductive MulD : D → D → D → Prop
  | int {i j : Int} (h : CMul i j) : MulD (.int i) (.int j) (.int (i * j))
  | lst {xs : List D} {i : Int} (h1 : -(2 ^ 60) ≤ i) (h2 : i < 2 ^ 60) (h : xs.length * i.toNat ≤ 16777216) : MulD (.lst xs) (.int i) (.lst (List.replicate i.toNat xs).flatten)
  | tup {xs : List D} {i : Int} (h0 : xs ≠ []) (h1 : 2 ≤ i) (h : xs.length * i.toNat ≤ 1000000) : MulD (.tup xs) (.int i) (.tup (List.replicate i.toNat xs).flatten)
theorem vo_mul {X : Cx} {x y z : D} (h : MulD x y z) : Vo2 (fun x y H Q => rI CMul (fun i j => .int (i * j)) x y H Q ∨ rRep x y H Q ∨ rRepT2 x y H Q) x y z := fun M H v w hk h1 h2 Q q => by
  cases h with
  | int h => exact .inl (vo_I (g := fun i j => i * j) h M H v w hk h1 h2 Q q)
  | lst a b h => exact .inr (.inl (vo_rep a b h M H v w hk h1 h2 Q q))
  | tup a b h =>
    cases h2.int_
    obtain ⟨p, xs, rfl, e, m, r⟩ := h1.tup_
    refine .inr (.inr ⟨p, _, xs, rfl, rfl, e, fun z => a ?_, b, by rw [r.length]; exact h, fun t ht => q _ _ (Grow.new ht) (.tup upd_same (fun z => hk t z ht) (RpA.to (Grow.new ht).goes _ _ (r.rep _)))⟩)
    subst z
    cases r
    rfl
section
variable {c : Co} {k : Nat} {Γ : Ga} {P : D → Ga → Prop} {T : Bool → Ga → Prop} {R : Oc} {a b e : Expr} {es : List Expr} {pos p : Pos}
theorem ev_add (h : Ev c a Γ fun x Γ1 => EvQ c b Γ1 fun y Γ2 => ∃ z, AddD x y z ∧ P z Γ2) : Ev c (.BinOp a .Add b pos) Γ P :=
  ev_op (op_add.or (op_cat.or (op_catA.or op_add_str))) (ev_mono h fun x _ h => eq_mono h fun y _ ⟨z, h, hp⟩ => ⟨z, vo_add h, hp⟩)
theorem ev_sub (h : Ev c a Γ fun x Γ1 => EvQ c b Γ1 fun y Γ2 => ∃ i j, x = .int i ∧ y = .int j ∧ P (.int (i - j)) Γ2) : Ev c (.BinOp a .Sub b pos) Γ P :=
  ev_op op_sub (ev_mono h fun x _ h => eq_mono h fun y _ ⟨i, j, e1, e2, hp⟩ => ⟨_, by rw [e1, e2]; exact vo_I0 (g := fun i j => i - j), hp⟩)
theorem ev_mul (h : Ev c a Γ fun x Γ1 => EvQ c b Γ1 fun y Γ2 => ∃ z, MulD x y z ∧ P z Γ2) : Ev c (.BinOp a .Mult b pos) Γ P :=
  ev_op (op_mul.or (op_rep.or op_repT2)) (ev_mono h fun x _ h => eq_mono h fun y _ ⟨z, h, hp⟩ => ⟨z, vo_mul (X := c.X) h, hp⟩)
theorem ev_mod (h : Ev c a Γ fun x Γ1 => EvQ c b Γ1 fun y Γ2 => ∃ i j, x = .int i ∧ y = .int j ∧ 0 < j ∧ P (.int (i % j)) Γ2) : Ev c (.BinOp a .Mod b pos) Γ P :=
  ev_op op_mod (ev_mono h fun x _ h => eq_mono h fun y _ ⟨i, j, e1, e2, h0, hp⟩ => ⟨_, by rw [e1, e2]; exact vo_I (g := fun i j => i % j) (C := fun _ j => 0 < j) h0, hp⟩)
theorem ev_fdiv (h : Ev c a Γ fun x Γ1 => EvQ c b Γ1 fun y Γ2 => ∃ i j, x = .int i ∧ y = .int j ∧ (0 < j ∧ j < 1073741824) ∧ P (.int (i / j)) Γ2) : Ev c (.BinOp a .FloorDiv b pos) Γ P :=
  ev_op op_fdiv (ev_mono h fun x _ h => eq_mono h fun y _ ⟨i, j, e1, e2, h0, hp⟩ => ⟨_, by rw [e1, e2]; exact vo_I (g := fun i j => i / j) (C := CDiv) h0, hp⟩)
theorem ev_pow (h : Ev c a Γ fun x Γ1 => EvQ c b Γ1 fun y Γ2 => ∃ i j, x = .int i ∧ y = .int j ∧ (0 ≤ j ∧ j ≤ 1000000 ∧ i.natAbs < 2 ^ 64) ∧ P (.int (i ^ j.toNat)) Γ2) : Ev c (.BinOp a .Pow b pos) Γ P :=
  ev_op op_pow (ev_mono h fun x _ h => eq_mono h fun y _ ⟨i, j, e1, e2, h0, hp⟩ => ⟨_, by rw [e1, e2]; exact vo_I (g := fun i j => i ^ j.toNat) (C := CPow) h0, hp⟩)
theorem ev_neg (h : EvQ c a Γ fun x Γ1 => ∃ i, x = .int i ∧ P (.int (-i)) Γ1) : Ev c (.UnaryOp .USub a pos) Γ P :=
  ev_un un_neg (eq_mono h fun x _ ⟨i, e, hp⟩ => ⟨_, by rw [e]; exact vo_neg, hp⟩)
/-! ### comparisons -/
/-- what op makes of x and y -/
inductive CmpD (X : Cx) : CmpOp → D → D → Bool → Prop
  | lt {i j : Int} : CmpD X .Lt (.int i) (.int j) (decide (i < j))
  | le {i j : Int} : CmpD X .LtE (.int i) (.int j) (decide (i ≤ j))
  | gt {i j : Int} : CmpD X .Gt (.int i) (.int j) (decide (j < i))
  | ge {i j : Int} : CmpD X .GtE (.int i) (.int j) (decide (j ≤ i))
  | eqI {i j : Int} : CmpD X .Eq (.int i) (.int j) (decide (i = j))
  | neI {i j : Int} : CmpD X .NotEq (.int i) (.int j) (!decide (i = j))
  | eqS {x y : Str} : CmpD X .Eq (.str x) (.str y) (decide (x = y))
  | neS {x y : Str} : CmpD X .NotEq (.str x) (.str y) (!decide (x = y))
  | eqV {x y : D} {v w : V} (hx : x.sc = some v) (hy : y.sc = some w) (h : scal v w = true) : CmpD X .Eq x y (decide (v = w))
  | neV {x y : D} {v w : V} (hx : x.sc = some v) (hy : y.sc = some w) (h : scal v w = true) : CmpD X .NotEq x y (!decide (v = w))
  | eqD {x y : D} (hx : Eqk x) (hy : Eqk y) : CmpD X .Eq x y (PyData.eqv (toPy x) (toPy y))
  | neD {x y : D} (hx : Eqk x) (hy : Eqk y) : CmpD X .NotEq x y (!PyData.eqv (toPy x) (toPy y))
  | isN {x : D} : CmpD X .Is x .non x.isNon
  | notN {x : D} : CmpD X .IsNot x .non (!x.isNon)
  | isIn {i : Int} {y : D} {ns : List Int} (h : y.seqI ns) : CmpD X .In (.int i) y (decide (i ∈ ns))
  | notIn {i : Int} {y : D} {ns : List Int} (h : y.seqI ns) : CmpD X .NotIn (.int i) y (!decide (i ∈ ns))
theorem cmp_rule (bd : Bd c k) {op : CmpOp} : ∃ r : R2, OpR c.X (compareOp op) r ∧ ∀ x y q, CmpD c.X op x y q → Vo2 r x y (.bl q) := by
  have hu := bd.hr.units
  cases op with
  | Lt => exact ⟨_, op_lt, fun x y q h => by cases h; exact vo_B0 (g := fun i j => decide (i < j))⟩
  | LtE => exact ⟨_, op_le, fun x y q h => by cases h; exact vo_B0 (g := fun i j => decide (i ≤ j))⟩
  | Gt => exact ⟨_, op_gt, fun x y q h => by cases h; exact vo_B0 (g := fun i j => decide (j < i))⟩
  | GtE => exact ⟨_, op_ge, fun x y q h => by cases h; exact vo_B0 (g := fun i j => decide (j ≤ i))⟩
  | Eq =>
    refine ⟨_, op_eq.or (op_eqD hu), fun x y q h M H v w hk g1 g2 Q qq => ?_⟩
    cases h with
    | eqI => exact .inl (vo_eqI M H v w hk g1 g2 Q qq)
    | eqS => exact .inl (vo_eqS M H v w hk g1 g2 Q qq)
    | eqV a b h => exact .inl (vo_eq a b h M H v w hk g1 g2 Q qq)
    | eqD a b => exact .inr (vo_eqD a b M H v w hk g1 g2 Q qq)
  | NotEq =>
    refine ⟨_, op_ne.or (op_neD hu), fun x y q h M H v w hk g1 g2 Q qq => ?_⟩
    cases h with
    | neI => exact .inl (vo_neI M H v w hk g1 g2 Q qq)
    | neS => exact .inl (vo_neS M H v w hk g1 g2 Q qq)
    | neV a b h => exact .inl (vo_ne a b h M H v w hk g1 g2 Q qq)
    | neD a b => exact .inr (vo_neD a b M H v w hk g1 g2 Q qq)
  | Is => exact ⟨_, op_isN, fun x y q h => by cases h; exact vo_isN⟩
  | IsNot => exact ⟨_, op_notN, fun x y q h => by cases h; exact vo_notN⟩
  | In => exact ⟨_, op_in_seq, fun x y q h => by cases h; exact vo_in (by assumption)⟩
  | NotIn => exact ⟨_, op_notIn_seq, fun x y q h => by cases h; exact vo_notIn (by assumption)⟩
theorem ev_cmpD {op : CmpOp} (bd : Bd c k) (h : Ev c a Γ fun x Γ1 => EvQ c b Γ1 fun y Γ2 => ∃ q, CmpD c.X op x y q ∧ P (.bl q) Γ2) (hm : behindInMarks op b = false := by first | exact nomark _ | rfl) : Ev c (.Compare a [op] [b] pos) Γ P := by
  obtain ⟨r, ho, hr⟩ := cmp_rule bd (op := op)
  exact ev_cmp ho (ev_mono h fun x _ h => eq_mono h fun y _ ⟨q, h, hp⟩ => ⟨_, hr x y q h, hp⟩) hm
theorem tv_cmpD {op : CmpOp} (bd : Bd c k) (h : Ev c a Γ fun x Γ1 => EvQ c b Γ1 fun y Γ2 => ∃ q, CmpD c.X op x y q ∧ T q Γ2) (hm : behindInMarks op b = false := by first | exact nomark _ | rfl) : Tv c (.Compare a [op] [b] pos) Γ T := by
  obtain ⟨r, ho, hr⟩ := cmp_rule bd (op := op)
  exact tv_cmp ho (ev_mono h fun x _ h => eq_mono h fun y _ ⟨q, h, hp⟩ => ⟨_, hr x y q h, hp⟩) hm
/-- one's own list on the left -/
theorem tv_cmpo {op : CmpOp} {x : Str} {ds : List D} {npos : Pos} (bd : Bd c k) (i : Nat) (hN : c.X.N[i]? = some x) (hv : Vis c.X.env.scope x) (hd : Γ[i]? = some (.own ds)) (h : EvQ c b Γ fun y Γ2 => Γ2[i]? = some (.own ds) ∧ ∃ q, CmpD c.X op (.lst ds) y q ∧ T q Γ2) (hm : behindInMarks op b = false := by first | exact nomark _ | rfl)
    (hdb : (x == ("__debug__" : Str)) = false := by decide) (hcd : (x == ("__classdict__" : Str)) = false := by decide) : Tv c (.Compare (.Name x npos) [op] [b] pos) Γ T := fun σ H er Q W tk xw q => by
  obtain ⟨r, ho, hr⟩ := cmp_rule bd (op := op)
  obtain ⟨a, xs, e, h1, _, p⟩ := er.own i ds hd
  refine outT (pt_cmpR ho (pe_var hN hv hdb hcd) selfE hm) ⟨_, e, h σ H er _ W tk xw fun w y Γ2 H2 g2 p2 ⟨hk, z, hc, hz⟩ => ?_⟩
  obtain ⟨a', xs', e', h1', _, p'⟩ := g2.er.own i ds hk
  rw [e] at e'
  cases e'
  refine hr _ _ _ hc (Mx c.M σ Γ2) H2 _ w g2.er.mx (.lst h1' p') p2 _ fun u H3 g3 p3 => ?_
  cases p3
  exact ⟨z, rfl, q z Γ2 H3 (g2.grow g3) hz⟩
theorem ev_chainD {op op' : CmpOp} {e3 : Expr} (bd : Bd c k)
    (h : Ev c a Γ fun x Γ1 => Ev c b Γ1 fun y Γ2 => ∃ q, CmpD c.X op x y q ∧ (q = false → P (.bl false) Γ2) ∧ (q = true → Ev c e3 Γ2 fun z Γ3 => ∃ w, CmpD c.X op' y z w ∧ P (.bl w) Γ3))
    (hm : lastMarks [op, op'] [b, e3] = false := by with_unfolding_all rfl) : Ev c (.Compare a [op, op'] [b, e3] pos) Γ P := by
  obtain ⟨r, ho, hr⟩ := cmp_rule bd (op := op)
  obtain ⟨r', ho', hr'⟩ := cmp_rule bd (op := op')
  exact ev_chain ho ho' (ev_mono h fun x _ h => ev_mono h fun y _ ⟨q, h, h1, h2⟩ => ⟨q, hr x y q h, h1, fun e => ev_mono (h2 e) fun z _ ⟨w, h, hp⟩ => ⟨_, hr' y z w h, hp⟩⟩) hm
theorem tv_chainD {op op' : CmpOp} {e3 : Expr} (bd : Bd c k)
    (h : Ev c a Γ fun x Γ1 => Ev c b Γ1 fun y Γ2 => ∃ q, CmpD c.X op x y q ∧ (q = false → T false Γ2) ∧ (q = true → Ev c e3 Γ2 fun z Γ3 => ∃ w, CmpD c.X op' y z w ∧ T w Γ3))
    (hm : lastMarks [op, op'] [b, e3] = false := by with_unfolding_all rfl) : Tv c (.Compare a [op, op'] [b, e3] pos) Γ T := by
  obtain ⟨r, ho, hr⟩ := cmp_rule bd (op := op)
  obtain ⟨r', ho', hr'⟩ := cmp_rule bd (op := op')
  exact tv_chain ho ho' (ev_mono h fun x _ h => ev_mono h fun y _ ⟨q, h, h1, h2⟩ => ⟨q, hr x y q h, h1, fun e => ev_mono (h2 e) fun z _ ⟨w, h, hp⟩ => ⟨w, hr' y z w h, hp⟩⟩) hm
/-! ### a, b = e1, e2, data both -/
theorem s1_par {x y : Str} {px py pt : Pos} {kt k2 : Nat} {pt2 : Pos} (bd : Bd c k) (i j : Nat) (hi : c.X.N[i]? = some x) (hj : c.X.N[j]? = some y) (hij : i ≠ j) (hx : c.X.env.scope.names.lookup x = some .local) (hy : c.X.env.scope.names.lookup y = some .local) (hl : i < Γ.length) (hl2 : j < Γ.length)
    (h : Av c [a, b] Γ fun ds Γ1 => ∃ d1 d2, ds = [d1, d2] ∧ R.nx ((Γ1.set i (.dat d1)).set j (.dat d2)))
    (hw : swappedStores [.Tuple [.Name x px, .Name y py] kt pt] (.Tuple [a, b] k2 pt2) c.X.env = pure (some [x, y]))
    (hs : swapsWithSole [.Tuple [.Name x px, .Name y py] kt pt] (.Tuple [a, b] k2 pt2) pos.line c.X.env = pure false := by rfl) :
    S1 c (.Assign [.Tuple [.Name x px, .Name y py] kt pt] (.Tuple [a, b] k2 pt2) pos) Γ R := fun σ H er W Dd tk k =>
  outS (ps_par bd.calm bd.nd hi hj hij hx hy selfA hw hs) (h σ H er _ W tk k.xw fun vs ds Γ1 H1 g r ⟨d1, d2, e, hp⟩ => by
    subst e
    cases r with
    | @cons v1 _ _ _ r1 r =>
      cases r with
      | @cons v2 _ _ _ r2 r =>
        cases r
        have e1 := g.er.set i r1 (by rw [g.length]; exact hl)
        have s1 : Step c.U σ Γ1 H1 (σ.set i (some v1)) (Γ1.set i (.dat d1)) H1 := step_set i
        have e2 := e1.set j (Rp.to (s1.goes g.er) _ _ r2) (by rw [List.length_set, g.length]; exact hl2)
        exact ⟨_, _, rfl, k.nx _ _ _ ((g.st.trans g.er s1).trans e1 (step_set j)) e2 hp⟩)
/-! ### keywords -/
/-- f(k = e, ..), every argument by its name: ks the names as written, g the parameters' order -/
theorem ev_callK0 {x : Str} {f : Addr} {fd : FuncData} {ps ks : List Str} {n j : Nat} {S : Fs} {kws : List Keyword} (F : FnG c.X.prog c.X.w c.X.K c.X.mg c.X.base j f fd ps (lift c.U n S)) (bd : Bd c k) (hj : j ≤ k) (hm : c.X.mg x = some (.ref f)) (hk : PySem.W.keepIn c.X.K (.ref f) = true)
    (πv : List Value → List Value) (πV : List V → List V) (πd : List D → List D) (hb : ∀ (s : Shared) (ws : List Value), c.X.K.In s.heap → ws.length = n → BindsTo s fd ⟨[], ks.zip ws⟩ (ps.zip (πv ws))) (hV : ∀ vs us, vs.length = n → Vals vs us → Vals (πV vs) (πv us)) (hd : ∀ M H vs ds, ds.length = n → RpA M H vs ds → RpA M H (πV vs) (πd ds)) (hln : ∀ ds : List D, ds.length = n → (πd ds).length = n)
    (hg : Gl c.X x) (h : Kv c kws Γ fun ds Γ1 => ds.length = n ∧ S (πd ds) (fun d => P d Γ1) fun C fo => c.E C fo Γ1) (hall : (backToKw pos (keywordEach kws c.X.env)).all (·.1.isSome) = true := by rfl) (hks : (backToKw pos (keywordEach kws c.X.env)).filterMap (·.1) = ks := by rfl)
    (hdb : (x == ("__debug__" : Str)) = false := by decide) (hpl : ((backTo pos (starEach [] c.X.env)).any (·.1) || (backToKw pos (keywordEach kws c.X.env)).any (·.1.isNone)) = false := by rfl) :
    Ev c (.Call (.Name x p) [] kws pos) Γ P := fun σ H er Q W tk xw q => .mk fun pins s I => by
  refine wpAny_Call_Name_kw (ld_glob I hg hm ?_ hdb)
  refine PySem.W.callWith_KW0 (h₀ := c.X.base) I.ok.mod.kin hk hall (thn ((h σ H er (fun vs H1 => ∃ ds Γ1, Go c σ Γ H Γ1 H1 ∧ RpA (Mx c.M σ Γ1) H1 vs ds ∧ ds.length = n ∧ S (πd ds) (fun d => P d Γ1) fun C fo => c.E C fo Γ1) W tk xw (fun vs ds Γ1 H1 g r hp => ⟨ds, Γ1, g, r, hp⟩)).run pos pins s I) fun us s1 ⟨vs, H1, I1, rv, ds, Γ1, g, r, hn, hS⟩ => ⟨I1.kIn, ?_⟩) hpl
  rw [hks]
  have hlv : vs.length = n := by rw [r.length, hn]
  exact run_data (args := ⟨[], ks.zip us⟩) F bd hj (hb s1 us I1.kIn (by rw [← rv.length]; exact hlv)) g.er tk (xw.on g.er g.st) I1 (hV vs us hlv rv) (hd _ _ vs ds hn r) (hln ds hn) (fun v d Γ' H' g' p hp => q v d Γ' H' (g.trans g') p hp) hS
end
end U
/-! U12: defs by name. -/
namespace U
open PySem PySem.Spec PyProof.Rows L2
/-- a def of the text that keeps a promise over data -/
structure Df (P : Program) (w : World) (K : PySem.W.Frag) (mg : Str → Option Value) (base : Heap) (x : Str) (st : Stmt) (j n : Nat) (ps : List Str) (U : Vol) (S : Fs) : Prop where
  ex : ∃ f fd, Fun K x x st f fd ∧ mg x = some (.ref f) ∧ FnG P w K mg base j f fd ps (lift U n S)
  bi : ∀ f fd, Fun K x x st f fd → Binds K fd ps []
section
variable {P : Program} {w : World} {K : PySem.W.Frag} {mg : Str → Option Value} {base : Heap} {U : Vol}
/-- where a def stands -/
def At (K : PySem.W.Frag) (mg : Str → Option Value) (x : Str) (st : Stmt) : Prop := ∃ f fd, Fun K x x st f fd ∧ mg x = some (.ref f)
theorem df_mk {x : Str} {st : Stmt} {N ps : List Str} {k n : Nat} {S : Fs} (F : At K mg x st) (sc : FnScope N ps (defScope st)) (hn : n = ps.length) (hN : ps.length ≤ N.length)
    (hbi : ∀ f fd, Fun K x x st f fd → Binds K fd ps [])
    (hbody : ∀ (f : Addr) (cdv : Value) (A : Around) (outer : List Env) (s : Shared) (H : Hw) (E : XK) (M : Ex) (ds : List D) (Pd : D → Prop) (X : Addr → Option (Str × D) → Prop),
      Bd (coOf P w K mg base N x (defScope st) f cdv A outer s H E U M X) k → ds.length = n → S ds Pd X →
      Sv (coOf P w K mg base N x (defScope st) f cdv A outer s H E U M X) (defBody st) (Ga.start N.length ds) { nx := fun _ => Pd .non, rt := Pd }) :
    Df P w K mg base x st (k + 1) n ps U S := by
  obtain ⟨f, fd, F, hm⟩ := F
  exact ⟨⟨f, fd, F, hm, fn_data F sc hn hN (hbody f)⟩, hbi⟩
theorem Df.weak {x : Str} {st : Stmt} {j n : Nat} {ps : List Str} {S S' : Fs} (F : Df P w K mg base x st j n ps U S) (h : ∀ ds P X, S' ds P X → S ds P X) : Df P w K mg base x st j n ps U S' := by
  obtain ⟨⟨f, fd, F1, hm, G⟩, hb⟩ := F
  refine ⟨⟨f, fd, F1, hm, ⟨fun vs H Q E ⟨M, ds, Pd, X, a, b, c, r, e, hS, q⟩ => G.len vs H Q E ⟨M, ds, Pd, X, a, b, c, r, e, h _ _ _ hS, q⟩, fun A outer s H args us vs Q E hr hg he hb hv ⟨M, ds, Pd, X, a, b, c, r, e, hS, q⟩ => G.run A outer s H args us vs Q E hr hg he hb hv ⟨M, ds, Pd, X, a, b, c, r, e, h _ _ _ hS, q⟩⟩⟩, hb⟩
end
section
variable {c : Co} {k : Nat} {Γ : Ga} {P : D → Ga → Prop} {e : Expr} {es : List Expr} {pos p : Pos}
theorem ev_def {x : Str} {st : Stmt} {j n : Nat} {ps : List Str} {S : Fs} (F : Df c.X.prog c.X.w c.X.K c.X.mg c.X.base x st j n ps c.U S) (bd : Bd c k) (hj : j ≤ k) (hg : Gl c.X x)
    (h : Av c (e :: es) Γ fun ds Γ1 => ds.length = n ∧ S ds (fun d => P d Γ1) fun C fo => c.E C fo Γ1)
    (hdb : (x == ("__debug__" : Str)) = false := by decide) (he : starEach (e :: es) c.X.env = (false, eval e c.X.env) :: starEach es c.X.env := by rfl) (hpl : (backTo pos (starEach es c.X.env)).any (·.1) = false := by rfl) :
    Ev c (.Call (.Name x p) (e :: es) [] pos) Γ P := by
  obtain ⟨f, fd, F1, hm, G⟩ := F.ex
  exact ev_call G bd hj hm F1.kp (F.bi f fd F1) hg h hdb he hpl
/-- one keyword -/
theorem ev_defK1 {x y : Str} {st : Stmt} {j : Nat} {S : Fs} {kp : Pos} (F : Df c.X.prog c.X.w c.X.K c.X.mg c.X.base x st j 1 [y] c.U S) (bd : Bd c k) (hj : j ≤ k) (hg : Gl c.X x)
    (hb : ∀ (kV doc pm : Value) (an : Option Addr) (cdv ct u : Value), bindArgs (PySem.W.fnOf x x (defArgs st) (defBody st) (defScope st) .none kV doc pm an cdv ct) ⟨[], [(y, u)]⟩ = pure [(y, u)])
    (h : Ev c e Γ fun d Γ1 => S [d] (fun d => P d Γ1) fun C fo => c.E C fo Γ1) (hall : (backToKw pos (keywordEach [⟨some y, e, kp⟩] c.X.env)).all (·.1.isSome) = true := by rfl) (hks : (backToKw pos (keywordEach [⟨some y, e, kp⟩] c.X.env)).filterMap (·.1) = [y] := by rfl)
    (hdb : (x == ("__debug__" : Str)) = false := by decide) (hpl : ((backTo pos (starEach [] c.X.env)).any (·.1) || (backToKw pos (keywordEach [⟨some y, e, kp⟩] c.X.env)).any (·.1.isNone)) = false := by rfl) :
    Ev c (.Call (.Name x p) [] [⟨some y, e, kp⟩] pos) Γ P := by
  obtain ⟨f, fd, F1, hm, G⟩ := F.ex
  refine ev_callK0 G bd hj hm F1.kp (fun ws => ws) (fun vs => vs) (fun ds => ds) (fun s ws hK hl => ?_) (fun _ _ _ r => r) (fun _ _ _ _ _ r => r) (fun _ h => h) hg (kv_cons (ev_mono h fun d Γ1 h => kv_nil ⟨rfl, h⟩)) hall hks hdb hpl
  match ws, hl with
  | [u], _ =>
    obtain ⟨oc, od, kV, doc, pm, an, cdv, ct, osl, rfl, lk, hcd⟩ := F1.ex
    exact BindsTo.of_eq (hb kV doc pm an cdv ct u)
/-- two keywords, the other way about -/
theorem ev_defK2 {x y z : Str} {st : Stmt} {j : Nat} {S : Fs} {kp kp2 : Pos} {e2 : Expr} (F : Df c.X.prog c.X.w c.X.K c.X.mg c.X.base x st j 2 [y, z] c.U S) (bd : Bd c k) (hj : j ≤ k) (hg : Gl c.X x)
    (hb : ∀ (kV doc pm : Value) (an : Option Addr) (cdv ct u w : Value), bindArgs (PySem.W.fnOf x x (defArgs st) (defBody st) (defScope st) .none kV doc pm an cdv ct) ⟨[], [(z, w), (y, u)]⟩ = pure [(y, u), (z, w)])
    (h : Ev c e Γ fun d Γ1 => Ev c e2 Γ1 fun d2 Γ2 => S [d2, d] (fun d => P d Γ2) fun C fo => c.E C fo Γ2) (hall : (backToKw pos (keywordEach [⟨some z, e, kp⟩, ⟨some y, e2, kp2⟩] c.X.env)).all (·.1.isSome) = true := by rfl) (hks : (backToKw pos (keywordEach [⟨some z, e, kp⟩, ⟨some y, e2, kp2⟩] c.X.env)).filterMap (·.1) = [z, y] := by rfl)
    (hdb : (x == ("__debug__" : Str)) = false := by decide) (hpl : ((backTo pos (starEach [] c.X.env)).any (·.1) || (backToKw pos (keywordEach [⟨some z, e, kp⟩, ⟨some y, e2, kp2⟩] c.X.env)).any (·.1.isNone)) = false := by rfl) :
    Ev c (.Call (.Name x p) [] [⟨some z, e, kp⟩, ⟨some y, e2, kp2⟩] pos) Γ P := by
  obtain ⟨f, fd, F1, hm, G⟩ := F.ex
  refine ev_callK0 G bd hj hm F1.kp (fun ws => ws.reverse) (fun vs => vs.reverse) (fun ds => ds.reverse) (fun s ws hK hl => ?_) (fun vs us hl r => ?_) (fun _ _ _ _ _ r => r.rev) (fun _ h => by rw [List.length_reverse]; exact h) hg (kv_cons (ev_mono h fun d Γ1 h => kv_cons (ev_mono h fun d2 Γ2 h => kv_nil ⟨rfl, h⟩))) hall hks hdb hpl
  · match ws, hl with
    | [u, w], _ =>
      obtain ⟨oc, od, kV, doc, pm, an, cdv, ct, osl, rfl, lk, hcd⟩ := F1.ex
      exact BindsTo.of_eq (hb kV doc pm an cdv ct w u)
  · match vs, us, hl, r with
    | [_, _], [_, _], _, .cons a (.cons b .nil) => exact .cons b (.cons a .nil)
end
end U
/-! U13: more expressions over data: reversed tuples, sorted, lists of ranges, divmod, str, {}. -/
namespace HT
open PySem PyProof.Rows
open PySem.SeqAt
section
variable {prog : Program} {w : World} {A : Around} {E : Value → Shared → Prop} {s : Shared}
theorem u_rev_pick (xs : Array Value) : ((List.range xs.size).filterMap fun (m : Nat) => xs[(((xs.size : Int) - 1) + (m : Int) * (-1)).toNat]?).toArray = xs.toList.reverse.toArray := by
  congr 1
  obtain ⟨l⟩ := xs
  show (List.range l.length).filterMap (fun (m : Nat) => (l.toArray)[(((l.length : Int) - 1) + (m : Int) * (-1)).toNat]?) = l.reverse
  have e : ∀ n, n ≤ l.length → (List.range n).filterMap (fun (m : Nat) => (l.toArray)[(((l.length : Int) - 1) + (m : Int) * (-1)).toNat]?) = l.reverse.take n := by
    intro n
    induction n with
    | zero => intro _; simp
    | succ n ih =>
      intro hn
      have a : (((l.length : Int) - 1) + (n : Int) * (-1)).toNat = l.length - 1 - n := by omega
      have b : l.length - 1 - n < l.length := by omega
      rw [List.range_succ, List.filterMap_append, ih (by omega), List.take_succ]
      congr 1
      simp only [List.filterMap_cons, List.filterMap_nil, a]
      rw [List.getElem?_reverse (by omega)]
      simp [List.getElem?_eq_getElem b]
  rw [e l.length (Nat.le_refl _), List.take_of_length_le (by simp)]
theorem u_sliceRev {sl : Addr} {vl vu vs : Value} {n : Nat} {Q : Int × Int × Nat → Shared → Prop} (hs : s.heap.IsSliceOf sl vl vu vs) (pl : IsPart vl none) (pu : IsPart vu none) (ps : IsPart vs (some (-1)))
    (h : Q ((n : Int) - 1, -1, n) s) : wpAny (model prog w) A (Builtin.Slice.sliceApplied (.ref sl) (pure (n : Int))) Q E s := by
  obtain ⟨os, hos, hcs, hds⟩ := id hs
  unfold Builtin.Slice.sliceApplied Builtin.Slice.sliceFields
  refine wpAny_bind (wpAny_bind (wpAny_field hos hds (x := vl) rfl (wpAny_bind (wpAny_field hos hds (x := vu) rfl (wpAny_bind (wpAny_field hos hds (x := vs) rfl (wpAny_pure ?_)))))))
  refine wpAny_bind (slicePart_ ps ?_)
  show wpAny _ _ (if ((-1 : Int) == 0) = true then _ else _) _ _ s
  rw [if_neg (show ¬ ((-1 : Int) == 0) = true by decide)]
  refine wpAny_bind (slicePart_ pl (wpAny_bind (slicePart_ pu (wpAny_bind (wpAny_pure ?_)))))
  have e : Builtin.Slice.slicePlaces (Builtin.Slice.sliceAdjust none none (-1) (n : Int)).1 (Builtin.Slice.sliceAdjust none none (-1) (n : Int)).2 (-1) = n ∧ (Builtin.Slice.sliceAdjust none none (-1) (n : Int)).1 = (n : Int) - 1 := by
    unfold Builtin.Slice.sliceAdjust Builtin.Slice.slicePlaces
    simp
    first
      | omega
      | (constructor <;> (try split) <;> omega)
      | ((try split) <;> omega)
  show wpAny _ _ (match Builtin.Slice.sliceAdjust none none (-1) (n : Int) with | (lo, hi) => pure (lo, (-1 : Int), Builtin.Slice.slicePlaces lo hi (-1))) _ _ s
  revert e
  cases Builtin.Slice.sliceAdjust none none (-1) (n : Int) with
  | mk lo hi =>
    rintro ⟨e1, e2⟩
    simp only at e1 e2
    show wpAny _ _ (pure (lo, (-1 : Int), Builtin.Slice.slicePlaces lo hi (-1))) _ _ s
    rw [e1, e2]
    exact wpAny_pure h
theorem u_getItem_rev {t sl : Addr} {items : Array Value} {vl vu vs : Value} {Q : Value → Shared → Prop} (ht : IsTup s.heap t items) (hs : s.heap.IsSliceOf sl vl vu vs) (pl : IsPart vl none) (pu : IsPart vu none) (ps : IsPart vs (some (-1)))
    (h : Q (.ref s.heap.objs.size) { s with heap := s.heap.push { cls := .type "tuple", data := .seq items.toList.reverse.toArray } }) (hsz : items.size ≤ sizeLine) : wpAny (model prog w) A (getItem (.ref t) (.ref sl)) Q E s := by
  have ok : sizeOk (.seq items.toList.reverse.toArray) := by
    show items.toList.reverse.toArray.size ≤ sizeLine
    rw [List.size_toArray, List.length_reverse, Array.length_toList]
    exact hsz
  obtain ⟨os, hos, hcs, hds⟩ := id hs
  have hT : s.TypeIs (.ref sl) "slice" := ⟨os, hos, hcs⟩
  unfold getItem
  try (with_reducible refine wpAny_holding ?_)
  first | (refine wpAny_bind (wpAny_pure ?_)) | skip
  refine wpAny_bind (wpAny_sequenceKey ht.typeIs (by decide) (wpAny_bind (wpAny_callSpecial?_slot (name := Str.ofString "__getitem__") ht.typeIs PyProof.Rows.slot_tuple_getitem
    (wpAny_call_entry PyProof.Rows.slot_tuple_getitem ht.typeIs entry_tuple_getitem ?_ (args_tuple_getitem _ _)))))
  show wpAny _ _ (Builtin.Tuple.tupleItemsOf (.ref t) >>= _) _ _ s
  refine wpAny_bind (tupleItemsOf_ ht (wpAny_bind (wpAny_typeOf hT ?_)))
  rw [if_pos (by decide)]
  refine wpAny_bind (u_sliceRev hs pl pu ps ?_)
  have no : ¬ ((((items.size : Int) - 1) == 0 && (-1 : Int) == 1 && items.size == items.size) = true) := by
    intro q
    rw [Bool.and_eq_true, Bool.and_eq_true] at q
    exact absurd (eq_of_beq q.1.2) (by decide)
  show wpAny _ _ (if (((items.size : Int) - 1) == 0 && (-1 : Int) == 1 && items.size == items.size) = true then _ else _) _ _ s
  rw [if_neg no, u_rev_pick]
  first
    | (exact wpAny_bind (m := Builtin.Tuple.tupleExact _) (wpAny_newObj_type (wpAny_pure ⟨_, rfl, wpAny_pure h⟩) ok))
    | (exact wpAny_bind (m := Builtin.Tuple.tupleExact _) (wpAny_newObj_type (wpAny_bind (wpAny_pure (wpAny_pure ⟨_, rfl, wpAny_pure h⟩))) ok))
    | (exact wpAny_bind (wpAny_bind (m := Builtin.Tuple.tupleExact _) (wpAny_newObj_type (wpAny_pure (wpAny_pure ⟨_, rfl, wpAny_pure h⟩)) ok)))
    | (exact wpAny_bind (wpAny_bind (m := Builtin.Tuple.tupleExact _) (wpAny_newObj_type (wpAny_pure ⟨_, rfl, wpAny_pure h⟩) ok)))
end
end HT
namespace U
open PySem PySem.Spec PyProof.Rows L2
section
variable {c : Co} {k : Nat} {Γ : Ga} {R : Oc} {P : D → Ga → Prop} {a b e : Expr} {es : List Expr} {pos p : Pos} {X : Cx}
/-! ### t[::-1], t a tuple -/
def tRevT (K : PySem.W.Frag) (te : TE) : TE := fun σ H Q => te σ H fun x H1 => ∃ a xs, x = .ref a ∧ SqT K H1 a xs ∧ ∀ p, H1 p = none → Q (.ref p) (upd H1 p (.tup xs.reverse))
theorem pe_revT {te : TE} {k : Nat} {p1 p2 p3 pos : Pos} (he : PE X e te) : PE X (.Subscript e (.Slice none none (some (.UnaryOp .USub (.Constant (.int 1) k p1) p2)) p3) pos) (tRevT X.K te) := by
  constructor
  intro pins s σ H Q I h
  refine Subscript_ (thn (he.run pins s σ H _ I h) ?_)
  rintro v s1 ⟨x, H1, I1, r1, a, xs, rfl, hx, q⟩
  cases r1
  have hst : PO X (some (.UnaryOp .USub (.Constant (.int 1) k p1) p2)) (tPart (tUn (rU fun i => .int (-i)) (tC (.int 1)))) := po_some (pe_un un_neg pe_int)
  refine wpAny_Slice (thn (po_none.run pins s1 σ H1 (fun o G => o = none ∧ G = H1) I1 ⟨rfl, rfl⟩) ?_)
  rintro vl s2 ⟨l, H2, I2, pl, rfl, rfl⟩
  refine thn (po_none.run pins s2 σ H2 (fun o G => o = none ∧ G = H2) I2 ⟨rfl, rfl⟩) ?_
  rintro vu s3 ⟨u, H3, I3, pu, rfl, rfl⟩
  refine thn (hst.run pins s3 σ H3 (fun o G => o = some (-1) ∧ G = H3) I3 ⟨1, rfl, -1, rfl, rfl, rfl⟩) ?_
  rintro vs s4 ⟨o, H4, I4, ps, rfl, rfl⟩
  have I5 : Inv X pins σ H4 { s4 with heap := s4.heap.push { cls := .type "slice", data := .fields #[vl, vu, vs] } } := I4.kept (t' := s4.toks) fun b u y => Heap.get?_push_of_some _ y
  obtain ⟨its, r, ht, hz⟩ := I5.tuple hx
  have hlen := r.length
  show wpAny (model X.prog X.w) X.A (subscriptTail e (.Slice none none (some (.UnaryOp .USub (.Constant (.int 1) k p1) p2)) p3) (.ref a) (.ref s4.heap.objs.size)) (EP X pins σ Q) X.xe { s4 with heap := s4.heap.push { cls := .type "slice", data := .fields #[vl, vu, vs] } }
  refine tail_any (ops := [.ref a, .ref s4.heap.objs.size]) ht.typeIs (PyProof.Rows.slot_tuple_getitem.lookup) ?_ (by with_unfolding_all rfl)
  refine HT.u_getItem_rev ht (Heap.IsSliceOf.new _ vl vu vs) pl pu ps ?_ (by rw [List.size_toArray]; omega)
  refine ⟨.ref _, _, I5.laid (t' := s4.toks) (o := .tup xs.reverse) (fun b ob y => Heap.get?_push_of_some _ y) (Nat.le_refl _) ?_, rfl, q _ (I5.hok.fresh (Nat.le_refl _))⟩
  exact ⟨by rw [List.length_reverse]; exact hz, _, r.reverse, IsTup.new _ _⟩
theorem ev_revT {k : Nat} {p1 p2 p3 : Pos} (h : Ev c a Γ fun d Γ1 => ∃ ds, d = .tup ds ∧ P (.tup ds.reverse) Γ1) : Ev c (.Subscript a (.Slice none none (some (.UnaryOp .USub (.Constant (.int 1) k p1) p2)) p3) pos) Γ P := fun σ H er Q W tk xw q =>
  outE (pe_revT selfE) (h σ H er _ W tk xw fun v d Γ1 H1 g r ⟨ds, e, hp⟩ => by
    subst e
    cases r with
    | tup h1 h2 h3 => exact ⟨_, _, rfl, sqt_of h1, fun p hp' => q _ _ Γ1 _ (g.grow (Grow.new hp')) (.tup upd_same (fun z => g.er.mx p z hp') (RpA.to (Grow.new hp').goes _ _ h3.rev)) hp⟩)
theorem ev_revL {k : Nat} {p1 p2 p3 : Pos} (h : Ev c a Γ fun d Γ1 => ∃ ds, d = .lst ds ∧ P (.lst ds.reverse) Γ1) : Ev c (.Subscript a (.Slice none none (some (.UnaryOp .USub (.Constant (.int 1) k p1) p2)) p3) pos) Γ P := fun σ H er Q W tk xw q =>
  outE (pe_revL selfE) (h σ H er _ W tk xw fun v d Γ1 H1 g r ⟨ds, e, hp⟩ => by
    subst e
    cases r with
    | lst h1 h2 h3 => exact ⟨_, _, rfl, sql_of h1, fun p hp' => q _ _ Γ1 _ (g.grow (Grow.new hp')) (.lst upd_same (fun z => g.er.mx p z hp') (RpA.to (Grow.new hp').goes _ _ h3.rev)) hp⟩)
/-! ### sorted(xs), ints -/
def srt (ns : List Int) : List Int := ns.mergeSort fun a b => decide (a ≤ b)
theorem srt_perm (ns : List Int) : (srt ns).Perm ns := List.mergeSort_perm _ _
theorem srt_pair (ns : List Int) : (srt ns).Pairwise (· ≤ ·) := by
  have := List.pairwise_mergeSort (le := fun a b : Int => decide (a ≤ b)) (by intro a b c; simp only [decide_eq_true_eq]; omega) (by intro a b; simp only [Bool.or_eq_true, decide_eq_true_eq]; omega) ns
  exact this.imp fun h => by simpa using h
theorem srt_of {ns ms : List Int} (h : ms.Perm ns) (h2 : ms.Pairwise (· ≤ ·)) : ms = srt ns :=
  List.Perm.eq_of_pairwise (le := (· ≤ ·)) (fun a b _ _ h1 h2 => Int.le_antisymm h1 h2) h2 (srt_pair ns) (h.trans (srt_perm ns).symm)
theorem vo_sorted {ns : List Int} : Von (rSortedI X.K) [.lst (ns.map D.int)] (.lst ((srt ns).map D.int)) := fun M H vs hk h1 Q q => by
  cases h1 with
  | cons h1 h2 =>
    cases h2
    obtain ⟨a, xs, rfl, e, r⟩ := h1.lst_
    rw [r.ints_] at e
    exact ⟨a, ns, rfl, sql_of e, fun ms p hp hs hn => by
      rw [srt_of hp hs]
      exact q _ _ (Grow.new hn) (.lst upd_same (fun z => hk p z hn) (RpA.ints _))⟩
theorem ev_sorted (hm : c.X.mg "sorted" = none) (h : EvQ c a Γ fun d Γ1 => ∃ ns : List Int, d = .lst (ns.map D.int) ∧ P (.lst ((srt ns).map D.int)) Γ1) (hg : Gl c.X "sorted") (hs : starEach [a] c.X.env = (false, eval a c.X.env) :: starEach [] c.X.env := by rfl) (hpl : (backTo pos (starEach [] c.X.env)).any (·.1) = false := by rfl) : Ev c (.Call (.Name "sorted" p) [a] [] pos) Γ P :=
  evn1 (fun ha => pe_callB cr_sortedI hg hm (by decide +kernel) ha (by decide) (by decide) hs hpl) (eq_mono h fun d Γ1 ⟨n, e, hp⟩ => ⟨_, by rw [e]; exact vo_sorted, hp⟩) hs
/-! ### list(range(n)), tuple(range(n)) -/
theorem rangeD_ints (lo : Int) (n : Nat) : rangeD lo n = ((List.range n).map fun (i : Nat) => lo + (i : Int)).map D.int := by simp [rangeD]
theorem rp_rg {M : Ex} {H : Hw} (n : Int) : RpA M H (rgV 0 n) (rangeD 0 n.toNat) := by
  have e : rgV 0 n = ((List.range n.toNat).map fun (i : Nat) => (0 : Int) + (i : Int)).map V.int := by simp [rgV]
  rw [e, rangeD_ints]
  exact RpA.ints _
theorem ev_listRg (bd : Bd c k) {p2 q2 : Pos} (hm : c.X.mg "list" = none) (hr : c.X.mg "range" = none) (h : Ev c a Γ fun d Γ1 => ∃ n, d = .int n ∧ 0 ≤ n ∧ n ≤ 16777216 ∧ P (.lst (rangeD 0 n.toNat)) Γ1) (hg : Gl c.X "list") (hgr : Gl c.X "range")
    (hs : starEach [a] c.X.env = (false, eval a c.X.env) :: starEach [] c.X.env := by rfl) (hs2 : starEach [.Call (.Name "range" p2) [a] [] q2] c.X.env = (false, eval (.Call (.Name "range" p2) [a] [] q2) c.X.env) :: starEach [] c.X.env := by rfl) : Ev c (.Call (.Name "list" p) [.Call (.Name "range" p2) [a] [] q2] [] pos) Γ P := fun σ H er Q W tk xw q =>
  outE (pe_listRg bd.calm hg hm (prg_1 hgr hr selfE hs) hs2) (h σ H er _ W tk xw fun v d Γ1 H1 g r ⟨n, e, h0, h1, hp⟩ => by
    subst e
    cases r
    exact ⟨n, rfl, RgOk.of_le (by omega) h1 (by omega) h0, fun p hp' => q _ _ Γ1 _ (g.grow (Grow.new hp')) (.lst upd_same (fun z => g.er.mx p z hp') (rp_rg n)) hp⟩)
theorem ev_tupRg (bd : Bd c k) {p2 q2 : Pos} (hm : c.X.mg "tuple" = none) (hr : c.X.mg "range" = none) (h : Ev c a Γ fun d Γ1 => ∃ n, d = .int n ∧ 0 ≤ n ∧ n ≤ 16777216 ∧ P (.tup (rangeD 0 n.toNat)) Γ1) (hg : Gl c.X "tuple") (hgr : Gl c.X "range")
    (hs : starEach [a] c.X.env = (false, eval a c.X.env) :: starEach [] c.X.env := by rfl) (hs2 : starEach [.Call (.Name "range" p2) [a] [] q2] c.X.env = (false, eval (.Call (.Name "range" p2) [a] [] q2) c.X.env) :: starEach [] c.X.env := by rfl) : Ev c (.Call (.Name "tuple" p) [.Call (.Name "range" p2) [a] [] q2] [] pos) Γ P := fun σ H er Q W tk xw q =>
  outE (pe_tupRg bd.calm hg hm (prg_1 hgr hr selfE hs) hs2) (h σ H er _ W tk xw fun v d Γ1 H1 g r ⟨n, e, h0, h1, hp⟩ => by
    subst e
    cases r
    exact ⟨n, rfl, RgOk.of_le (by omega) h1 (by omega) h0, fun p hp' => q _ _ Γ1 _ (g.grow (Grow.new hp')) (.tup upd_same (fun z => g.er.mx p z hp') (rp_rg n)) hp⟩)
/-! ### divmod -/
theorem vo_divmod {i j : Int} (h : CDiv i j) : Von (fun xs H Q => ∃ i j, xs = [.int i, .int j] ∧ CDiv i j ∧ ∀ p, H p = none → Q (.ref p) (upd H p (.tup [.int (i / j), .int (i % j)]))) [.int i, .int j] (.tup [.int (i / j), .int (i % j)]) := fun M H vs hk h1 Q q => by
  cases h1 with
  | cons h1 h2 =>
    cases h2 with
    | cons h2 h3 =>
      cases h3
      cases h1.int_
      cases h2.int_
      exact ⟨i, j, rfl, h, fun p hn => q _ _ (Grow.new hn) (.tup upd_same (fun z => hk p z hn) (.cons (.int _) (.cons (.int _) .nil)))⟩
theorem ev_divmod (hm : c.X.mg "divmod" = none) (h : Av c [a, b] Γ fun ds Γ1 => ∃ i j, ds = [.int i, .int j] ∧ (0 < j ∧ j < 1073741824) ∧ P (.tup [.int (i / j), .int (i % j)]) Γ1) (hg : Gl c.X "divmod") (hs : starEach [a, b] c.X.env = (false, eval a c.X.env) :: starEach [b] c.X.env := by rfl) (hpl : (backTo pos (starEach [b] c.X.env)).any (·.1) = false := by rfl) : Ev c (.Call (.Name "divmod" p) [a, b] [] pos) Γ P :=
  evn (fun ha => pe_callB call_divmod hg hm (by decide +kernel) ha (by decide) (by decide) hs hpl) (av_mono h fun d Γ1 ⟨i, j, e, hj, hp⟩ => ⟨_, by rw [e]; exact vo_divmod hj, hp⟩)
theorem ev_abs (hm : c.X.mg "abs" = none) (h : Ev c a Γ fun d Γ1 => ∃ i, d = .int i ∧ P (.int (if i < 0 then -i else i)) Γ1) (hg : Gl c.X "abs") (hs : starEach [a] c.X.env = (false, eval a c.X.env) :: starEach [] c.X.env := by rfl) (hpl : (backTo pos (starEach [] c.X.env)).any (·.1) = false := by rfl) : Ev c (.Call (.Name "abs" p) [a] [] pos) Γ P :=
  evn1 (fun ha => pe_callB call_abs hg hm (by decide +kernel) ha (by decide) (by decide) hs hpl) (eq_of (ev_mono h fun d Γ1 ⟨i, e, hp⟩ => ⟨_, by rw [e]; exact vo_abs, hp⟩)) hs
/-- // by any positive divisor -/
theorem ev_fdivW (h : Ev c a Γ fun x Γ1 => EvQ c b Γ1 fun y Γ2 => ∃ i j, x = .int i ∧ y = .int j ∧ (0 < j ∧ j.natAbs.log2 < 9000) ∧ P (.int (i / j)) Γ2) : Ev c (.BinOp a .FloorDiv b pos) Γ P :=
  ev_op op_fdivW (ev_mono h fun x _ h => eq_mono h fun y _ ⟨i, j, e1, e2, h0, hp⟩ => ⟨_, by rw [e1, e2]; exact vo_I (g := fun i j => i / j) (C := CDivW) h0, hp⟩)
/-! ### str(d) -/
theorem call_strOf_data (gd : X.A.guards = some []) (hu : X.A.units + 70 < cLine) {M : Ex} {H : Hw} {a : Addr} {d : D} {n j : Nat} (r : Rq M H (.ref a) d) (h : Rk d n j) (hn : n ≤ 16777216) (hj : j ≤ 60) {pins : List (Addr × Obj)} {s : Shared} {σ : Sw} {Q : VK} (I : Inv X pins σ H s) (q : Q (.str (shw d)) H) :
    wpAny (model X.prog X.w) X.A (call (.type "str") [.ref a]) (EP X pins σ Q) X.xe s := by
  have hz : (toPy d).shown.length ≤ sizeLine := Nat.le_trans h.ln (sz hn)
  obtain ⟨as, rd⟩ := Dp.reads I (toPy d) (.ref a) (.ref a) (r.dp (X := X) h.pl) rfl
  have hd := h.dp
  exact str_of_reads rd h.sh (fun z => by rw [h.nd] at z; cases z) gd (by omega) (fun _ _ e => e) (fun h' u tk hk => ⟨.str (shw d), H, I.kept (t' := tk) hk, ⟨u, rfl⟩, q⟩) hz
def D.isSq : D → Bool
  | .lst _ => true
  | .tup _ => true
  | _ => false
theorem ev_strOf (bd : Bd c k) (hu : c.X.A.units + 70 < cLine) (hm : c.X.mg "str" = none) (h : EvQ c a Γ fun d Γ1 => (d.isSq = true ∧ ∃ n j, Rk d n j ∧ n ≤ 16777216 ∧ j ≤ 60) ∧ P (.str (shw d)) Γ1) (hg : Gl c.X "str") (hs : starEach [a] c.X.env = (false, eval a c.X.env) :: starEach [] c.X.env := by rfl) (hpl : (backTo pos (starEach [] c.X.env)).any (·.1) = false := by rfl) : Ev c (.Call (.Name "str" p) [a] [] pos) Γ P := fun σ H er Q W tk xw q => .mk fun pins s I => by
  have cr : CallR c.X (.type "str") (fun vs H Q => ∃ (M' : Ex) (b : Addr) (d : D) (n j : Nat), vs = [.ref b] ∧ Rq M' H (.ref b) d ∧ Rk d n j ∧ n ≤ 16777216 ∧ j ≤ 60 ∧ Q (.str (shw d)) H) := by
    intro pins s σ' H xs us Q I r h
    obtain ⟨M', b, d, n, j, rfl, rq, rk, hn, hj, q⟩ := h
    obtain ⟨u, rfl, ru⟩ := vals1 r
    cases ru
    exact call_strOf_data bd.gd hu rq rk hn hj I q
  refine (pe_callTy cr hg hm (by decide +kernel) (pa_cons selfE pa_nil hs) (by decide) (by decide) hs hpl).run pins s σ H Q I ?_
  refine h σ H er _ W tk xw fun v d Γ1 H1 g r ⟨⟨hsq, n, j, rk, hn, hj⟩, hp⟩ => ?_
  have hv : ∃ b, v = .ref b := by
    cases d with
    | lst ds => obtain ⟨b, xs, e, _⟩ := r.lst_; exact ⟨b, e⟩
    | tup ds => obtain ⟨b, xs, e, _⟩ := r.tup_; exact ⟨b, e⟩
    | non => cases hsq
    | bl _ => cases hsq
    | int _ => cases hsq
    | str _ => cases hsq
    | dic _ => cases hsq
    | ad _ => cases hsq
  obtain ⟨b, rfl⟩ := hv
  exact ⟨_, b, d, n, j, rfl, r, rk, hn, hj, q _ _ Γ1 H1 g (.str _) hp⟩
/-! ### {} -/
theorem ev_dicE (h : P (.dic []) Γ) : Ev c (.Dict [] [] pos) Γ P := fun σ H er Q W tk xw q =>
  outE pe_dnewK fun p hp => q _ _ Γ _ ((Go.refl er).grow (Grow.new hp)) (.dic upd_same (fun z => er.mx p z hp) .nil) h
theorem ev_reprE (bd : Bd c k) (hm : c.X.mg "repr" = none) (h : EvQ c a Γ fun d Γ1 => d = .dic [] ∧ P (.str (shw d)) Γ1) (hg : Gl c.X "repr") (hs : starEach [a] c.X.env = (false, eval a c.X.env) :: starEach [] c.X.env := by rfl) (hpl : (backTo pos (starEach [] c.X.env)).any (·.1) = false := by rfl) : Ev c (.Call (.Name "repr" p) [a] [] pos) Γ P := fun σ H er Q W tk xw q => .mk fun pins s I => by
  have cr : CallR c.X (.builtin "repr") (fun vs H Q => ∃ b, vs = [.ref b] ∧ H b = some (.dK []) ∧ Q (.str (shw (.dic []))) H) := by
    intro pins s σ' H xs us Q I r h
    obtain ⟨b, rfl, hb, q⟩ := h
    obtain ⟨u, rfl, ru⟩ := vals1 r
    cases ru
    obtain ⟨_, hsm, vs, kv, o, es, ep, ho, hx, hd, hko, hps, _⟩ := dk_of I.hok hb
    cases kv
    have hes : es.toList = [] := by cases hq : es.toList with
      | nil => rfl
      | cons x xs => rw [hq] at hps; cases hps
    have rd : Reads s.heap (.ref b) (.dict []) (b :: [] ++ []) := .dict ho hx.1 hd (by rw [hes]; exact .nil) (by rw [hes]; exact .nil)
    have hu := bd.hr.units
    refine repr_of_reads' rd (by simp [PyData.showable, PyData.showableKv]) (fun _ z => ?_) bd.gd (by simp only [PyData.depth, PyData.depthKv]; omega) (fun _ _ e => e) (fun h' u tk hk => ⟨.str (shw (.dic [])), H, I.kept (t' := tk) hk, ⟨u, by simp only [shw, toPy]⟩, q⟩) (by simp only [PyData.shown, PyData.shownKv]; decide)
    have z' : sysModules = b := by simpa using z
    rw [z'] at hsm
    simp at hsm
  refine (pe_callB cr hg hm (by decide +kernel) (pa_cons selfE pa_nil hs) (by decide) (by decide) hs hpl).run pins s σ H Q I ?_
  exact h σ H er _ W tk xw fun v d Γ1 H1 g r ⟨e, hp⟩ => by
    subst e
    obtain ⟨b, xs, rfl, e1, e2⟩ := r.dic_
    cases e2
    exact ⟨_, rfl, e1, q _ _ Γ1 H1 g (.str _) hp⟩
/-! ### stores -/
/-- x = e1 + e2, lists, the new one this body's own -/
theorem s1_setCat (bd : Bd c k) {x : Str} {pos' opos : Pos} (i : Nat) (hi : c.X.N[i]? = some x) (hx : Loc c.X.env.scope x) (hl : i < Γ.length) (h : Ev c a Γ fun x Γ1 => EvQ c b Γ1 fun y Γ2 => ∃ xs ys, x = .lst xs ∧ y = .lst ys ∧ xs.length + ys.length ≤ 16777216 ∧ R.nx (Γ2.set i (.own (xs ++ ys))))
    (hs : swapsWith (.BinOp a .Add b opos) (some (.Name x pos')) pos.line c.X.env = pure false := by rfl) (hf : c.X.fn x = true ∨ c.X.env.scope.names.lookup x = some .local := by first | exact .inl rfl | exact .inr rfl) : S1 c (.Assign [.Name x pos'] (.BinOp a .Add b opos) pos) Γ R := fun σ H er W Dd tk k =>
  outS (ps_set bd.nd hi hx (pe_op op_cat selfE selfE) hs hf) (h σ H er _ W tk k.xw fun v x Γ1 H1 g1 p1 h2 => h2 σ H1 g1.er _ W tk (k.xw.on g1.er g1.st) fun w y Γ2 H2 g2 p2 ⟨xs, ys, e1, e2, hz, hp⟩ => by
    subst e1 e2
    obtain ⟨l1, vs, rfl, q1, r1⟩ := (Rq.of (Rp.to (g2.goes g1.er) _ _ p1)).lst_
    obtain ⟨l2, ws, rfl, q2, r2⟩ := p2.lst_
    have g := g1.trans g2
    refine ⟨l1, l2, vs, ws, rfl, rfl, q1, q2, by rw [r1.length, r2.length]; exact sz hz, fun t ht => ?_⟩
    obtain ⟨r3, s3⟩ := g.er.make i (by rw [g.length]; exact hl) ht (.lst (r1.app r2))
    exact k.nx _ _ _ (g.st.trans g.er s3) r3 hp)
/-- target = e -/
theorem s1_asgG {tg : Expr} (h : Ev c e Γ fun d Γ1 => Gv c tg Γ1 d R.nx) (hs : swapsWithSole [tg] e pos.line c.X.env = pure false := by rfl) (hw : swappedStores [tg] e c.X.env = pure none := by rfl) (h1 : (assignEach [tg] c.X.env).map (·.2) = [assign tg c.X.env] := by rfl) : S1 c (.Assign [tg] e pos) Γ R := fun σ H er W Dd tk k =>
  outS (ps_asg selfE selfG hs hw h1) (h σ H er _ W tk k.xw fun v d Γ1 H1 g r hg => hg σ H1 v g.er r _ (fun σ' Γ' H' st er' hp => k.nx _ _ _ (g.st.trans g.er st) er' hp))
end
end U
/-! U14: the end of a law: its own call, no repr under way. -/
namespace U
open PySem PySem.Spec PyProof.Rows L2
/-- the script is all that is tracked -/
structure Alone (H : Hw) (a : Addr) (ns : List Int) (K : PySem.W.Frag) : Prop where
  only : ∀ b, H b ≠ none → b = a
  kind : ∀ b o, H b = some o → ∃ x xs, o = .frz x (.lst xs)
  sq : SqL K H a (ns.map V.int)
theorem end_call {P : Program} {w : World} {K : PySem.W.Frag} {mg mb : Str → Option Value} {k : Nat} {fa a : Addr} {fd : FuncData} {x : Str} {sp : Sp} {s1 : Shared} {us : List Value} {ns : List Int}
    (KX : K.In s1.heap) (n1 : s1.heap.Ns mainGlobals mg) (n2 : s1.heap.Ns builtinsNs mb) (n3 : ∀ y : Str, y ≠ "__name__" → mb y = bootBuiltins y) (n4 : s1.heap.NoLimit) (g0 : s1.gens = #[])
    (at_ : s1.heap.get? a = some { cls := .type "list", data := .seq us.toArray }) (hi : IntsAre us ns) (hl : ns.length ≤ sizeLine) (hr : Room k callerA)
    (F : ∀ base : Heap, K.In base → base.Ns mainGlobals mg → FnG P w K mg base k fa fd [x] sp) (hb : ∀ (s : Shared) (u : Value), BindsTo s fd ⟨[u], []⟩ [(x, u)])
    (hsp : ∀ H : Hw, Alone H a ns K → sp [.ref a] H (fun v _ => v = .bl true) fun _ _ _ => False) (nox : ∀ H s e s', L2.CX P w [] H s (fun _ _ _ => False) e s' → False) :
    codeAny (model P w) callerA (.call (.ref fa) ⟨[.ref a], []⟩) (fun r t => r = .ok (.ret (.bool true)) ∧ OldK s1.heap t.heap ∧ t.os = s1.os ∧ AllBare t.gens) s1 := by
  have vals : Vals (ns.map V.int) us := vals_ints hi
  have len := hi.length
  have main : ∀ H : Hw, Alone H a ns K → HOk P w H s1.heap → (H a ≠ none → K.lookup a = none) →
      codeAny (model P w) callerA (.call (.ref fa) ⟨[.ref a], []⟩) (fun r t => r = .ok (.ret (.bool true)) ∧ OldK s1.heap t.heap ∧ t.os = s1.os ∧ AllBare t.gens) s1 := by
    intro H hA hok hK
    have low : ∀ {b : Addr} {o : Obj}, s1.heap.get? b = some o → (b = a → H a = none) → (hidT s1.heap H).get? b = some o := fun {b o} e z => hidT_get e (by
      by_cases q : H b = none
      · exact q
      · have e2 := hA.only b q
        subst e2
        exact absurd (z rfl) q)
    have dicts : ∀ {b : Addr} {m : Str → Option Value}, s1.heap.Ns b m → (hidT s1.heap H).Ns b m := fun {b m} ⟨o, es, ep, e, d, r⟩ => by
      refine ⟨o, es, ep, low e fun z => ?_, d, r⟩
      subst z
      rw [at_] at e
      cases e
      cases d
    have inK : K.In (hidT s1.heap H) := fun b o e => low (KX b o e) fun z => by
      by_cases q : H a = none
      · exact q
      · have e2 := hK q
        rw [← z, e] at e2
        cases e2
    have md : Mod K mg (hidT s1.heap H) := ⟨inK, dicts n1, ⟨mb, dicts n2, n3⟩, by obtain ⟨mc, h1, h2⟩ := n4; exact ⟨mc, dicts h1, h2⟩⟩
    have env : Env0 P w K mg (hidT s1.heap H) callerA [] s1 H := ⟨rfl, md, fun b o e => of_hidT e, Nat.le_of_eq (hidT_size _ _), trivial, (fun b z => absurd z (by simp [frs])), hok, .of_eq g0⟩
    have run := (F _ inK (dicts n1)).run callerA [] s1 H ⟨[.ref a], []⟩ [.ref a] [.ref a] _ _ hr rfl env (hb s1 (.ref a)) (.cons rfl .nil) (hsp H hA)
    refine codeAny_mono run fun r t h => ?_
    match r, h with
    | .error e, h => exact (nox H s1 e t h).elim
    | .ok (.ret u), ⟨v, H', os, bare, un, hok', r', q⟩ =>
      have q' : v = .bl true := q
      subst q'
      have eu : u = Value.bool true := r'
      subst eu
      refine ⟨rfl, OldK.of_keep fun b o e => ?_, os, bare⟩
      cases q : H b with
      | none => exact un.keep b o e q (fun z => absurd z (by simp [frs])) (by simp)
      | some ho =>
        obtain ⟨x1, xs, rfl⟩ := hA.kind b ho q
        have z2 := un.frzs b x1 _ q
        have a1 := (hok b _ q).1
        have a2 := (hok' b _ z2).1
        rw [e] at a1
        cases a1
        exact a2
  by_cases hk : K.lookup a = none
  · let H0 : Hw := fun b => if b = a then some (.frz { cls := .type "list", data := .seq us.toArray } (.lst (ns.map V.int))) else none
    have h0 : H0 a = some (.frz { cls := .type "list", data := .seq us.toArray } (.lst (ns.map V.int))) := if_pos rfl
    have h1 : ∀ b, b ≠ a → H0 b = none := fun b n => if_neg n
    refine main H0 ⟨fun b z => ?_, fun b o z => ?_, .inl (.inr ⟨_, h0⟩)⟩ (fun b o z => ?_) fun _ => hk
    · by_cases q : b = a
      · exact q
      · exact absurd (h1 b q) z
    · by_cases q : b = a
      · rw [q, h0] at z
        cases z
        exact ⟨_, _, rfl⟩
      · rw [h1 b q] at z
        cases z
    · by_cases q : b = a
      · rw [q, h0] at z
        cases z
        rw [q]
        exact ⟨at_, by rw [List.length_map]; exact hl, us, _, vals, at_⟩
      · rw [h1 b q] at z
        cases z
  · obtain ⟨o, ho⟩ := Option.ne_none_iff_exists'.mp hk
    have e := KX a o ho
    rw [at_] at e
    cases e
    refine main (fun _ => none) ⟨fun b z => absurd rfl z, (fun b o z => by cases z), .inr ⟨_, us.toArray, _, ho, rfl, rfl, rfl, by rw [List.size_toArray, len]; exact hl, by simpa using vals⟩⟩ (fun b o z => by cases z) fun z => absurd rfl z
/-- the goal that the law's head leaves -/
theorem end_of {l : PySem.W.OpenLaw} {n k : Nat} {q : Program} {loose : List Str} {XP : (Str → Option Value) → Heap → Prop} {YP : World → Heap → Prop} {d : DefRec} {K : Params → PySem.W.Frag} {sp : World → Sp} {x : Str}
    (hn : l.most = some n) (hn2 : n ≤ sizeLine) (hdf : d.params.defaults = []) (hr : Room k callerA) (hY : ∀ (w : World) (h : Heap), YP w h → (K w.params).In h)
    (F : ∀ (w : World) (mg : Str → Option Value) (fa : Addr) (h : Heap), (K w.params).In h → h.Ns mainGlobals mg → mg d.name = some (.ref fa) →
      ∃ fd : FuncData, (∀ (s : Shared) (u : Value), BindsTo s fd ⟨[u], []⟩ [(x, u)]) ∧ ∀ base : Heap, (K w.params).In base → base.Ns mainGlobals mg → FnG l.prog w (K w.params) mg base k fa fd [x] (sp w))
    (hsp : ∀ (w : World) (H : Hw) (a : Addr) (ns : List Int), ns.length ≤ n → (∀ z ∈ ns, Builtin.Int.intBits z ≤ 1048576) → Alone H a ns (K w.params) → sp w [.ref a] H (fun v _ => v = .bl true) fun _ _ _ => False)
    (nox : ∀ (w : World) (H : Hw) (s : Shared) (e : Value) (s' : Shared), L2.CX l.prog w [] H s (fun _ _ _ => False) e s' → False) :
    PySem.W.WalkO q loose XP YP l.row.toRowW d [] (fun f vs => PySem.call f vs) := by
  refine Att.attach_callB hn hdf fun w s0 s1 mg mb fa o pm cd doc a us ns G Y ho hd hcd hmg hobj hints hlen hbits hg => ?_
  obtain ⟨fd, hb, hF⟩ := F w mg fa _ (hY w _ Y) G.T.g hmg
  exact end_call (hY w _ Y) G.T.g G.T.b G.T.builtins G.T.nolimit hg hobj hints (Nat.le_trans hlen hn2) hr hF hb (fun H hA => hsp w H a ns hlen hbits hA) fun H s e s' => nox w H s e s'
end U
/-! U15: rows of ints compared; places by name. -/
namespace U
open PySem PySem.Spec PyProof.Rows L2
theorem toPyA_ints : ∀ ns : List Int, toPyA (ns.map D.int) = ns.map PyData.int
  | [] => rfl
  | n :: ns => by
    rw [List.map_cons, List.map_cons]
    simp only [toPyA, toPy]
    rw [toPyA_ints ns]
theorem dpa_ints {K : PySem.W.Frag} {H : Hw} : ∀ ns : List Int, DpAll K H (ns.map V.int) (ns.map PyData.int)
  | [] => .nil
  | n :: ns => .cons (.int n) (dpa_ints ns)
theorem eqvAll_ints : ∀ ns ms : List Int, PyData.eqvAll (ns.map PyData.int) (ms.map PyData.int) = decide (ns = ms)
  | [], [] => by simp [PyData.eqvAll]
  | [], _ :: _ => by simp [PyData.eqvAll]
  | _ :: _, [] => by simp [PyData.eqvAll]
  | n :: ns, m :: ms => by
    rw [List.map_cons, List.map_cons]
    simp only [PyData.eqvAll, PyData.eqv]
    rw [eqvAll_ints ns ms]
    by_cases h : n = m <;> by_cases h2 : ns = ms <;> simp [h, h2]
theorem eqv_lint (ns ms : List Int) : PyData.eqv (.list (ns.map PyData.int)) (.list (ms.map PyData.int)) = decide (ns = ms) := by
  simp only [PyData.eqv]
  exact eqvAll_ints ns ms
theorem plA_ints : ∀ ns : List Int, D.plA (ns.map D.int) = true
  | [] => rfl
  | n :: ns => by
    rw [List.map_cons]
    simp only [D.plA, D.pl, Bool.true_and]
    exact plA_ints ns
theorem eqk_lint (ns : List Int) : Eqk (.lst (ns.map D.int)) := ⟨by simp only [D.pl]; exact plA_ints ns, by simp only [toPy]; rw [toPyA_ints]; exact PySem.W.shaped_ints ns⟩
theorem eqd_lint (ns ms : List Int) : PyData.eqv (toPy (.lst (ns.map D.int))) (toPy (.lst (ms.map D.int))) = decide (ns = ms) := by
  simp only [toPy]
  rw [toPyA_ints, toPyA_ints]
  exact eqv_lint ns ms
/-! ### blocks at the values' level -/
theorem vb_cons {X : Cx} {D : Ends} {st : Stmt} {sts : List Stmt} {σ : L2.St} {H : Hw} (h : wpS X st { D with nx := fun σ H => wpB X sts D σ H } σ H) : wpB X (st :: sts) D σ H := outB (pss_cons selfS selfB) h
theorem ps_mid {X : Cx} {st : Stmt} : PS X st (fun D σ H => ∃ R : L2.St → Hw → Prop, wpS X st { D with nx := R } σ H ∧ ∀ σ' H', R σ' H' → D.nx σ' H') := ⟨fun pins s σ H D I ⟨R, h1, h2⟩ => by
  refine wpAny_mono (h1.run pins s I) (fun fl s' h => ?_) fun _ _ h => h
  cases fl with
  | next =>
    obtain ⟨σ', H', I', r⟩ := h
    exact ⟨σ', H', I', h2 _ _ r⟩
  | ret u => exact h
  | brk => exact h
  | cont => exact h⟩
/-- a statement, what holds behind it, the rest -/
theorem vb_mid {X : Cx} {D : Ends} {st : Stmt} {sts : List Stmt} {σ : L2.St} {H : Hw} (R : L2.St → Hw → Prop) (h1 : wpS X st { D with nx := R } σ H) (h2 : ∀ σ' H', R σ' H' → wpB X sts D σ' H') : wpB X (st :: sts) D σ H :=
  outB (pss_cons ps_mid selfB) ⟨R, h1, h2⟩
theorem vb_nil {X : Cx} {D : Ends} {σ : L2.St} {H : Hw} (h : D.nx σ H) : wpB X [] D σ H := outB pss_nil h
end U
/-! U16: comprehensions, item by item. -/
namespace U
open PySem PySem.Spec PyProof.Rows L2
inductive All2 (R : D → D → Prop) : List D → List D → Prop
  | nil : All2 R [] []
  | cons {x y : D} {xs ys : List D} : R x y → All2 R xs ys → All2 R (x :: xs) (y :: ys)
theorem All2.snoc {R : D → D → Prop} {x y : D} (h : R x y) : ∀ {xs ys : List D}, All2 R xs ys → All2 R (xs ++ [x]) (ys ++ [y])
  | [], [], _ => .cons h .nil
  | _ :: _, _ :: _, .cons a b => .cons a (All2.snoc h b)
theorem All2.length {R : D → D → Prop} : ∀ {xs ys : List D}, All2 R xs ys → ys.length = xs.length
  | [], [], _ => rfl
  | _ :: _, _ :: _, .cons _ b => by simp [All2.length b]
theorem All2.eq {g : D → D} : ∀ {xs ys : List D}, All2 (fun x y => y = g x) xs ys → ys = xs.map g
  | [], [], _ => rfl
  | _ :: _, _ :: _, .cons a b => by rw [a, All2.eq b]; rfl
theorem All2.all {p : D → Prop} : ∀ {xs ys : List D}, All2 (fun _ y => p y) xs ys → ∀ y ∈ ys, p y
  | [], [], _, _, h => by cases h
  | _ :: _, _ :: _, .cons a b, y, h => by
    rcases List.mem_cons.mp h with e | e
    · rw [e]; exact a
    · exact All2.all b y e
section
variable {c : Co} {k : Nat} {Γ : Ga} {pos : Pos}
/-- [elt for tg in iter] -/
theorem ev_lcR {P : D → Ga → Prop} {elt tg iter : Expr} {scope : Scope} (own : List (Str × Nat)) (bd : Bd c k) (ok : BlkOk c.X.N c.X.env.scope scope own)
    (h : Iv c tg iter Γ fun xs Γ1 => xs.length ≤ 1000000 ∧ (∀ m ∈ own.map (·.2), ∀ s, Γ1[m]? = some s → s.mine = false) ∧ ∃ R : D → D → Prop,
      (∀ x ∈ xs, ∀ (Dl : Addr) (s : Shared) (H : Hw) (C : Addr) (cl : List (Str × Addr)) (fp : List Addr), Gw (c.inner s H scope C cl fp Dl) (own.map (·.2)) tg (unset (own.map (·.2)) Γ1) x fun Γ2 =>
        ∀ (s : Shared) (H : Hw) (C : Addr) (cl : List (Str × Addr)) (fp : List Addr), Bd (c.inner s H scope C cl fp Dl) k → Ev (c.inner s H scope C cl fp Dl) elt Γ2 fun y Γ4 => Γ4 = Γ2 ∧ R x y) ∧
      ∀ ys, All2 R xs ys → P (.lst ys) Γ1)
    (hs : ∀ x, foldedSetIterable iter c.X.env x = pure x := by intro _; rfl) : Ev c (.ListComp elt [⟨tg, iter, [], 0⟩] scope pos) Γ P := by
  refine ev_lc own bd ok (fun σ H er R W tk xw q => h σ H er R W tk xw fun J xs Γ' H' g src hp => q J xs Γ' H' g src ?_) hs
  obtain ⟨hl, hm, R, ht, hd⟩ := hp
  refine ⟨fun i acc => All2 R (xs.take i) acc, (show All2 R (xs.take 0) [] from by rw [List.take_zero]; exact .nil), hl, hm, fun i x acc hx hI al Dl s H C cl fp => ?_, fun acc hI => hd acc (by have z : All2 R (xs.take xs.length) acc := hI; rw [List.take_length] at z; exact z)⟩
  have z := ht x (List.mem_of_getElem? hx) Dl s H C cl fp
  intro σ1 H1 v1 er1 p1 Q1 q1
  refine z σ1 H1 v1 er1 p1 Q1 fun σ' Γ' e1 e2 st er' hE => q1 σ' Γ' e1 e2 st er' ?_
  intro s2 H2 C2 cl2 fp2
  refine .inl ⟨rfl, rfl, fun _ s3 H3 C3 cl3 fp3 => ?_, fun z => by cases z⟩
  refine ev_mono (hE s3 H3 C3 cl3 fp3 (bd.inner s3 H3 scope C3 cl3 fp3 Dl)) fun y Γ4 ⟨e4, r⟩ => ⟨e4, ?_⟩
  show All2 R (xs.take (i + 1)) (acc ++ [y])
  rw [List.take_succ, hx]
  exact All2.snoc r hI
end
end U
/-! U17: repr of what may be an empty dict; statements one by one; rows of small items. -/
namespace U
open PySem PySem.Spec PyProof.Rows L2
/-- repr tells it -/
def Shown (d : D) : Prop := (∃ n j, Rk d n j ∧ n ≤ 16777216 ∧ j ≤ 60) ∨ d = .dic []
section
variable {c : Co} {k : Nat} {Γ : Ga} {R : Oc} {P : D → Ga → Prop} {a b e : Expr} {es : List Expr} {pos p : Pos} {X : Cx}
theorem call_reprE_data (gd : X.A.guards = some []) (hu : X.A.units + 64 < cLine) {H : Hw} {b : Addr} (hb : H b = some (.dK [])) {pins : List (Addr × Obj)} {s : Shared} {σ : Sw} {Q : VK} (I : Inv X pins σ H s) (q : Q (.str (shw (.dic []))) H) :
    wpAny (model X.prog X.w) X.A (call (.builtin "repr") [.ref b]) (EP X pins σ Q) X.xe s := by
  obtain ⟨_, hsm, vs, kv, o, es, ep, ho, hx, hd, hko, hps, _⟩ := dk_of I.hok hb
  cases kv
  have hes : es.toList = [] := by cases hq : es.toList with
    | nil => rfl
    | cons x xs => rw [hq] at hps; cases hps
  have rd : Reads s.heap (.ref b) (.dict []) (b :: [] ++ []) := .dict ho hx.1 hd (by rw [hes]; exact .nil) (by rw [hes]; exact .nil)
  refine repr_of_reads' rd (by simp [PyData.showable, PyData.showableKv]) (fun _ z => ?_) gd (by simp only [PyData.depth, PyData.depthKv]; omega) (fun _ _ e => e) (fun h' u tk hk => ⟨.str (shw (.dic [])), H, I.kept (t' := tk) hk, ⟨u, by simp only [shw, toPy]⟩, q⟩) (by simp only [PyData.shown, PyData.shownKv]; decide)
  have z' : sysModules = b := by simpa using z
  rw [z'] at hsm
  simp at hsm
theorem ev_reprG (bd : Bd c k) (hm : c.X.mg "repr" = none) (h : EvQ c a Γ fun d Γ1 => Shown d ∧ P (.str (shw d)) Γ1) (hg : Gl c.X "repr") (hs : starEach [a] c.X.env = (false, eval a c.X.env) :: starEach [] c.X.env := by rfl) (hpl : (backTo pos (starEach [] c.X.env)).any (·.1) = false := by rfl) : Ev c (.Call (.Name "repr" p) [a] [] pos) Γ P := fun σ H er Q W tk xw q => .mk fun pins s I => by
  have cr : CallR c.X (.builtin "repr") (fun vs H Q => ∃ (M' : Ex) (v : V) (d : D), vs = [v] ∧ Rq M' H v d ∧ Shown d ∧ Q (.str (shw d)) H) := by
    intro pins s σ' H xs us Q I r h
    obtain ⟨M', v, d, rfl, rq, sh, q⟩ := h
    obtain ⟨u, rfl, ru⟩ := vals1 r
    rcases sh with ⟨n, j, rk, hn, hj⟩ | e
    · exact call_repr_data bd.gd bd.hr.units rq rk hn hj I ru q
    · subst e
      obtain ⟨b, xs, rfl, e1, e2⟩ := rq.dic_
      cases e2
      cases ru
      exact call_reprE_data bd.gd bd.hr.units e1 I q
  refine (pe_callB cr hg hm (by decide +kernel) (pa_cons selfE pa_nil hs) (by decide) (by decide) hs hpl).run pins s σ H Q I ?_
  exact h σ H er _ W tk xw fun v d Γ1 H1 g r ⟨sh, hp⟩ => ⟨_, v, d, rfl, r, sh, q _ _ Γ1 H1 g (.str _) hp⟩
theorem sv_mid {st : Stmt} {sts : List Stmt} (N : Ga → Prop) (h1 : S1 c st Γ { R with nx := N }) (h2 : ∀ Γ', N Γ' → Sv c sts Γ' R) : Sv c (st :: sts) Γ R := sv_cons (s1_mono h1 h2 (fun _ h => h) (fun _ h => h) fun _ h => h)
end
/-! ### small items -/
def Small (x : D) : Prop := x.isAd = false ∧ Rk x 700 3
def Smalls (xs : List D) (n : Nat) : Prop := xs.length ≤ n ∧ ∀ x ∈ xs, Small x
theorem mem_cut {α : Type} {x : α} {xs : List α} {lo hi : Option Int} (h : x ∈ cut xs lo hi) : x ∈ xs := List.mem_of_mem_drop (List.mem_of_mem_take h)
theorem cut_le {α : Type} (xs : List α) (lo hi : Option Int) : (cut xs lo hi).length ≤ xs.length := by
  unfold U.cut
  rw [List.length_take, List.length_drop]
  omega
theorem Smalls.cut {xs : List D} {n : Nat} (h : Smalls xs n) (lo hi : Option Int) : Smalls (U.cut xs lo hi) n := ⟨Nat.le_trans (cut_le xs lo hi) h.1, fun x hx => h.2 x (mem_cut hx)⟩
theorem Smalls.app {xs ys : List D} {n m : Nat} (h : Smalls xs n) (h2 : Smalls ys m) : Smalls (xs ++ ys) (n + m) := ⟨by rw [List.length_append]; exact Nat.add_le_add h.1 h2.1, fun x hx => (List.mem_append.mp hx).elim (h.2 x) (h2.2 x)⟩
theorem Smalls.rev {xs : List D} {n : Nat} (h : Smalls xs n) : Smalls xs.reverse n := ⟨by rw [List.length_reverse]; exact h.1, fun x hx => h.2 x (List.mem_reverse.mp hx)⟩
theorem Smalls.one {x : D} (h : Small x) : Smalls [x] 1 := ⟨Nat.le_refl _, fun y hy => by rw [List.mem_singleton.mp hy]; exact h⟩
theorem small_int {i : Int} (h : i.natAbs < 2 ^ 600) : Small (.int i) := ⟨rfl, (rk_int (n := 600) (k := 3) h (by decide) (by decide)).le (by decide) (by decide)⟩
theorem Smalls.ints {ns : List Int} (h : ∀ i ∈ ns, i.natAbs < 2 ^ 600) : Smalls (ns.map D.int) ns.length := ⟨by rw [List.length_map]; exact Nat.le_refl _, fun x hx => by
  obtain ⟨i, hi, rfl⟩ := List.mem_map.mp hx
  exact small_int (h i hi)⟩
theorem Smalls.rka {xs : List D} {n : Nat} (h : Smalls xs n) : RkA xs (702 * n) 3 := by
  have a := rka_all (n := 700) (k := 3) fun d hd => (h.2 d hd).2
  exact ⟨a.pl, a.nd, a.sh, Nat.le_trans a.ln (Nat.mul_le_mul_left _ h.1), a.dp⟩
theorem Smalls.tup {xs : List D} {n : Nat} (h : Smalls xs n) (hn : n ≤ 20000) : Shown (.tup xs) := .inl ⟨_, _, rk_tup h.rka, by omega, by omega⟩
theorem Smalls.lst {xs : List D} {n : Nat} (h : Smalls xs n) (hn : n ≤ 20000) : Shown (.lst xs) := .inl ⟨_, _, rk_lst h.rka, by omega, by omega⟩
theorem Small.shown {x : D} (h : Small x) : Shown x := .inl ⟨_, _, h.2, by omega, by omega⟩
/-- what a value may be -/
structure Good (d : D) : Prop where
  na : d.isAd = false
  it : ∀ xs, d = .tup xs → ∀ x ∈ xs, x.isAd = false
  sh : Shown d
theorem Smalls.gtup {xs : List D} {n : Nat} (h : Smalls xs n) (hn : n ≤ 20000) : Good (.tup xs) := ⟨rfl, fun ys e x hx => by cases e; exact (h.2 x hx).1, h.tup hn⟩
theorem Smalls.glst {xs : List D} {n : Nat} (h : Smalls xs n) (hn : n ≤ 20000) : Good (.lst xs) := ⟨rfl, fun ys e x hx => (by cases e), h.lst hn⟩
end U
/-! U18: the text of a tuple of ints, itself told again. -/
namespace U
open PySem PySem.Spec PyProof.Rows L2
theorem shw_tup_low (ns : List Int) : ∀ c ∈ (shw (.tup (ns.map D.int))).cps.toList, c < 16 ^ 8 := fun c hc => by
  by_cases hlt : c < 100
  · exact Nat.lt_trans hlt (by decide)
  · exfalso
    simp only [shw, toPy] at hc
    rw [toPyA_ints, PyData.shown_tuple, mem_cps_append, mem_cps_append, signs_lparen, mem_join, signs_tuple_end] at hc
    rcases hc with (hm | (⟨t, ht, hc⟩ | ⟨_, hm⟩)) | hm
    · have := List.mem_singleton.mp hm
      omega
    · refine shownAll_free (xs := ns.map PyData.int) (k := c) (fun x hx => ?_) t ht hc
      obtain ⟨n, _, rfl⟩ := List.mem_map.mp hx
      exact shown_int_free' ⟨by omega, by omega⟩ n
    · rw [signs_sep] at hm
      simp only [List.mem_cons, List.not_mem_nil, or_false] at hm
      omega
    · split at hm
      all_goals
        simp only [List.mem_cons, List.not_mem_nil, or_false] at hm
        omega
theorem shown_str_tup {ns : List Int} {n j : Nat} (h : Rk (.tup (ns.map D.int)) n j) (hn : 10 * n + 2 ≤ 16777216) : Shown (.str (shw (.tup (ns.map D.int)))) :=
  .inl ⟨_, 3, (rk_str (k := 3) (shw_tup_low ns)).le (Nat.le_refl _) (Nat.le_refl 3), Nat.le_trans (show 10 * (shw (.tup (ns.map D.int))).length + 2 ≤ 10 * n + 2 from by have z : (shw (.tup (ns.map D.int))).length ≤ n := h.ln; omega) hn, by omega⟩
end U
/-! U19: x = [elt for tg in iter if ..] on one line. -/
namespace U
open PySem PySem.Spec PyProof.Rows L2
section
variable {c : Co} {k : Nat} {Γ : Ga} {R : Oc} {pos : Pos}
theorem lc_reads {P : D → Ga → Prop} {elt tg iter : Expr} {ifs : List Expr} {scope : Scope} (own : List (Str × Nat)) (bd : Bd c k)
    (h : Iv c tg iter Γ fun xs Γ1 => ∃ I : Nat → List D → Prop, I 0 [] ∧ xs.length ≤ 1000000 ∧ (∀ m ∈ own.map (·.2), ∀ s, Γ1[m]? = some s → s.mine = false) ∧
      (∀ i x acc, xs[i]? = some x → I i acc → acc.length ≤ i → ∀ (Dl : Addr) (s : Shared) (H : Hw) (C : Addr) (cl : List (Str × Addr)) (fp : List Addr), Gw (c.inner s H scope C cl fp Dl) (own.map (·.2)) tg (unset (own.map (·.2)) Γ1) x fun Γ2 =>
        ∀ (s : Shared) (H : Hw) (C : Addr) (cl : List (Str × Addr)) (fp : List Addr), Fv (c.inner s H scope C cl fp Dl) ifs Γ2 fun b Γ3 => Γ3 = Γ2 ∧ (b = true →
          ∀ (s : Shared) (H : Hw) (C : Addr) (cl : List (Str × Addr)) (fp : List Addr), Ev (c.inner s H scope C cl fp Dl) elt Γ2 fun y Γ4 => Γ4 = Γ2 ∧ I (i + 1) (acc ++ [y])) ∧ (b = false → I (i + 1) acc)) ∧
      ∀ acc, I xs.length acc → P (.lst acc) Γ1)
    {σ : Sw} {H : Hw} (er : ER c.U c.M H σ Γ) {Q : VK} {W : WX} (tk : Takes c.X W) (xw : XW c σ Γ H W) (q : ∀ v d Γ' H', Go c σ Γ H Γ' H' → Rp (Mx c.M σ Γ') H' v d → P d Γ' → Q v H') :
    tLc (wpI c.X tg iter) (wpGX c.X scope tg) (wpFX c.X scope ifs) (wpEX c.X scope elt) (own.map (·.2)) σ H Q := by
  refine h σ H er _ W tk xw fun J xs Γ1 H1 g src ⟨I, h0, hl, hm, ht, hd⟩ Dl hD => ?_
  refine lc_data (P := fun acc => P (.lst acc) Γ1) g.er src hD h0 hl (fun i x acc hx hI al => ht i x acc hx hI al Dl) fun accV acc H2 md hI => ?_
  have st : Step c.U σ Γ1 H1 σ Γ1 H2 := ⟨md.pres, fun a z => .inl z⟩
  have ge : Goes (Mx c.M σ Γ1) (Mx c.M σ Γ1) H1 H2 := st.goes g.er
  have down : ∀ a, Ow σ Γ1 a → Ow (wipe σ (own.map (·.2))) (unset (own.map (·.2)) Γ1) a := fun a ⟨i, s, h1, h2, h3⟩ => by
    by_cases hi : i ∈ own.map (·.2)
    · rw [hm i hi s h1] at h2
      cases h2
    · exact ⟨i, s, by rw [unset_off hi]; exact h1, h2, by rw [wipe_off hi]; exact h3⟩
  have gd : Goes (Mx (fun a => c.M a ∨ a = Dl) (wipe σ (own.map (·.2))) (unset (own.map (·.2)) Γ1)) (Mx c.M σ Γ1) H2 H2 := ⟨fun a o m e => ⟨e, fun z => m (z.elim (fun y => .inl (.inl y)) fun y => .inr (down a y))⟩⟩
  have er2 : ER c.U c.M H2 σ Γ1 := by
    refine ER.of g.er.tm (fun a m => md.er.kn a (.inl m)) md.er.j g.er.len (fun i d h => ?_) (fun i s h m => ?_) g.er.sep
    · obtain ⟨v, h1, h2⟩ := g.er.dat i d h
      exact ⟨v, h1, Rp.to ge _ _ h2⟩
    · have hi : i ∉ own.map (·.2) := fun z => by rw [hm i z s h] at m; cases m
      obtain ⟨a, o, h1, h2, h3, h4⟩ := md.er.ob (i := i) (s := s) (by rw [unset_off hi]; exact h) m
      rw [wipe_off hi] at h1
      exact ⟨a, o, h1, h2, fun z => h3 (.inl z), h4.to gd⟩
  have nm : ¬ Mx c.M σ Γ1 Dl := fun z => g.er.mx Dl z hD
  exact q _ _ Γ1 H2 (g.trans ⟨st, rfl, er2⟩) (.lst md.dl nm (RpA.to gd _ _ md.ra)) (hd acc hI)

theorem s1_setLc {elt tg iter : Expr} {ifs : List Expr} {scope : Scope} {y : Str} {py spos : Pos} (own : List (Str × Nat)) (bd : Bd c k) (j : Nat) (hy : c.X.N[j]? = some y) (hyl : c.X.env.scope.names.lookup y = some .local) (hj : j < Γ.length) (ok : BlkOk c.X.N c.X.env.scope scope own)
    (h : Iv c tg iter Γ fun xs Γ1 => ∃ I : Nat → List D → Prop, I 0 [] ∧ xs.length ≤ 1000000 ∧ (∀ m ∈ own.map (·.2), ∀ s, Γ1[m]? = some s → s.mine = false) ∧
      (∀ i x acc, xs[i]? = some x → I i acc → acc.length ≤ i → ∀ (Dl : Addr) (s : Shared) (H : Hw) (C : Addr) (cl : List (Str × Addr)) (fp : List Addr), Gw (c.inner s H scope C cl fp Dl) (own.map (·.2)) tg (unset (own.map (·.2)) Γ1) x fun Γ2 =>
        ∀ (s : Shared) (H : Hw) (C : Addr) (cl : List (Str × Addr)) (fp : List Addr), Fv (c.inner s H scope C cl fp Dl) ifs Γ2 fun b Γ3 => Γ3 = Γ2 ∧ (b = true →
          ∀ (s : Shared) (H : Hw) (C : Addr) (cl : List (Str × Addr)) (fp : List Addr), Ev (c.inner s H scope C cl fp Dl) elt Γ2 fun y Γ4 => Γ4 = Γ2 ∧ I (i + 1) (acc ++ [y])) ∧ (b = false → I (i + 1) acc)) ∧
      ∀ acc, I xs.length acc → R.nx (Γ1.set j (.dat (.lst acc))))
    (hsw : swapsWith (.ListComp elt [⟨tg, iter, ifs, 0⟩] scope pos) (some (.Name y py)) spos.line c.X.env = pure true) (hs : ∀ x, foldedSetIterable iter c.X.env x = pure x := by intro _; rfl) :
    S1 c (.Assign [.Name y py] (.ListComp elt [⟨tg, iter, ifs, 0⟩] scope pos) spos) Γ R := fun σ H er W Dd tk k => by
  refine outS (ps_setLc (own := own) (g := wpGX c.X scope tg) (tt := wpFX c.X scope ifs) (te := wpEX c.X scope elt) bd.calm bd.nd hy hyl hsw selfI ok (fun s H C cl fp => ⟨fun pins s' σ H' v u Q I r h => (h s H C cl fp).run pins s' u I r⟩)
    (fun s H C cl fp => ⟨fun pins s' σ H' Q I h => selfF.run pins s' σ H' Q I (h s H C cl fp)⟩) (fun s H C cl fp => ⟨fun pins s' σ H' Q I h => (h s H C cl fp).run pins s' I⟩) hs) ?_
  exact lc_reads (P := fun d Γ1 => R.nx (Γ1.set j (.dat d))) own bd h er tk k.xw fun v d Γ1 H1 g p hp => k.nx _ _ _ (g.st.trans g.er (step_set j)) (g.er.set j p (by rw [g.length]; exact hj)) hp
theorem s1_setLcR {elt tg iter : Expr} {scope : Scope} {y : Str} {py spos : Pos} (own : List (Str × Nat)) (bd : Bd c k) (j : Nat) (hy : c.X.N[j]? = some y) (hyl : c.X.env.scope.names.lookup y = some .local) (hj : j < Γ.length) (ok : BlkOk c.X.N c.X.env.scope scope own)
    (h : Iv c tg iter Γ fun xs Γ1 => xs.length ≤ 1000000 ∧ (∀ m ∈ own.map (·.2), ∀ s, Γ1[m]? = some s → s.mine = false) ∧ ∃ Rl : D → D → Prop,
      (∀ x ∈ xs, ∀ (Dl : Addr) (s : Shared) (H : Hw) (C : Addr) (cl : List (Str × Addr)) (fp : List Addr), Gw (c.inner s H scope C cl fp Dl) (own.map (·.2)) tg (unset (own.map (·.2)) Γ1) x fun Γ2 =>
        ∀ (s : Shared) (H : Hw) (C : Addr) (cl : List (Str × Addr)) (fp : List Addr), Bd (c.inner s H scope C cl fp Dl) k → Ev (c.inner s H scope C cl fp Dl) elt Γ2 fun y Γ4 => Γ4 = Γ2 ∧ Rl x y) ∧
      ∀ ys, All2 Rl xs ys → R.nx (Γ1.set j (.dat (.lst ys))))
    (hsw : swapsWith (.ListComp elt [⟨tg, iter, [], 0⟩] scope pos) (some (.Name y py)) spos.line c.X.env = pure true) (hs : ∀ x, foldedSetIterable iter c.X.env x = pure x := by intro _; rfl) :
    S1 c (.Assign [.Name y py] (.ListComp elt [⟨tg, iter, [], 0⟩] scope pos) spos) Γ R := by
  refine s1_setLc own bd j hy hyl hj ok (fun σ H er R' W tk xw q => h σ H er R' W tk xw fun J xs Γ' H' g src hp => q J xs Γ' H' g src ?_) hsw hs
  obtain ⟨hl, hm, Rl, ht, hd⟩ := hp
  refine ⟨fun i acc => All2 Rl (xs.take i) acc, (show All2 Rl (xs.take 0) [] from by rw [List.take_zero]; exact .nil), hl, hm, fun i x acc hx hI al Dl s H C cl fp => ?_, fun acc hI => hd acc (by have z : All2 Rl (xs.take xs.length) acc := hI; rw [List.take_length] at z; exact z)⟩
  have z := ht x (List.mem_of_getElem? hx) Dl s H C cl fp
  intro σ1 H1 v1 er1 p1 Q1 q1
  refine z σ1 H1 v1 er1 p1 Q1 fun σ' Γ' e1 e2 st er' hE => q1 σ' Γ' e1 e2 st er' ?_
  intro s2 H2 C2 cl2 fp2
  refine .inl ⟨rfl, rfl, fun _ s3 H3 C3 cl3 fp3 => ?_, fun z => by cases z⟩
  refine ev_mono (hE s3 H3 C3 cl3 fp3 (bd.inner s3 H3 scope C3 cl3 fp3 Dl)) fun y Γ4 ⟨e4, r⟩ => ⟨e4, ?_⟩
  show All2 Rl (xs.take (i + 1)) (acc ++ [y])
  rw [List.take_succ, hx]
  exact All2.snoc r hI
end
end U
/-! U20: a call at the values' level; where defs stand; enumerate's items. -/
namespace U
open PySem PySem.Spec PyProof.Rows L2
theorem wpE_call {X : Cx} {W : WX} {x : Str} {f : Addr} {fd : FuncData} {ps : List Str} {j k : Nat} {sp : Sp} {e : Expr} {es : List Expr} {p pos : Pos} {σ : L2.St} {H : Hw} {Q : VK} (tk : Takes X W) (F : FnG X.prog X.w X.K X.mg X.base j f fd ps sp) (hr : Room k X.A) (gd : X.A.guards = some []) (hj : j ≤ k)
    (hm : X.mg x = some (.ref f)) (hk : PySem.W.keepIn X.K (.ref f) = true) (hb : Binds X.K fd ps []) (hg : Gl X x) (h : wpA X (e :: es) σ H fun vs H1 => sp vs H1 Q fun cls d H' => W cls d σ H')
    (hdb : (x == ("__debug__" : Str)) = false := by decide) (he : starEach (e :: es) X.env = (false, eval e X.env) :: starEach es X.env := by rfl) (hpl : (backTo pos (starEach es X.env)).any (·.1) = false := by rfl) : wpE X (.Call (.Name x p) (e :: es) [] pos) σ H Q := .mk fun pins s I => by
  refine wpAny_Call_Name_kw (ld_glob I hg hm ?_ hdb)
  refine PySem.W.callWith_K (h₀ := X.base) I.ok.mod.kin hk (thn (h.run pos pins s I) fun us s1 ⟨vs, H1, I1, rv, hS⟩ => ⟨I1.kIn, ?_⟩) he hpl
  have hl : us.length = ps.length := by
    rw [← rv.length]
    exact F.len vs H1 _ _ hS
  have hb1 := hb s1 us I1.kIn (by rw [List.append_nil]; exact hl)
  rw [List.append_nil] at hb1
  refine wpAny_call (codeAny_mono (F.run X.A X.stack s1 H1 ⟨us, []⟩ us vs Q _ (hr.mono hj) gd I1.env0 hb1 rv hS) fun r s' hq => ?_)
  cases r with
  | error e => exact tk e s' (XE.of_call I1 (fun _ _ _ h => h) hq)
  | ok fl =>
    cases fl with
    | ret u => exact I1.after hq
    | next => exact False.elim hq
    | brk => exact False.elim hq
    | cont => exact False.elim hq
theorem sv_run {c : Co} {sts : List Stmt} {Γ : Ga} {R : Oc} {σ : Sw} {H : Hw} {W : WX} {Dd : Ends} (h : Sv c sts Γ R) (er : ER c.U c.M H σ Γ) (tk : Takes c.X W) (k : Ends' c σ Γ H R W Dd) : wpB c.X sts Dd σ H := h σ H er W Dd tk k
theorem at_mk {K : PySem.W.Frag} {h : Heap} {mg : Str → Option Value} (X : K.In h) (G : h.Ns mainGlobals mg) {x : Str} {st : Stmt} {f : Addr} {od an : Option Addr} {sl : Array (Option Value)} {oc kV dc pm cd ct : Value}
    (a : PySem.W.nsIn K mainGlobals x = some (some (.ref f))) (l : K.lookup f = some ⟨oc, od, .func (PySem.W.fnOf x x (defArgs st) (defBody st) (defScope st) .none kV dc pm an cd ct), sl⟩) (c : PySem.W.codeIn K cd x = true) (k : PySem.W.keepIn K (.ref f) = true) : At K mg x st := ⟨f, _, fun_mk (st := st) l c k, PySem.W.mg_of X G a⟩
theorem enumD_inv {xs : List D} {i : Nat} {x : D} (h : (enumD xs)[i]? = some x) : ∃ v, xs[i]? = some v ∧ x = .tup [.int (i : Nat), v] := by
  have hi : i < xs.length := by
    have z := (List.getElem?_eq_some_iff.mp h).1
    rw [enumD_length] at z
    exact z
  rw [enumD_at (List.getElem?_eq_getElem hi)] at h
  exact ⟨_, List.getElem?_eq_getElem hi, (Option.some.inj h).symm⟩
/-- an environment of plain data and of nothing -/
theorem er_plain {U : Vol} {M : Ex} {H : Hw} {σ : Sw} {Γ : Ga} (tm : ∀ a, U.T a → M a) (kn : ∀ a, M a → H a ≠ none) (j : U.J H) (len : σ.length = Γ.length) (nm : ∀ (i : Nat) (s : Sl), Γ[i]? = some s → s.mine = false)
    (dat : ∀ (i : Nat) (d : D), Γ[i]? = some (.dat d) → ∃ v, σ[i]? = some (some v) ∧ Rp (Mx M σ Γ) H v d) : ER U M H σ Γ :=
  ⟨tm, kn, j, len, dat, fun i ds h => (by have z := nm i _ h; cases z), fun i ds h => (by have z := nm i _ h; cases z), fun i j s t a h1 _ m1 _ _ _ => by rw [nm i s h1] at m1; cases m1⟩
end U
namespace K10
open PySem PySem.Spec PyProof.Rows L2 U
def topS (i : Nat) : Stmt := PySem.Challenge.pw_unpassed_k10_turns_and_heights.main.body.getD i (.Pass ⟨0, 0, 0, 0⟩)
abbrev sTake : Stmt := topS 9
theorem scTake : FnScope ["urn", "many", "whole", "state"] ["urn", "many"] (defScope sTake) := ⟨rfl, rfl, rfl, by decide +kernel, rfl, by decide +kernel, by decide +kernel⟩
abbrev sUrn : Stmt := topS 8
theorem scUrn : FnScope ["script", "urn", "cell", "own"] ["script"] (defScope sUrn) := ⟨rfl, rfl, rfl, by decide +kernel, rfl, by decide +kernel, by decide +kernel⟩
abbrev kDeep : L2.Key := .inr "deep"
abbrev kState : L2.Key := .inr "state"
def UJ (u dp : Addr) (H : Hw) : Prop := ∃ (ws : List Int) (st : Int), H u = some (.dK [(kDeep, .ref dp), (kState, .int st)]) ∧ H dp = some (.lst (ws.map V.int)) ∧ ws.length ≤ 100
def urnVol (u dp : Addr) : Vol where
  T := fun a => a = u ∨ a = dp
  J := UJ u dp
  keep := fun ⟨ws, st, h1, h2, h3⟩ k => ⟨ws, st, by rw [k u (.inl rfl)]; exact h1, by rw [k dp (.inr rfl)]; exact h2, h3⟩
  known := fun ⟨ws, st, h1, h2, h3⟩ t => by
    rcases t with rfl | rfl
    · rw [h1]; simp
    · rw [h2]; simp
def spTake (u : Addr) : Fs := fun ds P _ => ∃ m : Int, ds = [.ad u, .int m] ∧ m < 2 ^ 200 ∧ ∀ r : Int, 0 ≤ r → r < max 1 m → P (.int r)
theorem kNe : ¬ kDeep = kState := by decide
theorem vDeep {dp : Addr} {st : Int} : valV [(kDeep, V.ref dp), (kState, V.int st)] kDeep = some (.ref dp) := valV_pos rfl
theorem vState {dp : Addr} {st : Int} : valV [(kDeep, V.ref dp), (kState, V.int st)] kState = some (.int st) := (valV_neg kNe).trans (valV_pos rfl)
theorem pState {dp : Addr} {st n : Int} : putK [(kDeep, V.ref dp), (kState, V.int st)] kState (.int n) = [(kDeep, V.ref dp), (kState, V.int n)] := by
  unfold putK
  rw [if_pos (by simp)]
  show [if kDeep = kState then (kDeep, V.int n) else (kDeep, V.ref dp), if kState = kState then (kState, V.int n) else (kState, V.int st)] = _
  rw [if_neg kNe, if_pos rfl]
section
variable {P : Program} {w : World} {K : PySem.W.Frag} {mg : Str → Option Value} {base : Heap} {u dp : Addr}
theorem ok_take (F : At K mg "_law_take" sTake) (mI : mg "int" = none) : Df P w K mg base "_law_take" sTake 1 2 ["urn", "many"] (urnVol u dp) (spTake u) := by
  obtain ⟨f, fd, F, hm⟩ := F
  refine ⟨⟨f, fd, F, hm, ?_⟩, fun f fd F => F.binds fun _ _ _ _ _ _ us hl => match us, hl with | [_, _], _ => rfl⟩
  obtain ⟨oc, od, kV, doc, pm, an, cdv, ct, osl, rfl, lk, hcd⟩ := F.ex
  refine fn_ofG (k := 0) lk hcd scTake (fun vs H Q E ⟨M, ds, _, _, _, _, _, r, e, _⟩ => by rw [r.length, e]; rfl) fun A outer s H vs Q E hr hgd hsp => ?_
  obtain ⟨M, ds, Pd, X, tm, kn, j, r, e, ⟨m, rfl, hm2, hS⟩, q, qx⟩ := hsp
  cases r with
  | cons r1 r =>
    cases r with
    | cons r2 r =>
      cases r
      cases r1
      cases r2
      have hu := hu_of hr
      have h64 := hr.units
      have nd := scTake.nd
      refine outB (pss_cons (ps_if (pt_cmpR op_lt (pv 1) pe_int (nomark _)) (pss_one (ps_ret pe_int)) pss_nil)
        (pss_cons (ps_if (pt_cmpR (op_neD h64) (pe_dget hu (pv 0) pe_str (fun _ _ => rfl)) (pe_lst pa_nil) (nomark _))
          (pss_cons (ps_set (i := 2) nd rfl (Or.inl rfl) (pe_bm0 PySem.F.plainAttrs_list PySem.F.slot_list_pop PySem.F.type_list_pop mt_pop (pe_dget hu (pv 0) pe_str (fun _ _ => rfl))))
            (pss_cons (ps_if (pt_cmpR op_ge (pv 2) (pv 1) (nomark _)) (pss_one (ps_expr (pe_bm PySem.F.plainAttrs_list PySem.F.slot_list_append PySem.F.type_list_append mt_append (pe_dget hu (pv 0) pe_str (fun _ _ => rfl)) (pa_cons (pe_op op_fdivW (pv 2) (pv 1)) pa_nil)))) pss_nil)
              (pss_one (ps_ret (pe_op op_mod (pe_callTy call_int1 rfl mI (by decide +kernel) (pa_cons (pv 2) pa_nil)) (pv 1))))))
          pss_nil)
        (pss_cons (ps_set (i := 3) nd rfl (Or.inl rfl) (pe_op op_mod (pe_callTy call_int1 rfl mI (by decide +kernel) (pa_cons (pe_op op_add (pe_op op_mul (pe_dget hu (pv 0) pe_str (fun _ _ => rfl)) pe_int) pe_int) pa_nil)) pe_int))
        (pss_cons (ps_dput hu (pv 0) pe_str (pv 3) rfl)
        (pss_one (ps_ret (pe_op op_mod (pe_callTy call_int1 rfl mI (by decide +kernel) (pa_cons (pe_op op_fdivW (pe_op op_mod (pe_callTy call_int1 rfl mI (by decide +kernel) (pa_cons (pe_op op_add (pe_op op_mul (pv 3) (pv 3)) (pe_op op_mul pe_int (pv 3))) pa_nil)) pe_int) pe_int) pa_nil)) (pv 1)))))))) ?_
      obtain ⟨ws, st, h1, h2, h3⟩ := j
      have ne : dp ≠ u := fun z => by rw [z, h1] at h2; cases h2
      have gDeep : ∀ {H : Hw} {st : Int}, H u = some (.dK [(kDeep, .ref dp), (kState, .int st)]) → DGet H u (.str "deep") (some (.ref dp)) := fun h => by
        have z := DGet.k (k := kDeep) h
        rw [vDeep] at z
        exact z
      have gState : ∀ {H : Hw} {st : Int}, H u = some (.dK [(kDeep, .ref dp), (kState, .int st)]) → DGet H u (.str "state") (some (.int st)) := fun h => by
        have z := DGet.k (k := kState) h
        rw [vState] at z
        exact z
      refine ⟨.int m, rfl, m, 2, rfl, rfl, _, rfl, ?_⟩
      by_cases hm : m < 2
      · rw [decide_eq_true hm]
        refine iteT ?_
        exact q _ (.int 0) H (fun _ _ _ e => e) ⟨ws, st, h1, h2, h3⟩ (.int _) (hS 0 (by omega) (by omega))
      · rw [decide_eq_false hm]
        refine iteF ?_
        have m0 : (0 : Int) < m := by omega
        refine ⟨.ref u, rfl, u, .ref dp, rfl, gDeep h1, by decide, fun l hl => ?_⟩
        have g : Grow H (upd H l (.lst [])) := Grow.new hl
        refine ⟨.list (ws.map PyData.int), .list [], .lst (sql_of (g _ _ h2)) (dpa_ints ws), .lst (sql_of upd_same) .nil, PySem.W.shaped_ints ws, PySem.W.shaped_ints [], _, rfl, ?_⟩
        have ev := eqv_lint ws []
        rw [List.map_nil] at ev
        rw [ev]
        have fl : ∀ {x : Addr}, H x ≠ none → x ≠ l := fun h z => h (by rw [z]; exact hl)
        by_cases hw : ws = []
        · rw [decide_eq_true hw]
          refine iteF ?_
          refine ⟨.ref u, rfl, u, .int st, rfl, gState (g _ _ h1), st, 2862933555777941757, rfl, rfl, .inr ⟨by decide, by decide⟩, _, _, rfl, rfl, .inl ⟨_, rfl, _, _, rfl, rfl, (show (0 : Int) < 2305843009213693951 by decide), ?_⟩⟩
          have b0 : 0 ≤ (st * 2862933555777941757 + 3037000493) % 2305843009213693951 := Int.emod_nonneg _ (by decide)
          have b1 : (st * 2862933555777941757 + 3037000493) % 2305843009213693951 < 2305843009213693951 := Int.emod_lt_of_pos _ (by decide)
          refine ⟨_, rfl, .ref u, rfl, u, _, rfl, DPut.k (k := kState) (g _ _ h1) (show 2 < sizeLine by decide), ?_⟩
          refine ⟨_, rfl, _, rfl, _, _, rfl, rfl, .inl ⟨Int.lt_of_lt_of_le (by decide) b0, Int.lt_trans b1 (by decide)⟩, _, rfl, 362436069, _, rfl, rfl, .inl ⟨by decide, by decide⟩, _, _, rfl, rfl, .inl ⟨_, rfl, _, _, rfl, rfl, (show (0 : Int) < 2305843009213693921 by decide), _, _, rfl, rfl, (show (0 : Int) < 4194304 ∧ (4194304 : Int).natAbs.log2 < 9000 from ⟨by decide, by decide⟩), .inl ⟨_, rfl, .int m, rfl, _, m, rfl, rfl, m0, ?_⟩⟩⟩
          rw [pState]
          refine q _ (.int _) _ (fun a o t e => ?_) ⟨ws, _, upd_same, ?_, h3⟩ (.int _) (hS _ (Int.emod_nonneg _ (by omega)) (Int.lt_of_lt_of_le (Int.emod_lt_of_pos _ m0) (by omega)))
          · rw [upd_ne fun z => t (.inl z)]
            exact g _ _ e
          · rw [upd_ne ne]
            exact g _ _ h2
        · rw [decide_eq_false hw]
          refine iteT ?_
          obtain ⟨ws0, wl, rfl⟩ : ∃ a b, ws = a ++ [b] := by
            rcases List.eq_nil_or_concat ws with h | ⟨a, b, h⟩
            · exact absurd h hw
            · exact ⟨a, b, by simpa using h⟩
          have hlast : ((ws0 ++ [wl]).map V.int)[((ws0 ++ [wl]).map V.int).length - 1]? = some (.int wl) := by simp
          have hdrop : ((ws0 ++ [wl]).map V.int).dropLast = ws0.map V.int := by simp
          have hlen : ws0.length + 1 ≤ 100 := by simpa using h3
          refine ⟨.ref u, rfl, u, .ref dp, rfl, gDeep (g _ _ h1), .inl ⟨rfl, _, sql_of (g _ _ h2)⟩, dp, _, _, rfl, rfl, g _ _ h2, hlast, ?_⟩
          rw [hdrop]
          have fr2 : ∀ a o, ¬ (urnVol u dp).T a → H a = some o → (upd (upd H l (.lst [])) dp (.lst (ws0.map V.int))) a = some o := fun a o t e => by
            rw [upd_ne fun z => t (.inr z)]
            exact g _ _ e
          have hu2 : (upd (upd H l (.lst [])) dp (.lst (ws0.map V.int))) u = some (.dK [(kDeep, .ref dp), (kState, .int st)]) := by
            rw [upd_ne fun z => ne z.symm]
            exact g _ _ h1
          refine ⟨.int wl, rfl, .int m, rfl, wl, m, rfl, rfl, _, rfl, ?_⟩
          by_cases hge : m ≤ wl
          · rw [decide_eq_true hge]
            refine iteT ?_
            refine ⟨.ref u, rfl, u, .ref dp, rfl, gDeep hu2, .inl ⟨rfl, _, sql_of upd_same⟩, .int wl, rfl, .int m, rfl, wl, m, rfl, rfl, wide_div m0 (b := 200) (by omega) (by decide) (by decide), dp, _, _, rfl, rfl, upd_same, ?_, ?_⟩
            · rw [List.length_map]
              exact szlt (by omega)
            · refine ⟨.int wl, rfl, .inl ⟨_, rfl, .int m, rfl, _, m, rfl, rfl, m0, ?_⟩⟩
              refine q _ (.int _) _ (fun a o t e => ?_) ⟨ws0 ++ [wl / m], st, ?_, ?_, by simp; omega⟩ (.int _) (hS _ (Int.emod_nonneg _ (by omega)) (Int.lt_of_lt_of_le (Int.emod_lt_of_pos _ m0) (by omega)))
              · rw [upd_ne fun z => t (.inr z)]
                exact fr2 a o t e
              · rw [upd_ne fun z => ne z.symm]
                exact hu2
              · rw [upd_same, List.map_append]
                rfl
          · rw [decide_eq_false hge]
            refine iteF ?_
            refine ⟨.int wl, rfl, .inl ⟨_, rfl, .int m, rfl, _, m, rfl, rfl, m0, ?_⟩⟩
            exact q _ (.int _) _ fr2 ⟨ws0, st, hu2, upd_same, by omega⟩ (.int _) (hS _ (Int.emod_nonneg _ (by omega)) (Int.lt_of_lt_of_le (Int.emod_lt_of_pos _ m0) (by omega)))
end
end K10
namespace K10
open PySem PySem.Spec PyProof.Rows L2 U
section
variable {P : Program} {w : World} {K : PySem.W.Frag} {mg : Str → Option Value} {base : Heap} {u dp : Addr}
theorem gDeep {H : Hw} {u dp : Addr} {st : Int} (h : H u = some (.dK [(kDeep, .ref dp), (kState, .int st)])) : DGet H u (.str "deep") (some (.ref dp)) := by
  have z := DGet.k (k := kDeep) h
  rw [vDeep] at z
  exact z
theorem gState {H : Hw} {u dp : Addr} {st : Int} (h : H u = some (.dK [(kDeep, .ref dp), (kState, .int st)])) : DGet H u (.str "state") (some (.int st)) := by
  have z := DGet.k (k := kState) h
  rw [vState] at z
  exact z
theorem cut_ints (ns : List Int) (lo hi : Option Int) : cutV (ns.map V.int) lo hi = (cut ns lo hi).map V.int := by
  unfold cutV U.cut
  rw [List.length_map, List.map_take, List.map_drop]
theorem cut_len {α : Type} (xs : List α) (lo hi : Option Int) : (cut xs lo hi).length ≤ xs.length := by
  unfold U.cut
  rw [List.length_take, List.length_drop]
  omega
def spUrn (K : PySem.W.Frag) : Sp := fun vs H Q _ => ∃ (a : Addr) (ns : List Int), vs = [V.ref a] ∧ SqL K H a (ns.map V.int) ∧ ns.length ≤ 63 ∧ ∀ u dp H', H u = none → H dp = none → Grow H H' → UJ u dp H' → Q (.ref u) H'
theorem sqlGrow {H H' : Hw} {a : Addr} {xs : List V} (g : Grow H H') : SqL K H a xs → SqL K H' a xs
  | .inl (.inl h) => .inl (.inl (g _ _ h))
  | .inl (.inr ⟨o, h⟩) => .inl (.inr ⟨o, g _ _ h⟩)
  | .inr h => .inr h
theorem mDeep {l : Addr} {n : Int} : mergeK [] [(kDeep, V.ref l), (kState, V.int n)] = [(kDeep, V.ref l), (kState, V.int n)] := by
  show putK (putK [] kDeep (V.ref l)) kState (V.int n) = _
  have a : putK ([] : List (L2.Key × V)) kDeep (V.ref l) = [(kDeep, V.ref l)] := rfl
  rw [a]
  unfold putK
  rw [if_neg (by simp; decide)]
  rfl
/-- at the loop's turns -/
structure UI (H0 : Hw) (a p q : Addr) (ms : List Int) (i : Nat) (σ : L2.St) (H : Hw) : Prop where
  sl : ∃ y2 y3, σ = [some (.ref a), some (.ref p), y2, y3]
  ex : ∃ (dp : Addr) (ws : List Int) (st : Int), H p = some (.dK [(kDeep, .ref dp), (kState, .int st)]) ∧ H dp = some (.lst (ws.map V.int)) ∧ ws.length ≤ i ∧ H0 dp = none ∧ dp ≠ q
  pn : H0 p = none
  qn : H0 q = none
  hq : H q = some (.lst (ms.map V.int))
  gr : Grow H0 H
theorem ok_urn (F : At K mg "_law_urn" sUrn) (mI : mg "int" = none) (mL : mg "len" = none) (mA : mg "abs" = none) : ∃ f fd, Fun K "_law_urn" "_law_urn" sUrn f fd ∧ mg "_law_urn" = some (.ref f) ∧ Binds K fd ["script"] [] ∧ FnG P w K mg base 1 f fd ["script"] (spUrn K) := by
  obtain ⟨f, fd, F, hm⟩ := F
  refine ⟨f, fd, F, hm, F.binds fun _ _ _ _ _ _ us hl => match us, hl with | [_], _ => rfl, ?_⟩
  obtain ⟨oc, od, kV, doc, pm, an, cdv, ct, osl, rfl, lk, hcd⟩ := F.ex
  refine fn_ofG (k := 0) lk hcd scUrn (fun vs H Q E ⟨a, ns, e, _⟩ => by rw [e]; rfl) fun A outer s H vs Q E hr hgd hsp => ?_
  obtain ⟨a, ns, rfl, hS, hl, q⟩ := hsp
  have hu := hu_of hr
  have nd := scUrn.nd
  refine vb_cons (outS (ps_set (i := 1) nd rfl (Or.inl rfl) (pe_disp (pps_cons pe_str (pe_lst pa_nil) (pps_cons pe_str (pe_op op_add pe_int (pe_callB call_len rfl mL PySem.boot_len (pa_cons (pe_slice sl_list (pv 0) po_none (po_some pe_int)) pa_nil))) pps_nil)) rfl rfl (fun z => by cases z) (by decide))) ?_)
  refine fun p hp => ⟨by decide, fun l hl' => ?_⟩
  have g1 : Grow H (upd H p (.dK [])) := Grow.new hp
  have g2 : Grow H (upd (upd H p (.dK [])) l (.lst [])) := g1.trans (Grow.new hl')
  have pl : p ≠ l := fun z => by rw [← z, upd_same] at hl'; cases hl'
  have lN : H l = none := by rw [upd_ne fun z => pl z.symm] at hl'; exact hl'
  refine ⟨.ref a, rfl, 63, rfl, a, _, rfl, sqlGrow g2 hS, fun q0 hq0 => ?_⟩
  have g3 := g2.trans (Grow.new (o := .lst (cutV (ns.map V.int) none (some 63))) hq0)
  have pq : p ≠ q0 := fun z => by rw [← z, upd_ne pl, upd_same] at hq0; cases hq0
  have lq : l ≠ q0 := fun z => by rw [← z, upd_same] at hq0; cases hq0
  refine ⟨_, _, rfl, .inl ⟨_, sql_of upd_same, rfl⟩, 190871, _, rfl, rfl, ?_, [(kDeep, .ref l), (kState, .int _)], rfl, (show 2 ≤ 15 by decide), ?_⟩
  · rw [upd_ne pq, upd_ne pl, upd_same]
  rw [mDeep]
  have g4 : Grow H (upd (upd (upd (upd H p (.dK [])) l (.lst [])) q0 (.lst (cutV (ns.map V.int) none (some 63)))) p (.dK [(kDeep, .ref l), (kState, .int (190871 + (cutV (ns.map V.int) none (some 63)).length))])) := fun b o e => by
    rw [upd_ne (ne_of_none e hp)]
    exact g3 b o e
  refine vb_cons (outS (ps_for (passes_of rfl) rfl (pi_list (pe_slice sl_list (pv 0) po_none (po_some pe_int))) (pg_name (i := 2) nd rfl (Or.inl rfl)) selfB) ?_)
  refine ⟨.ref a, rfl, 63, rfl, a, _, rfl, sqlGrow g4 hS, fun q1 hq1 => ⟨q1, rfl, ⟨_, sql_of upd_same⟩, ?_⟩⟩
  have np : q1 ≠ p := fun z => by rw [z, upd_same] at hq1; cases hq1
  rw [upd_ne np] at hq1
  have n0 : q1 ≠ q0 := fun z => by rw [z, upd_same] at hq1; cases hq1
  rw [upd_ne n0] at hq1
  have nl : q1 ≠ l := fun z => by rw [z, upd_same] at hq1; cases hq1
  rw [upd_ne nl, upd_ne np] at hq1
  rw [cut_ints]
  refine for_list (xs := (cut ns none (some 63)).map V.int) (UI H a p q1 (cut ns none (some 63))) ?_ ?_ ?_ ?_
  · refine ⟨⟨none, none, rfl⟩, ⟨l, [], 190871 + (((cut ns none (some 63)).map V.int).length : Nat), ?_, ?_, Nat.le_refl _, lN, fun z => nl z.symm⟩, hp, hq1, upd_same, ?_⟩
    · rw [upd_ne fun z => np z.symm, upd_same]
    · rw [upd_ne fun z => nl z.symm, upd_ne fun z => pl z.symm, upd_ne lq, upd_same]
      rfl
    · rw [← cut_ints]
      intro b o e
      rw [upd_ne (ne_of_none e hq1)]
      exact g4 b o e
  · intro i σ H5 hi U5
    exact sql_of U5.hq
  · intro i x σ H5 hx U5
    obtain ⟨⟨y2, y3, rfl⟩, ⟨dp, ws, st, h1, h2, h3, h4, h5⟩, pn, qn, hq, gr⟩ := U5
    have hi : i < (cut ns none (some 63)).length := by
      have z := (List.getElem?_eq_some_iff.mp hx).1
      simpa using z
    have hms := cut_len ns none (some 63)
    obtain ⟨n, rfl⟩ : ∃ n, x = .int n := by
      rw [List.getElem?_map] at hx
      obtain ⟨n, _, e⟩ := Option.map_eq_some_iff.mp hx
      exact ⟨n, e.symm⟩
    have ne : dp ≠ p := fun z => by rw [z, h1] at h2; cases h2
    refine vb_mid (fun σ' H' => σ' = [some (.ref a), some (.ref p), some (.int n), y3] ∧ ∃ ws' : List Int, ws'.length ≤ i + 1 ∧ H' p = some (.dK [(kDeep, .ref dp), (kState, .int st)]) ∧ H' dp = some (.lst (ws'.map V.int)) ∧ H' q1 = some (.lst ((cut ns none (some 63)).map V.int)) ∧ Grow H H') ?_ ?_
    · refine outS (ps_if (pt_cmpR op_ge (pe_callB call_abs rfl mA (by decide +kernel) (pa_cons (pv 2) pa_nil)) (pe_op op_pow pe_int pe_int) (nomark _))
          (pss_one (ps_expr (pe_bm PySem.F.plainAttrs_list PySem.F.slot_list_append PySem.F.type_list_append mt_append (pe_dget hu (pv 1) pe_str (fun _ _ => rfl)) (pa_cons (pe_callB call_abs rfl mA (by decide +kernel) (pa_cons (pv 2) pa_nil)) pa_nil)))) pss_nil) ?_
      refine ⟨.int n, rfl, n, rfl, 10, 18, rfl, rfl, ⟨by decide, by decide, by decide⟩, _, _, rfl, rfl, _, rfl, ?_⟩
      by_cases hc : (10 : Int) ^ (18 : Int).toNat ≤ (if n < 0 then -n else n)
      · rw [decide_eq_true hc]
        refine iteT ⟨.ref p, rfl, p, .ref dp, rfl, gDeep h1, .inl ⟨rfl, _, sql_of h2⟩, .int n, rfl, n, rfl, dp, _, _, rfl, rfl, h2, ?_, rfl, ws ++ [if n < 0 then -n else n], by simp; omega, ?_, ?_, ?_, ?_⟩
        · rw [List.length_map]
          exact szlt (by omega)
        · rw [upd_ne fun z => ne z.symm]
          exact h1
        · rw [upd_same, List.map_append]
          rfl
        · rw [upd_ne fun z => h5 z.symm]
          exact hq
        · intro b o e
          rw [upd_ne (ne_of_none e h4)]
          exact gr b o e
      · rw [decide_eq_false hc]
        exact iteF ⟨rfl, ws, by omega, h1, h2, hq, gr⟩
    · rintro σ' H6 ⟨rfl, ws', k1, k2, k3, k4, k5⟩
      refine vb_cons (outS (ps_set (i := 3) nd rfl (Or.inl rfl) (pe_op op_add (pe_op op_mul pe_int (pe_callB call_abs rfl mA (by decide +kernel) (pa_cons (pv 2) pa_nil))) (pe_callTy call_int1 rfl mI (by decide +kernel) (pa_cons (pe_cmpR op_lt (pv 2) pe_int (nomark _)) pa_nil)))) ?_)
      refine ⟨.int n, rfl, n, rfl, 2, _, rfl, rfl, .inl ⟨by decide, by decide⟩, .int n, rfl, n, 0, rfl, rfl, .inr ⟨_, rfl, _, _, rfl, rfl, ?_⟩⟩
      refine vb_cons (outS (ps_dput hu (pv 1) pe_str (pe_op op_mod (pe_callTy call_int1 rfl mI (by decide +kernel) (pa_cons (pe_op op_add (pe_op op_mul (pe_op op_add (pe_op op_add (pe_dget hu (pv 1) pe_str (fun _ _ => rfl)) (pv 3)) pe_int) pe_int) pe_int) pa_nil)) pe_int) rfl) ?_)
      refine ⟨.ref p, rfl, p, _, rfl, gState k2, _, rfl, _, _, rfl, rfl, _, _, rfl, rfl, _, _, rfl, rfl, .inr ⟨by decide, by decide⟩, _, _, rfl, rfl, .inl ⟨_, rfl, _, _, rfl, rfl, (show (0 : Int) < 2305843009213693951 by decide), .ref p, rfl, p, _, rfl, DPut.k (k := kState) k2 (show 2 < sizeLine by decide), ?_⟩⟩
      refine vb_nil ?_
      rw [pState]
      refine ⟨⟨_, _, rfl⟩, ⟨dp, ws', _, upd_same, ?_, k1, h4, h5⟩, pn, qn, ?_, ?_⟩
      · rw [upd_ne ne]
        exact k3
      · rw [upd_ne np]
        exact k4
      · intro b o e
        rw [upd_ne (ne_of_none e pn)]
        exact k5 b o e
  · rintro σ H5 ⟨⟨y2, y3, rfl⟩, ⟨dp, ws, st, h1, h2, h3, h4, h5⟩, pn, qn, hq, gr⟩
    have hms := cut_len ns none (some 63)
    rw [List.length_map] at h3
    exact vb_cons (outS (ps_ret (pv 1)) ⟨_, rfl, q p dp H5 pn h4 gr ⟨ws, st, h1, h2, by omega⟩⟩)
end
end K10
namespace K10
open PySem PySem.Spec PyProof.Rows L2 U
abbrev sWhole : Stmt := topS 1
abbrev sTuple : Stmt := topS 2
abbrev sErr : Stmt := topS 4
abbrev sLed : Stmt := topS 5
abbrev sPlain : Stmt := topS 6
abbrev sPick : Stmt := topS 10
abbrev sAny : Stmt := topS 11
abbrev sHeight : Stmt := topS 12
abbrev sDue : Stmt := topS 13
abbrev sValues : Stmt := topS 14
abbrev sIsLed : Stmt := topS 15
abbrev sLaw : Stmt := topS 16
theorem scWhole : FnScope ["value"] ["value"] (defScope sWhole) := ⟨rfl, rfl, rfl, by decide +kernel, rfl, by decide +kernel, by decide +kernel⟩
theorem scTuple : FnScope ["value", "least", "most"] ["value", "least", "most"] (defScope sTuple) := ⟨rfl, rfl, rfl, by decide +kernel, rfl, by decide +kernel, by decide +kernel⟩
theorem scLed : FnScope ["turn", "height", "whole", "place"] ["turn", "height"] (defScope sLed) := ⟨rfl, rfl, rfl, by decide +kernel, rfl, by decide +kernel, by decide +kernel⟩
theorem scPlain : FnScope ["many"] ["many"] (defScope sPlain) := ⟨rfl, rfl, rfl, by decide +kernel, rfl, by decide +kernel, by decide +kernel⟩
theorem scHeight : FnScope ["turn", "height", "many"] ["turn", "height"] (defScope sHeight) := ⟨rfl, rfl, rfl, by decide +kernel, rfl, by decide +kernel, by decide +kernel⟩
theorem scPick : FnScope ["urn", "some"] ["urn", "some"] (defScope sPick) := ⟨rfl, rfl, rfl, by decide +kernel, rfl, by decide +kernel, by decide +kernel⟩
def isI : D → Bool
  | .int _ => true
  | _ => false
def tupN (d : D) (a b : Int) : Bool := match d with
  | .tup xs => decide (a ≤ (xs.length : Int)) && decide ((xs.length : Int) ≤ b)
  | _ => false
/-- ns[h % n] turns on -/
def ledI (ns : List Int) (h : Int) : Int := h / (ns.length : Int) * (ns.length : Int) + ns.getD (h % (ns.length : Int)).toNat 0
theorem atI_ints {ns : List Int} {i : Int} (h0 : 0 ≤ i) (h1 : i < (ns.length : Int)) : L2.atI (ns.map D.int) i = some (.int (ns.getD i.toNat 0)) := by
  obtain ⟨j, rfl⟩ := Int.eq_ofNat_of_zero_le h0
  have hj : j < ns.length := by omega
  refine atI_nat ?_
  rw [List.getElem?_map, List.getElem?_eq_getElem hj]
  simp [List.getD, List.getElem?_eq_getElem hj]
theorem atI_mod {ns : List Int} {h : Int} (h0 : 0 < ns.length) : L2.atI (ns.map D.int) (h % (ns.length : Int)) = some (.int (ns.getD (h % (ns.length : Int)).toNat 0)) :=
  atI_ints (Int.emod_nonneg _ (by omega)) (Int.emod_lt_of_pos _ (by omega))
def spWhole : Fs := fun ds P _ => ∃ d, ds = [d] ∧ d.isAd = false ∧ P (.bl (isI d))
def spTuple : Fs := fun ds P _ => ∃ d a b, ds = [d, .int a, .int b] ∧ d.isAd = false ∧ P (.bl (tupN d a b))
def spLed : Fs := fun ds P _ => ∃ (ns : List Int) (h : Int), ds = [.tup (ns.map D.int), .int h] ∧ 0 < ns.length ∧ ns.length ≤ 1000 ∧ P (.int (ledI ns h))
def spPlain : Fs := fun ds P _ => ∃ m : Int, ds = [.int m] ∧ 0 ≤ m ∧ m ≤ 1000 ∧ P (.tup (rangeD 0 m.toNat))
def spPick (u : Addr) : Fs := fun ds P _ => ∃ x xs, ds = [.ad u, x] ∧ x.items? = some xs ∧ xs ≠ [] ∧ xs.length ≤ 1000000 ∧ ∀ d ∈ xs, P d
section
variable {P : Program} {w : World} {K : PySem.W.Frag} {mg : Str → Option Value} {base : Heap} {U : Vol} {u dp : Addr}
theorem ok_whole (F : At K mg "is_whole" sWhole) (mi : mg "isinstance" = none) (mI : mg "int" = none) (mB : mg "bool" = none) : Df P w K mg base "is_whole" sWhole 1 1 ["value"] U spWhole := by
  refine df_mk F scWhole rfl (by decide) (fun f fd F => F.binds fun _ _ _ _ _ _ us hl => match us, hl with | [_], _ => rfl) fun f cdv A outer s H E M ds Pd X bd hl hS => ?_
  obtain ⟨d, rfl, hd, hP⟩ := hS
  refine sv_cons (s1_ret ?_)
  refine ev_and ?_
  refine ev_isi (T' := "int") (by assumption) (by assumption) rfl (by decide +kernel) ?_ rfl rfl
  refine eq_of ?_
  refine ev_var 0 rfl (Or.inl rfl) rfl ?_
  refine ⟨hd, _, rfl, fun h1 => ?_, fun h1 => ?_⟩
  · refine ev_one ?_
    refine ev_not ?_
    refine ev_isi (T' := "bool") (by assumption) (by assumption) rfl (by decide +kernel) ?_ rfl rfl
    refine eq_of ?_
    refine ev_var 0 rfl (Or.inl rfl) rfl ?_
    refine ⟨hd, _, rfl, ?_⟩
    have e : (!isTyN "bool" (tyOf d)) = isI d := by cases d <;> simp [isTyN, tyOf, isI] at h1 ⊢
    rw [e]
    exact hP
  · have e : false = isI d := by cases d <;> simp [isTyN, tyOf, isI] at h1 ⊢
    rw [e]
    exact hP
theorem ok_tuple (F : At K mg "is_tuple" sTuple) (mi : mg "isinstance" = none) (mT : mg "tuple" = none) (mL : mg "len" = none) : Df P w K mg base "is_tuple" sTuple 1 3 ["value", "least", "most"] U spTuple := by
  refine df_mk F scTuple rfl (by decide) (fun f fd F => F.binds fun _ _ _ _ _ _ us hl => match us, hl with | [_, _, _], _ => rfl) fun f cdv A outer s H E M ds Pd X bd hl hS => ?_
  obtain ⟨d, a, b, rfl, hd, hP⟩ := hS
  refine sv_cons (s1_ret ?_)
  refine ev_and ?_
  refine ev_isi (T' := "tuple") (by assumption) (by assumption) rfl (by decide +kernel) ?_ rfl rfl
  refine eq_of ?_
  refine ev_var 0 rfl (Or.inl rfl) rfl ?_
  refine ⟨hd, _, rfl, fun h1 => ?_, fun h1 => ?_⟩
  · cases d with
    | tup xs =>
      refine ev_one ?_
      refine ev_chainD (by assumption) ?_
      refine ev_var 1 rfl (Or.inl rfl) rfl ?_
      refine ev_len (by assumption) ?_ rfl
      refine eq_of ?_
      refine ev_var 0 rfl (Or.inl rfl) rfl ?_
      refine ⟨_, rfl, _, .le, fun h => ?_, fun h => ?_⟩
      · have e : false = tupN (.tup xs) a b := by simp [tupN, h]
        rw [e]
        exact hP
      · refine ev_var 2 rfl (Or.inl rfl) rfl ?_
        refine ⟨_, .le, ?_⟩
        have e : decide ((xs.length : Int) ≤ b) = tupN (.tup xs) a b := by simp [tupN, h]
        rw [e]
        exact hP
    | _ => cases h1
  · have e : false = tupN d a b := by cases d <;> first | rfl | cases h1
    rw [e]
    exact hP
theorem ok_plain (F : At K mg "plain_turn" sPlain) (mT : mg "tuple" = none) (mR : mg "range" = none) : Df P w K mg base "plain_turn" sPlain 1 1 ["many"] U spPlain := by
  refine df_mk F scPlain rfl (by decide) (fun f fd F => F.binds fun _ _ _ _ _ _ us hl => match us, hl with | [_], _ => rfl) fun f cdv A outer s H E M ds Pd X bd hl hS => ?_
  obtain ⟨m, rfl, h0, h1, hP⟩ := hS
  refine sv_cons (s1_ret ?_)
  refine ev_tupRg (by assumption) (by assumption) (by assumption) ?_ rfl rfl
  refine ev_var 0 rfl (Or.inl rfl) rfl ?_
  exact ⟨m, rfl, h0, by omega, hP⟩
theorem ok_led (F : At K mg "led" sLed) (mD : mg "divmod" = none) (mL : mg "len" = none) : Df P w K mg base "led" sLed 1 2 ["turn", "height"] U spLed := by
  refine df_mk F scLed rfl (by decide) (fun f fd F => F.binds fun _ _ _ _ _ _ us hl => match us, hl with | [_, _], _ => rfl) fun f cdv A outer s H E M ds Pd X bd hl hS => ?_
  obtain ⟨ns, h, rfl, h0, h1, hP⟩ := hS
  refine sv_cons (s1_asgG ?_)
  refine ev_divmod (by assumption) ?_ rfl
  refine av_cons ?_
  refine ev_var 1 rfl (Or.inl rfl) rfl ?_
  refine av_cons ?_
  refine ev_len (by assumption) ?_ rfl
  refine eq_of ?_
  refine ev_var 0 rfl (Or.inl rfl) rfl ?_
  refine ⟨_, rfl, ?_⟩
  refine av_nil ?_
  rw [List.length_map]
  refine ⟨_, _, rfl, ⟨by omega, by omega⟩, ?_⟩
  refine gv_two 2 3 bd.calm bd.nd rfl rfl (Or.inl rfl) (Or.inl rfl) (show 2 < 4 by decide) (show 3 < 4 by decide) ?_
  refine sv_cons (s1_ret ?_)
  refine ev_add ?_
  refine ev_mul ?_
  refine ev_var 2 rfl (Or.inl rfl) rfl ?_
  refine eq_of ?_
  refine ev_len (by assumption) ?_ rfl
  refine eq_of ?_
  refine ev_var 0 rfl (Or.inl rfl) rfl ?_
  refine ⟨_, rfl, _, .int (.inr ⟨by rw [List.length_map]; omega, by rw [List.length_map]; omega⟩), ?_⟩
  refine eq_of ?_
  refine ev_ix ?_
  refine ev_var 0 rfl (Or.inl rfl) rfl ?_
  refine eq_of ?_
  refine ev_var 3 rfl (Or.inl rfl) rfl ?_
  refine ⟨_, rfl, _, .inl ⟨_, rfl, atI_mod h0⟩, _, .int, ?_⟩
  rw [List.length_map]
  exact hP
theorem ok_height (F : At K mg "_law_height" sHeight) (mI : mg "int" = none) (mL : mg "len" = none) : Df P w K mg base "_law_height" sHeight 1 2 ["turn", "height"] U spLed := by
  refine df_mk F scHeight rfl (by decide) (fun f fd F => F.binds fun _ _ _ _ _ _ us hl => match us, hl with | [_, _], _ => rfl) fun f cdv A outer s H E M ds Pd X bd hl hS => ?_
  obtain ⟨ns, h, rfl, h0, h1, hP⟩ := hS
  refine sv_cons (s1_set (by assumption) 2 rfl (Or.inl rfl) (show 2 < 3 by decide) ?_)
  refine ev_len (by assumption) ?_ rfl
  refine eq_of ?_
  refine ev_var 0 rfl (Or.inl rfl) rfl ?_
  refine ⟨_, rfl, ?_⟩
  rw [List.length_map]
  refine sv_cons (s1_ret ?_)
  refine ev_add ?_
  refine ev_mul ?_
  refine ev_fdiv ?_
  refine ev_var 1 rfl (Or.inl rfl) rfl ?_
  refine eq_of ?_
  refine ev_var 2 rfl (Or.inl rfl) rfl ?_
  refine ⟨_, _, rfl, rfl, ⟨by omega, by omega⟩, ?_⟩
  refine eq_of ?_
  refine ev_var 2 rfl (Or.inl rfl) rfl ?_
  refine ⟨_, .int (.inr ⟨by omega, by omega⟩), ?_⟩
  refine eq_of ?_
  refine ev_ix ?_
  refine ev_var 0 rfl (Or.inl rfl) rfl ?_
  refine eq_of ?_
  refine ev_mod ?_
  refine ev_intOf (by assumption) ?_ rfl
  refine ev_var 1 rfl (Or.inl rfl) rfl ?_
  refine .inl ⟨_, rfl, ?_⟩
  refine eq_of ?_
  refine ev_var 2 rfl (Or.inl rfl) rfl ?_
  exact ⟨_, _, rfl, rfl, by omega, _, rfl, _, .inl ⟨_, rfl, atI_mod h0⟩, _, .int, hP⟩
theorem ok_pick (F : At K mg "_law_pick" sPick) (mL : mg "len" = none) (T : Df P w K mg base "_law_take" sTake 1 2 ["urn", "many"] (urnVol u dp) (spTake u)) : Df P w K mg base "_law_pick" sPick 2 2 ["urn", "some"] (urnVol u dp) (spPick u) := by
  refine df_mk F scPick rfl (by decide) (fun f fd F => F.binds fun _ _ _ _ _ _ us hl => match us, hl with | [_, _], _ => rfl) fun f cdv A outer s H E M ds Pd X bd hl hS => ?_
  obtain ⟨x, xs, rfl, hx, h0, h1, hP⟩ := hS
  have hlen : x.len? = some xs.length := by cases x <;> cases hx <;> rfl
  have hpos : 0 < xs.length := List.length_pos_iff.mpr h0
  refine sv_cons (s1_ret ?_)
  refine ev_ix ?_
  refine ev_var 1 rfl (Or.inl rfl) rfl ?_
  refine eq_of ?_
  refine ev_def (by assumption) (by assumption) (by decide) rfl ?_
  refine av_cons ?_
  refine ev_var 0 rfl (Or.inl rfl) rfl ?_
  refine av_cons ?_
  refine ev_len (by assumption) ?_ rfl
  refine eq_of ?_
  refine ev_var 1 rfl (Or.inl rfl) rfl ?_
  refine ⟨_, hlen, ?_⟩
  refine av_nil ?_
  refine ⟨rfl, _, rfl, by omega, fun r hr0 hr1 => ?_⟩
  have hr2 : r.toNat < xs.length := by omega
  refine ⟨r, rfl, xs[r.toNat], .inl ⟨xs, hx, ?_⟩, hP _ (List.getElem_mem _)⟩
  obtain ⟨j, rfl⟩ := Int.eq_ofNat_of_zero_le hr0
  exact atI_nat (List.getElem?_eq_getElem hr2)
end
end K10
namespace K10
open PySem PySem.Spec PyProof.Rows L2 U
theorem scErr : FnScope ["many", "value", "place", "item"] ["many", "value"] (defScope sErr) := ⟨rfl, rfl, rfl, by decide +kernel, rfl, by decide +kernel, by decide +kernel⟩
theorem scDue : FnScope ["many", "value", "spot", "item"] ["many", "value"] (defScope sDue) := ⟨rfl, rfl, rfl, by decide +kernel, rfl, by decide +kernel, by decide +kernel⟩
def falls (ns : List Int) (p : Nat) : Bool := decide (ns.getD p 0 < ns.getD (p - 1) 0)
def fallFrom (ns : List Int) : Nat → Nat → Option Nat
  | 0, _ => none
  | k + 1, p => if falls ns p = true then some p else fallFrom ns k (p + 1)
theorem fall_some {ns : List Int} {p0 : Nat} (h : falls ns p0 = true) : ∀ (k p : Nat), (∀ q, p ≤ q → q < p0 → falls ns q = false) → p ≤ p0 → p0 < p + k → fallFrom ns k p = some p0
  | 0, p, _, h1, h2 => by omega
  | k + 1, p, hq, h1, h2 => by
    unfold fallFrom
    by_cases e : p = p0
    · rw [e, if_pos h]
    · rw [if_neg (by rw [hq p (Nat.le_refl _) (by omega)]; simp)]
      exact fall_some h k (p + 1) (fun q a b => hq q (by omega) b) (by omega) (by omega)
theorem fall_none {ns : List Int} : ∀ (k p : Nat), (∀ q, p ≤ q → q < p + k → falls ns q = false) → fallFrom ns k p = none
  | 0, p, _ => rfl
  | k + 1, p, hq => by
    unfold fallFrom
    rw [if_neg (by rw [hq p (Nat.le_refl _) (by omega)]; simp)]
    exact fall_none k (p + 1) fun q a b => hq q (by omega) (by omega)
def toI : D → Int
  | .int i => i
  | _ => 0
def dueT (m : Int) (ns : List Int) : D := match fallFrom ns (ns.length - 1) 1 with
  | some p => .tup [.str "falls", .int (p : Nat)]
  | none => if ns.getD 0 0 + m < ns.getD (ns.length - 1) 0 then .str "passes" else .non
def dueD (m : Int) (d : D) : D := match d with
  | .tup xs => if (xs.length : Int) = m ∧ xs.all isI = true then dueT m (xs.map toI) else .str "form"
  | _ => .str "form"
theorem dueD_no {m : Int} {xs : List D} (h : ¬ ((xs.length : Int) = m ∧ xs.all isI = true)) : dueD m (.tup xs) = .str "form" := if_neg h
theorem dueD_yes {m : Int} {xs : List D} (h : (xs.length : Int) = m ∧ xs.all isI = true) : dueD m (.tup xs) = dueT m (xs.map toI) := if_pos h
theorem ints_back : ∀ {xs : List D}, xs.all isI = true → xs = (xs.map toI).map D.int
  | [], _ => rfl
  | x :: xs, h => by
    rw [List.all_cons, Bool.and_eq_true] at h
    rw [List.map_cons, List.map_cons, ← ints_back h.2]
    cases x with
    | int i => rfl
    | _ => cases h.1
theorem atI_neg1 {ns : List Int} (h : 0 < ns.length) : L2.atI (ns.map D.int) (-1) = some (.int (ns.getD (ns.length - 1) 0)) := by
  obtain ⟨a, b, rfl⟩ : ∃ a b, ns = a ++ [b] := by
    rcases List.eq_nil_or_concat ns with h' | ⟨a, b, h'⟩
    · rw [h'] at h; cases h
    · exact ⟨a, b, by simpa using h'⟩
  rw [List.map_append]
  have e : (a ++ [b]).getD ((a ++ [b]).length - 1) 0 = b := by simp [List.getD]
  rw [e]
  exact atI_last _ _
def spErr : Fs := fun ds P _ => ∃ (m : Int) (d : D), ds = [.int m, d] ∧ 1 ≤ m ∧ m ≤ 1000 ∧ d.isAd = false ∧ (∀ xs, d = .tup xs → ∀ x ∈ xs, x.isAd = false) ∧ P (dueD m d)
section
variable {P : Program} {w : World} {K : PySem.W.Frag} {mg : Str → Option Value} {base : Heap} {U : Vol} {u dp : Addr}
theorem ok_err (F : At K mg "turn_error" sErr) (mA : mg "all" = none) (mR : mg "range" = none) (F1 : Df P w K mg base "is_whole" sWhole 1 1 ["value"] U spWhole) (F2 : Df P w K mg base "is_tuple" sTuple 1 3 ["value", "least", "most"] U spTuple) : Df P w K mg base "turn_error" sErr 2 2 ["many", "value"] U spErr := by
  refine df_mk F scErr rfl (by decide) (fun f fd F => F.binds fun _ _ _ _ _ _ us hl => match us, hl with | [_, _], _ => rfl) fun f cdv A outer s H E M ds Pd X bd hl hS => ?_
  obtain ⟨m, d, rfl, hm1, hm2, hd, hx, hP⟩ := hS
  refine sv_cons (s1_if ?_)
  refine tv_w (wv_or ?_)
  refine tv_not ?_
  refine tv_val ?_
  refine ev_def (by assumption) (by assumption) (by decide) rfl ?_
  refine av_cons ?_
  refine ev_var 1 rfl (Or.inl rfl) rfl ?_
  refine av_cons ?_
  refine ev_var 0 rfl (Or.inl rfl) rfl ?_
  refine av_cons ?_
  refine ev_var 0 rfl (Or.inl rfl) rfl ?_
  refine av_nil ?_
  refine ⟨rfl, d, m, m, rfl, hd, _, rfl, fun h1 => ?_, fun h1 => ?_⟩
  · rw [Bool.not_eq_false'] at h1
    cases d with
    | tup xs =>
      have hlen : (xs.length : Int) = m := by
        simp only [tupN, Bool.and_eq_true, decide_eq_true_eq] at h1
        omega
      refine wv_one ?_ (by first | exact .inl rfl | exact .inr rfl)
      refine tv_not ?_
      refine tv_val ?_
      refine ev_all (by assumption) (by assumption) ?_ rfl
      refine eq_of ?_
      refine ev_lcR [("item", 3)] bd (blkOk_by (N := ["many", "value", "place", "item"]) (sc := defScope sErr) (by decide +kernel)) ?_
      refine iv_tup ?_
      refine ev_var 1 rfl (Or.inl rfl) rfl ?_
      refine ⟨xs, rfl, by omega, fun i hi s e => ?_, fun x y => y = .bl (isI x), fun x hx' Dl s H C cl fp => ?_, fun ys hy => ?_⟩
      · have hi' : i = 3 := by simpa using hi
        subst hi'
        cases e
        rfl
      · refine gw_name 3 bd.nd rfl (Or.inl rfl) (show 3 < 4 by decide) fun s H C cl fp bd => ?_
        refine ev_def (by assumption) (by assumption) (by decide) rfl ?_
        refine av_cons ?_
        refine ev_var 3 rfl (Or.inl rfl) rfl ?_
        refine av_nil ?_
        exact ⟨rfl, x, rfl, hx xs rfl x hx', rfl, rfl⟩
      · have ey : ys = (xs.map isI).map D.bl := by rw [hy.eq, List.map_map]; rfl
        rw [ey]
        refine ⟨_, rfl, _, rfl, ?_⟩
        have ea : (xs.map isI).all id = xs.all isI := by rw [List.all_map]; rfl
        rw [ea]
        refine ⟨fun h2 => ?_, fun h2 => ?_⟩
        · refine sv_cons (s1_ret ?_)
          refine ev_str ?_
          have e : dueD m (.tup xs) = .str "form" := dueD_no fun z => by rw [z.2] at h2; cases h2
          rw [← e]
          exact hP
        · rw [Bool.not_eq_false'] at h2
          have hb := ints_back h2
          have ed : dueD m (.tup xs) = dueT m (xs.map toI) := dueD_yes ⟨hlen, h2⟩
          rw [ed] at hP
          have hl' : ((xs.map toI).length : Int) = m := by rw [List.length_map]; exact hlen
          clear ed ea ey h1 h2 hy hx
          generalize xs.map toI = ns at hP hb hl'
          subst hb
          refine sv_nil ?_
          refine sv_cons (s1_for bd ?_)
          refine iv_range2 (by assumption) ?_ rfl
          refine ev_int ?_
          refine ⟨1, rfl, ?_⟩
          refine ev_var 0 rfl (Or.inl rfl) rfl ?_
          refine ⟨m, rfl, ⟨by decide, by decide, by omega, by omega⟩, fun i Γ => (∃ s2 s3, Γ = [.dat (.int m), .dat (.tup (ns.map D.int)), s2, s3]) ∧ ∀ q, 1 ≤ q → q < i + 1 → falls ns q = false, ⟨⟨_, _, rfl⟩, fun q a b => by omega⟩, ?_, ?_⟩
          · rintro i x Γ2 hx ⟨⟨s2, s3, rfl⟩, hq⟩
            have hi : i < (m - 1).toNat := by
              have z := (List.getElem?_eq_some_iff.mp hx).1
              rw [rangeD_length] at z
              exact z
            rw [rangeD_at hi] at hx
            cases hx
            refine gv_name 2 bd.nd rfl (Or.inl rfl) (show 2 < 4 by decide) ?_
            have e1 : (1 : Int) + (i : Nat) = ((i + 1 : Nat) : Int) := by omega
            rw [e1]
            refine sv_cons (s1_if ?_)
            refine tv_cmpD (by assumption) ?_
            refine ev_ix ?_
            refine ev_var 1 rfl (Or.inl rfl) rfl ?_
            refine eq_of ?_
            refine ev_var 2 rfl (Or.inl rfl) rfl ?_
            refine ⟨_, rfl, _, .inl ⟨_, rfl, atI_ints (by omega) (by omega)⟩, ?_⟩
            refine eq_of ?_
            refine ev_ix ?_
            refine ev_var 1 rfl (Or.inl rfl) rfl ?_
            refine eq_of ?_
            refine ev_sub ?_
            refine ev_var 2 rfl (Or.inl rfl) rfl ?_
            refine eq_of ?_
            refine ev_int ?_
            refine ⟨_, _, rfl, rfl, _, rfl, _, .inl ⟨_, rfl, atI_ints (by omega) (by omega)⟩, _, .lt, fun h => ?_, fun h => ?_⟩
            · refine sv_cons (s1_ret ?_)
              refine ev_tup ?_
              refine av_cons ?_
              refine ev_str ?_
              refine av_cons ?_
              refine ev_var 2 rfl (Or.inl rfl) rfl ?_
              refine av_nil ?_
              refine ⟨(show 2 ≤ 16777216 by decide), ?_⟩
              have hf : falls ns (i + 1) = true := by
                unfold falls
                have e2 : (((i + 1 : Nat) : Int) - 1).toNat = i + 1 - 1 := by omega
                have e3 : ((i + 1 : Nat) : Int).toNat = i + 1 := by omega
                rw [e2, e3] at h
                exact h
              have e : dueT m ns = .tup [.str "falls", .int ((i + 1 : Nat) : Int)] := by
                unfold dueT
                rw [fall_some hf (ns.length - 1) 1 hq (by omega) (by omega)]
              rw [← e]
              exact hP
            · refine sv_nil (sv_nil ⟨⟨_, _, rfl⟩, fun q a b => ?_⟩)
              by_cases hqi : q = i + 1
              · subst hqi
                unfold falls
                have e2 : (((i + 1 : Nat) : Int) - 1).toNat = i + 1 - 1 := by omega
                have e3 : ((i + 1 : Nat) : Int).toNat = i + 1 := by omega
                rw [e2, e3] at h
                exact h
              · exact hq q a (by omega)
          · rintro Γ2 ⟨⟨s2, s3, rfl⟩, hq⟩
            rw [rangeD_length] at hq
            have en := fall_none (ns := ns) (ns.length - 1) 1 fun q a b => hq q a (by omega)
            have e : dueT m ns = if ns.getD 0 0 + m < ns.getD (ns.length - 1) 0 then .str "passes" else .non := by
              unfold dueT
              rw [en]
            rw [e] at hP
            refine sv_cons (s1_if ?_)
            refine tv_cmpD (by assumption) ?_
            refine ev_ix ?_
            refine ev_var 1 rfl (Or.inl rfl) rfl ?_
            refine eq_of ?_
            refine ev_neg ?_
            refine eq_of ?_
            refine ev_int ?_
            refine ⟨1, rfl, _, rfl, _, .inl ⟨_, rfl, atI_neg1 (by omega)⟩, ?_⟩
            refine eq_of ?_
            refine ev_add ?_
            refine ev_ix ?_
            refine ev_var 1 rfl (Or.inl rfl) rfl ?_
            refine eq_of ?_
            refine ev_int ?_
            refine ⟨_, rfl, _, .inl ⟨_, rfl, atI_ints (by decide) (by omega)⟩, ?_⟩
            refine eq_of ?_
            refine ev_var 0 rfl (Or.inl rfl) rfl ?_
            refine ⟨_, .int, _, .gt, fun h => ?_, fun h => ?_⟩
            · refine sv_cons (s1_ret ?_)
              refine ev_str ?_
              have h' : ns.getD 0 0 + m < ns.getD (ns.length - 1) 0 := of_decide_eq_true h
              rw [if_pos h'] at hP
              exact hP
            · refine sv_nil ?_
              refine sv_cons (s1_ret ?_)
              refine ev_non ?_
              have h' : ¬ ns.getD 0 0 + m < ns.getD (ns.length - 1) 0 := of_decide_eq_false h
              rw [if_neg h'] at hP
              exact hP
    | _ => cases h1
  · rw [Bool.not_eq_true'] at h1
    refine ⟨fun _ => ?_, fun z => by cases z⟩
    refine sv_cons (s1_ret ?_)
    refine ev_str ?_
    have e : dueD m d = .str "form" := by
      cases d with
      | tup xs =>
        exact dueD_no fun z => by simp [tupN, z.1] at h1
      | _ => rfl
    rw [← e]
    exact hP
theorem ok_due (F : At K mg "_law_due" sDue) (mi : mg "isinstance" = none) (mI : mg "int" = none) (mB : mg "bool" = none) (mT : mg "tuple" = none) (mL : mg "len" = none) (mR : mg "range" = none) : Df P w K mg base "_law_due" sDue 2 2 ["many", "value"] U spErr := by
  refine df_mk F scDue rfl (by decide) (fun f fd F => F.binds fun _ _ _ _ _ _ us hl => match us, hl with | [_, _], _ => rfl) fun f cdv A outer s H E M ds Pd X bd hl hS => ?_
  obtain ⟨m, d, rfl, hm1, hm2, hd, hx, hP⟩ := hS
  refine sv_cons (s1_if ?_)
  refine tv_w (wv_or ?_)
  refine tv_not ?_
  refine tv_val ?_
  refine ev_isi (T' := "tuple") (by assumption) (by assumption) rfl (by decide +kernel) ?_ rfl rfl
  refine eq_of ?_
  refine ev_var 1 rfl (Or.inl rfl) rfl ?_
  refine ⟨hd, _, rfl, fun h1 => ?_, fun h1 => ?_⟩
  · rw [Bool.not_eq_false'] at h1
    cases d with
    | tup xs =>
      refine wv_one ?_ (by first | exact .inl rfl | exact .inr rfl)
      refine tv_cmpD (by assumption) ?_
      refine ev_len (by assumption) ?_ rfl
      refine eq_of ?_
      refine ev_var 1 rfl (Or.inl rfl) rfl ?_
      refine ⟨_, rfl, ?_⟩
      refine eq_of ?_
      refine ev_var 0 rfl (Or.inl rfl) rfl ?_
      refine ⟨_, .neI, fun h2 => ?_, fun h2 => ?_⟩
      · refine sv_cons (s1_ret ?_)
        refine ev_str ?_
        have e : dueD m (.tup xs) = .str "form" := dueD_no fun z => by rw [z.1] at h2; simp at h2
        rw [← e]
        exact hP
      · have hlen : (xs.length : Int) = m := by simpa using h2
        refine sv_nil ?_
        refine sv_cons (s1_if ?_)
        refine tv_cmpD (by assumption) ?_
        refine ev_lc [("item", 3)] bd (blkOk_by (N := ["many", "value", "spot", "item"]) (sc := defScope sDue) (by decide +kernel)) ?_
        refine iv_tup ?_
        refine ev_var 1 rfl (Or.inl rfl) rfl ?_
        refine ⟨xs, rfl, fun i acc => acc = (((xs.take i).filter fun x => !isI x).map fun _ => (1 : Int)).map D.int, rfl, by omega, fun i hi s e => ?_, fun i x acc hx' hI al Dl s H C cl fp => ?_, fun acc hI => ?_⟩
        · have hi' : i = 3 := by simpa using hi
          subst hi'
          cases e
          rfl
        · have hxa := hx xs rfl x (List.mem_of_getElem? hx')
          have hstep : ((xs.take (i + 1)).filter fun x => !isI x) = ((xs.take i).filter fun x => !isI x) ++ (if isI x = true then [] else [x]) := by
            rw [List.take_succ, hx', List.filter_append]
            cases hb : isI x <;> simp [hb]
          refine gw_name 3 bd.nd rfl (Or.inl rfl) (show 3 < 4 by decide) fun s H C cl fp => .inr ⟨_, rfl, ?_⟩
          have yes : isI x = false → acc ++ [.int 1] = (((xs.take (i + 1)).filter fun x => !isI x).map fun _ => (1 : Int)).map D.int := fun h => by
            rw [hI, hstep, h]
            simp
          have no : isI x = true → acc = (((xs.take (i + 1)).filter fun x => !isI x).map fun _ => (1 : Int)).map D.int := fun h => by
            rw [hI, hstep, h]
            simp
          refine tv_w (wv_or ?_)
          refine tv_val ?_
          refine ev_isi (T' := "bool") (by assumption) (by assumption) rfl (by decide +kernel) ?_ rfl rfl
          refine eq_of ?_
          refine ev_var 3 rfl (Or.inl rfl) rfl ?_
          refine ⟨hxa, _, rfl, fun hb => ?_, fun hb => ?_⟩
          · refine wv_one ?_ (by first | exact .inl rfl | exact .inr rfl)
            refine tv_not ?_
            refine tv_val ?_
            refine ev_isi (T' := "int") (by assumption) (by assumption) rfl (by decide +kernel) ?_ rfl rfl
            refine eq_of ?_
            refine ev_var 3 rfl (Or.inl rfl) rfl ?_
            have e : isTyN "int" (tyOf x) = isI x := by cases x <;> simp [isTyN, tyOf, isI] at hb ⊢
            refine ⟨hxa, _, rfl, rfl, fun h => ?_, fun h => ?_⟩
            · rw [Bool.not_eq_true', e] at h
              intro s H C cl fp
              refine ev_int ?_
              exact ⟨rfl, yes h⟩
            · rw [Bool.not_eq_false', e] at h
              exact no h
          · have e : isI x = false := by cases x <;> simp [isTyN, tyOf, isI] at hb ⊢
            refine ⟨rfl, fun h => ?_, fun h => by cases h⟩
            intro s H C cl fp
            refine ev_int ?_
            exact ⟨rfl, yes e⟩
        · have hI : acc = (((xs.take xs.length).filter fun x => !isI x).map fun _ => (1 : Int)).map D.int := hI
          rw [List.take_length] at hI
          subst hI
          refine eq_of ?_
          refine ev_lst ?_
          refine av_nil ?_
          refine ⟨by decide, _, .neD (eqk_lint _) (eqk_lint []), ?_⟩
          have hev := eqd_lint ((xs.filter fun x => !isI x).map fun _ => (1 : Int)) []
          rw [List.map_nil] at hev
          rw [hev]
          have hem : (((xs.filter fun x => !isI x).map fun _ => (1 : Int)) = []) ↔ xs.all isI = true := by
            rw [List.map_eq_nil_iff, List.filter_eq_nil_iff, List.all_eq_true]
            constructor
            · intro h x hx
              have := h x hx
              simpa using this
            · intro h x hx
              simp [h x hx]
          refine ⟨fun h3 => ?_, fun h3 => ?_⟩
          · refine sv_cons (s1_ret ?_)
            refine ev_str ?_
            have e : dueD m (.tup xs) = .str "form" := dueD_no fun z => by
              rw [Bool.not_eq_true'] at h3
              exact of_decide_eq_false h3 (hem.mpr z.2)
            rw [← e]
            exact hP
          · rw [Bool.not_eq_false'] at h3
            have h4 := hem.mp (of_decide_eq_true h3)
            have hb := ints_back h4
            have ed : dueD m (.tup xs) = dueT m (xs.map toI) := dueD_yes ⟨hlen, h4⟩
            rw [ed] at hP
            have hl' : ((xs.map toI).length : Int) = m := by rw [List.length_map]; exact hlen
            clear ed hem hev h3 h4 hx
            generalize xs.map toI = ns at hP hb hl'
            subst hb
            refine sv_nil ?_
            refine sv_cons (s1_for bd ?_)
            refine iv_range2 (by assumption) ?_ rfl
            refine ev_int ?_
            refine ⟨1, rfl, ?_⟩
            refine ev_var 0 rfl (Or.inl rfl) rfl ?_
            refine ⟨m, rfl, ⟨by decide, by decide, by omega, by omega⟩, fun i Γ => (∃ s2 s3, Γ = [.dat (.int m), .dat (.tup (ns.map D.int)), s2, s3]) ∧ ∀ q, 1 ≤ q → q < i + 1 → falls ns q = false, ⟨⟨_, _, rfl⟩, fun q a b => by omega⟩, ?_, ?_⟩
            · rintro i x Γ2 hx ⟨⟨s2, s3, rfl⟩, hq⟩
              have hi : i < (m - 1).toNat := by
                have z := (List.getElem?_eq_some_iff.mp hx).1
                rw [rangeD_length] at z
                exact z
              rw [rangeD_at hi] at hx
              cases hx
              refine gv_name 2 bd.nd rfl (Or.inl rfl) (show 2 < 4 by decide) ?_
              have e1 : (1 : Int) + (i : Nat) = ((i + 1 : Nat) : Int) := by omega
              rw [e1]
              refine sv_cons (s1_if ?_)
              refine tv_cmpD (by assumption) ?_
              refine ev_ix ?_
              refine ev_var 1 rfl (Or.inl rfl) rfl ?_
              refine eq_of ?_
              refine ev_var 2 rfl (Or.inl rfl) rfl ?_
              refine ⟨_, rfl, _, .inl ⟨_, rfl, atI_ints (by omega) (by omega)⟩, ?_⟩
              refine eq_of ?_
              refine ev_ix ?_
              refine ev_var 1 rfl (Or.inl rfl) rfl ?_
              refine eq_of ?_
              refine ev_sub ?_
              refine ev_var 2 rfl (Or.inl rfl) rfl ?_
              refine eq_of ?_
              refine ev_int ?_
              refine ⟨_, _, rfl, rfl, _, rfl, _, .inl ⟨_, rfl, atI_ints (by omega) (by omega)⟩, _, .lt, fun h => ?_, fun h => ?_⟩
              · refine sv_cons (s1_ret ?_)
                refine ev_tup ?_
                refine av_cons ?_
                refine ev_str ?_
                refine av_cons ?_
                refine ev_var 2 rfl (Or.inl rfl) rfl ?_
                refine av_nil ?_
                refine ⟨(show 2 ≤ 16777216 by decide), ?_⟩
                have hf : falls ns (i + 1) = true := by
                  unfold falls
                  have e2 : (((i + 1 : Nat) : Int) - 1).toNat = i + 1 - 1 := by omega
                  have e3 : ((i + 1 : Nat) : Int).toNat = i + 1 := by omega
                  rw [e2, e3] at h
                  exact h
                have e : dueT m ns = .tup [.str "falls", .int ((i + 1 : Nat) : Int)] := by
                  unfold dueT
                  rw [fall_some hf (ns.length - 1) 1 hq (by omega) (by omega)]
                rw [← e]
                exact hP
              · refine sv_nil (sv_nil ⟨⟨_, _, rfl⟩, fun q a b => ?_⟩)
                by_cases hqi : q = i + 1
                · subst hqi
                  unfold falls
                  have e2 : (((i + 1 : Nat) : Int) - 1).toNat = i + 1 - 1 := by omega
                  have e3 : ((i + 1 : Nat) : Int).toNat = i + 1 := by omega
                  rw [e2, e3] at h
                  exact h
                · exact hq q a (by omega)
            · rintro Γ2 ⟨⟨s2, s3, rfl⟩, hq⟩
              rw [rangeD_length] at hq
              have en := fall_none (ns := ns) (ns.length - 1) 1 fun q a b => hq q a (by omega)
              have e : dueT m ns = if ns.getD 0 0 + m < ns.getD (ns.length - 1) 0 then .str "passes" else .non := by
                unfold dueT
                rw [en]
              rw [e] at hP
              refine sv_cons (s1_ret ?_)
              refine ev_ifExp ?_
              refine tv_cmpD (by assumption) ?_
              refine ev_ix ?_
              refine ev_var 1 rfl (Or.inl rfl) rfl ?_
              refine eq_of ?_
              refine ev_sub ?_
              refine ev_var 0 rfl (Or.inl rfl) rfl ?_
              refine eq_of ?_
              refine ev_int ?_
              refine ⟨_, _, rfl, rfl, _, rfl, _, .inl ⟨_, rfl, atI_ints (by omega) (by omega)⟩, ?_⟩
              refine eq_of ?_
              refine ev_add ?_
              refine ev_ix ?_
              refine ev_var 1 rfl (Or.inl rfl) rfl ?_
              refine eq_of ?_
              refine ev_int ?_
              refine ⟨_, rfl, _, .inl ⟨_, rfl, atI_ints (by decide) (by omega)⟩, ?_⟩
              refine eq_of ?_
              refine ev_var 0 rfl (Or.inl rfl) rfl ?_
              have e2 : (m - 1).toNat = ns.length - 1 := by omega
              rw [e2]
              refine ⟨_, .int, _, .gt, fun h => ?_, fun h => ?_⟩
              · refine ev_str ?_
                have h' : ns.getD 0 0 + m < ns.getD (ns.length - 1) 0 := of_decide_eq_true h
                rw [if_pos h'] at hP
                exact hP
              · refine ev_non ?_
                have h' : ¬ ns.getD 0 0 + m < ns.getD (ns.length - 1) 0 := of_decide_eq_false h
                rw [if_neg h'] at hP
                exact hP
    | _ => cases h1
  · rw [Bool.not_eq_true'] at h1
    refine ⟨fun _ => ?_, fun z => by cases z⟩
    refine sv_cons (s1_ret ?_)
    refine ev_str ?_
    have e : dueD m d = .str "form" := by
      cases d with
      | tup xs => cases h1
      | _ => rfl
    rw [← e]
    exact hP
end
end K10
namespace K10
open PySem PySem.Spec PyProof.Rows L2 U
theorem scAny : FnScope ["urn", "many", "far", "low", "way", "some", "spot", "item"] ["urn", "many", "far"] (defScope sAny) := ⟨rfl, rfl, rfl, by decide +kernel, rfl, by decide +kernel, by decide +kernel⟩
/-- a turn: m heights, rising, at most m apart -/
structure IsTurn (m : Int) (ns : List Int) : Prop where
  len : (ns.length : Int) = m
  up : ns.Pairwise (· ≤ ·)
  lo : ∃ low : Int, -(2 ^ 80) ≤ low ∧ low ≤ 2 ^ 80 ∧ ∀ x ∈ ns, low ≤ x ∧ x ≤ low + m
structure IsSome (m : Int) (ss : List Int) : Prop where
  len : (ss.length : Int) = m
  up : ss.Pairwise (· ≤ ·)
  lo : ∀ x ∈ ss, 0 ≤ x ∧ x ≤ m
theorem IsSome.turn {m low : Int} {ss : List Int} (h : IsSome m ss) (h1 : -(2 ^ 80) ≤ low) (h2 : low ≤ 2 ^ 80) : IsTurn m (ss.map fun x => low + x) :=
  ⟨by rw [List.length_map]; exact h.len, by
    rw [List.pairwise_map]
    exact h.up.imp fun h => by omega, low, h1, h2, fun x hx => by
    obtain ⟨y, hy, rfl⟩ := List.mem_map.mp hx
    have := h.lo y hy
    omega⟩
theorem ints_of {p : Int → Prop} : ∀ {ys : List D}, (∀ y ∈ ys, ∃ i, y = .int i ∧ p i) → ∃ ns : List Int, ys = ns.map D.int ∧ ∀ i ∈ ns, p i
  | [], _ => ⟨[], rfl, fun i h => by cases h⟩
  | y :: ys, h => by
    obtain ⟨i, rfl, hi⟩ := h y List.mem_cons_self
    obtain ⟨ns, rfl, hn⟩ := ints_of fun z hz => h z (List.mem_cons_of_mem _ hz)
    exact ⟨i :: ns, rfl, fun j hj => by
      rcases List.mem_cons.mp hj with e | e
      · rw [e]; exact hi
      · exact hn j e⟩
theorem some_srt {m : Int} {ns : List Int} (hl : (ns.length : Int) = m) (h : ∀ i ∈ ns, 0 ≤ i ∧ i ≤ m) : IsSome m (srt ns) :=
  ⟨by rw [(srt_perm ns).length_eq]; exact hl, srt_pair ns, fun x hx => h x ((srt_perm ns).mem_iff.mp hx)⟩
theorem some_range {m : Int} (h0 : 0 ≤ m) : IsSome m ((List.range m.toNat).map fun (i : Nat) => (0 : Int) + (i : Int)) :=
  ⟨by rw [List.length_map, List.length_range]; omega, by
    rw [List.pairwise_map]
    exact List.pairwise_lt_range.imp fun h => by omega, fun x hx => by
    obtain ⟨y, hy, rfl⟩ := List.mem_map.mp hx
    have := List.mem_range.mp hy
    omega⟩
theorem some_rep {m x : Int} (h0 : 0 ≤ m) (h : 0 ≤ x ∧ x ≤ m) : IsSome m (List.replicate m.toNat x) :=
  ⟨by rw [List.length_replicate]; omega, by
    rw [List.pairwise_replicate]
    exact .inr (Int.le_refl x), fun y hy => by rw [List.eq_of_mem_replicate hy]; exact h⟩
theorem rep_flat (n : Nat) (x : Int) : (List.replicate n [D.int x]).flatten = (List.replicate n x).map D.int := by
  induction n with
  | zero => rfl
  | succ n ih => rw [List.replicate_succ, List.replicate_succ, List.flatten_cons, ih]; rfl
def nAny (u : Addr) (m far low r2 : Int) : Ga → Prop := fun Γ => ∃ ss : List Int, IsSome m ss ∧ Γ = [.dat (.ad u), .dat (.int m), .dat (.int far), .dat (.int low), .dat (.int r2), .dat (.lst (ss.map D.int)), .un, .un]
theorem un_mine {Γ : Ga} {own : List Nat} (h : ∀ m ∈ own, Γ[m]? = some .un) : ∀ m ∈ own, ∀ s, Γ[m]? = some s → s.mine = false := fun m hm s e => by
  rw [h m hm] at e
  cases e
  rfl
def spAny (u : Addr) : Fs := fun ds P _ => ∃ m far : Int, ds = [.ad u, .int m, .int far] ∧ 1 ≤ m ∧ m ≤ 64 ∧ 0 ≤ far ∧ far ≤ 10 ^ 21 ∧ ∀ ns, IsTurn m ns → P (.tup (ns.map D.int))
section
variable {P : Program} {w : World} {K : PySem.W.Frag} {mg : Str → Option Value} {base : Heap} {U : Vol} {u dp : Addr}
theorem ok_any (F : At K mg "_law_any" sAny) (mS : mg "sorted" = none) (mR : mg "range" = none) (mL : mg "list" = none) (mT : mg "tuple" = none) (T : Df P w K mg base "_law_take" sTake 1 2 ["urn", "many"] (urnVol u dp) (spTake u)) (T2 : Df P w K mg base "_law_pick" sPick 2 2 ["urn", "some"] (urnVol u dp) (spPick u)) : Df P w K mg base "_law_any" sAny 3 3 ["urn", "many", "far"] (urnVol u dp) (spAny u) := by
  refine df_mk F scAny rfl (by decide) (fun f fd F => F.binds fun _ _ _ _ _ _ us hl => match us, hl with | [_, _, _], _ => rfl) fun f cdv A outer s H E M ds Pd X bd hl hS => ?_
  obtain ⟨m, far, rfl, hm1, hm2, hf1, hf2, hP⟩ := hS
  refine sv_cons (s1_asgG ?_)
  refine ev_tup ?_
  refine av_cons ?_
  refine ev_sub ?_
  refine ev_def (by assumption) (by assumption) (by decide) rfl ?_
  refine av_cons ?_
  refine ev_var 0 rfl (Or.inr (Or.inl rfl)) rfl ?_
  refine av_cons ?_
  refine ev_add ?_
  refine ev_mul ?_
  refine ev_int ?_
  refine eq_of ?_
  refine ev_var 2 rfl (Or.inl rfl) rfl ?_
  refine ⟨_, .int (.inl ⟨by decide, by decide⟩), ?_⟩
  refine eq_of ?_
  refine ev_int ?_
  refine ⟨_, .int, ?_⟩
  refine av_nil ?_
  refine ⟨rfl, _, rfl, Int.lt_of_le_of_lt (show 2 * far + 1 ≤ 2 * 10 ^ 21 + 1 by omega) (by decide), fun r hr0 hr1 => ?_⟩
  refine eq_of ?_
  refine ev_var 2 rfl (Or.inl rfl) rfl ?_
  refine ⟨r, far, rfl, rfl, ?_⟩
  refine av_cons ?_
  refine ev_def (by assumption) (by assumption) (by decide) rfl ?_
  refine av_cons ?_
  refine ev_var 0 rfl (Or.inr (Or.inl rfl)) rfl ?_
  refine av_cons ?_
  refine ev_int ?_
  refine av_nil ?_
  refine ⟨rfl, 4, rfl, by decide, fun r2 hr2 hr3 => ?_⟩
  refine av_nil ?_
  refine ⟨(show 2 ≤ 16777216 by decide), ?_⟩
  have hl1 : -(2 ^ 80) ≤ r - far := by
    have : (10 : Int) ^ 21 ≤ 2 ^ 80 := by decide
    omega
  have hl2 : r - far ≤ 2 ^ 80 := by
    have : (10 : Int) ^ 21 ≤ 2 ^ 80 := by decide
    omega
  generalize r - far = low at hl1 hl2
  refine gv_two 3 4 bd.calm bd.nd rfl rfl (Or.inr rfl) (Or.inl rfl) (show 3 < 8 by decide) (show 4 < 8 by decide) ?_
  refine sv_mid (nAny u m far low r2) (s1_set bd 5 rfl (Or.inr rfl) (show 5 < 8 by decide) ?_) ?_
  · refine ev_sorted (by assumption) ?_ rfl
    refine eq_of ?_
    refine ev_lcR [("spot", 6)] bd (blkOk_by (N := ["urn", "many", "far", "low", "way", "some", "spot", "item"]) (sc := defScope sAny) (by decide +kernel)) ?_
    refine iv_range1 (by assumption) ?_ rfl
    refine ev_var 1 rfl (Or.inr (Or.inl rfl)) rfl ?_
    refine ⟨m, rfl, by omega, by omega, by rw [rangeD_length]; omega, un_mine fun i hi => by rw [List.mem_singleton.mp hi]; rfl, fun _ y => ∃ i, y = .int i ∧ 0 ≤ i ∧ i ≤ m, fun x hx Dl s H C cl fp => ?_, fun ys hy => ?_⟩
    · refine gw_name 6 bd.nd rfl (Or.inl rfl) (show 6 < 8 by decide) fun s H C cl fp bd => ?_
      refine ev_def (by assumption) (by assumption) (by decide) rfl ?_
      refine av_cons ?_
      refine ev_var 0 rfl (Or.inr (Or.inl rfl)) rfl ?_
      refine av_cons ?_
      refine ev_add ?_
      refine ev_var 1 rfl (Or.inr (Or.inl rfl)) rfl ?_
      refine eq_of ?_
      refine ev_int ?_
      refine ⟨_, .int, ?_⟩
      refine av_nil ?_
      exact ⟨rfl, _, rfl, Int.lt_of_le_of_lt (show m + 1 ≤ 65 by omega) (by decide), fun r h0 h1 => ⟨rfl, r, rfl, h0, by omega⟩⟩
    · obtain ⟨ns, rfl, hn⟩ := ints_of (p := fun i => 0 ≤ i ∧ i ≤ m) hy.all
      have hl2 := hy.length
      rw [List.length_map, rangeD_length] at hl2
      exact ⟨ns, rfl, srt ns, some_srt (by omega) hn, rfl⟩
  rintro Γ ⟨ss, hs, rfl⟩
  refine sv_mid (nAny u m far low r2) (s1_if ?_) ?_
  · refine tv_cmpD (by assumption) ?_
    refine ev_var 4 rfl (Or.inl rfl) rfl ?_
    refine eq_of ?_
    refine ev_int ?_
    refine ⟨_, .eqI, fun h => ?_, fun h => sv_nil ⟨ss, hs, rfl⟩⟩
    refine sv_cons (s1_set bd 5 rfl (Or.inr rfl) (show 5 < 8 by decide) ?_)
    refine ev_listRg (by assumption) (by assumption) (by assumption) ?_ rfl rfl
    refine ev_var 1 rfl (Or.inr (Or.inl rfl)) rfl ?_
    exact ⟨m, rfl, by omega, by omega, sv_nil ⟨_, some_range (by omega), by rw [rangeD_ints]; rfl⟩⟩
  clear hs
  rintro Γ ⟨ss, hs, rfl⟩
  refine sv_mid (nAny u m far low r2) (s1_if ?_) ?_
  · refine tv_cmpD (by assumption) ?_
    refine ev_var 4 rfl (Or.inl rfl) rfl ?_
    refine eq_of ?_
    refine ev_int ?_
    refine ⟨_, .eqI, fun h => ?_, fun h => sv_nil ⟨ss, hs, rfl⟩⟩
    refine sv_cons (s1_set bd 5 rfl (Or.inr rfl) (show 5 < 8 by decide) ?_)
    refine ev_mul ?_
    refine ev_lst ?_
    refine av_cons ?_
    refine ev_def (by assumption) (by assumption) (by decide) rfl ?_
    refine av_cons ?_
    refine ev_var 0 rfl (Or.inr (Or.inl rfl)) rfl ?_
    refine av_cons ?_
    refine ev_lst ?_
    refine av_cons ?_
    refine ev_int ?_
    refine av_cons ?_
    refine ev_var 1 rfl (Or.inr (Or.inl rfl)) rfl ?_
    refine av_nil ?_
    refine ⟨(show 2 ≤ 16777216 by decide), ?_⟩
    refine av_nil ?_
    refine ⟨rfl, _, _, rfl, rfl, by simp, (show 2 ≤ 1000000 by decide), fun d hd => ?_⟩
    obtain ⟨x, rfl, hx⟩ : ∃ x, d = .int x ∧ 0 ≤ x ∧ x ≤ m := by
      rcases List.mem_cons.mp hd with e | e
      · exact ⟨0, e, by omega, by omega⟩
      · exact ⟨m, List.mem_singleton.mp e, by omega, by omega⟩
    refine av_nil ?_
    refine ⟨(show 1 ≤ 16777216 by decide), ?_⟩
    refine eq_of ?_
    refine ev_var 1 rfl (Or.inr (Or.inl rfl)) rfl ?_
    refine ⟨_, .lst (by omega) (by omega) (by simp; omega), sv_nil ⟨_, some_rep (by omega) hx, ?_⟩⟩
    rw [rep_flat]
    rfl
  clear hs
  rintro Γ ⟨ss, hs, rfl⟩
  refine sv_mid (nAny u m far low r2) (s1_if ?_) ?_
  · refine tv_cmpD (by assumption) ?_
    refine ev_var 4 rfl (Or.inl rfl) rfl ?_
    refine eq_of ?_
    refine ev_int ?_
    refine ⟨_, .eqI, fun h => ?_, fun h => sv_nil ⟨ss, hs, rfl⟩⟩
    refine sv_cons (s1_set bd 5 rfl (Or.inr rfl) (show 5 < 8 by decide) ?_)
    refine ev_sorted (by assumption) ?_ rfl
    refine eq_of ?_
    refine ev_lcR [("spot", 6)] bd (blkOk_by (N := ["urn", "many", "far", "low", "way", "some", "spot", "item"]) (sc := defScope sAny) (by decide +kernel)) ?_
    refine iv_range1 (by assumption) ?_ rfl
    refine ev_var 1 rfl (Or.inr (Or.inl rfl)) rfl ?_
    refine ⟨m, rfl, by omega, by omega, by rw [rangeD_length]; omega, un_mine fun i hi => by rw [List.mem_singleton.mp hi]; rfl, fun _ y => ∃ i, y = .int i ∧ 0 ≤ i ∧ i ≤ m, fun x hx Dl s H C cl fp => ?_, fun ys hy => ?_⟩
    · refine gw_name 6 bd.nd rfl (Or.inl rfl) (show 6 < 8 by decide) fun s H C cl fp bd => ?_
      refine ev_def (by assumption) (by assumption) (by decide) rfl ?_
      refine av_cons ?_
      refine ev_var 0 rfl (Or.inr (Or.inl rfl)) rfl ?_
      refine av_cons ?_
      refine ev_var 5 rfl (Or.inr (Or.inl rfl)) rfl ?_
      refine av_nil ?_
      refine ⟨rfl, _, _, rfl, rfl, fun z => ?_, ?_, fun d hd => ⟨rfl, ?_⟩⟩
      · have hz := hs.len
        rw [List.map_eq_nil_iff.mp z, List.length_nil] at hz
        omega
      · have := hs.len
        rw [List.length_map]
        omega
      · obtain ⟨i, hi, rfl⟩ := List.mem_map.mp hd
        exact ⟨i, rfl, hs.lo i hi⟩
    · obtain ⟨ns, rfl, hn⟩ := ints_of (p := fun i => 0 ≤ i ∧ i ≤ m) hy.all
      have hl2 := hy.length
      rw [List.length_map, rangeD_length] at hl2
      exact ⟨ns, rfl, sv_nil ⟨srt ns, some_srt (by omega) hn, rfl⟩⟩
  clear hs
  rintro Γ ⟨ss, hs, rfl⟩
  refine sv_cons (s1_ret ?_)
  refine ev_tupleOf (by assumption) ?_ rfl
  refine eq_of ?_
  refine ev_lcR [("item", 7)] bd (blkOk_by (N := ["urn", "many", "far", "low", "way", "some", "spot", "item"]) (sc := defScope sAny) (by decide +kernel)) ?_
  refine iv_list ?_
  refine ev_var 5 rfl (Or.inr (Or.inl rfl)) rfl ?_
  refine ⟨_, rfl, ?_, un_mine fun i hi => by rw [List.mem_singleton.mp hi]; rfl, fun x y => y = .int (low + toI x), fun x hx Dl s H C cl fp => ?_, fun ys hy => ?_⟩
  · have := hs.len
    rw [List.length_map]
    omega
  · obtain ⟨i, hi, rfl⟩ := List.mem_map.mp hx
    refine gw_name 7 bd.nd rfl (Or.inl rfl) (show 7 < 8 by decide) fun s H C cl fp bd => ?_
    refine ev_add ?_
    refine ev_var 3 rfl (Or.inr (Or.inl rfl)) rfl ?_
    refine eq_of ?_
    refine ev_var 7 rfl (Or.inl rfl) rfl ?_
    exact ⟨_, .int, rfl, rfl⟩
  · have e : ys = (ss.map fun x => low + x).map D.int := by
      rw [hy.eq, List.map_map, List.map_map]
      rfl
    rw [e]
    exact ⟨_, rfl, hP _ (hs.turn hl1 hl2)⟩
end
end K10
namespace K10
open PySem PySem.Spec PyProof.Rows L2 U
theorem scValues : FnScope ["urn", "turn", "many", "spot", "by", "odd", "found", "item"] ["urn", "turn"] (defScope sValues) := ⟨rfl, rfl, rfl, by decide +kernel, rfl, by decide +kernel, by decide +kernel⟩
theorem small_b {i : Int} (h1 : -(2 ^ 90) ≤ i) (h2 : i ≤ 2 ^ 90) : Small (.int i) := small_int (Nat.lt_of_le_of_lt (show i.natAbs ≤ 2 ^ 90 by omega) (by decide))
theorem IsTurn.get {m : Int} {ns : List Int} (h : IsTurn m ns) (hm : m ≤ 64) {i : Nat} (hi : i < ns.length) : -(2 ^ 81) ≤ ns.getD i 0 ∧ ns.getD i 0 ≤ 2 ^ 81 := by
  obtain ⟨low, h1, h2, h3⟩ := h.lo
  have e : ns.getD i 0 = ns[i] := by simp [List.getD, hi]
  have := h3 ns[i] (List.getElem_mem hi)
  rw [e]
  omega
theorem IsTurn.all {m : Int} {ns : List Int} (h : IsTurn m ns) (hm : m ≤ 64) : ∀ x ∈ ns, -(2 ^ 81) ≤ x ∧ x ≤ 2 ^ 81 := fun x hx => by
  obtain ⟨low, h1, h2, h3⟩ := h.lo
  have := h3 x hx
  omega
theorem all_cons {p : D → Prop} {x : D} {xs : List D} (h : p x) (h2 : ∀ y ∈ xs, p y) : ∀ y ∈ x :: xs, p y := List.forall_mem_cons.mpr ⟨h, h2⟩
theorem all_nil {p : D → Prop} : ∀ y ∈ ([] : List D), p y := fun y h => by cases h
theorem all_app {p : D → Prop} {xs ys : List D} (h : ∀ y ∈ xs, p y) (h2 : ∀ y ∈ ys, p y) : ∀ y ∈ xs ++ ys, p y := fun y hy => (List.mem_append.mp hy).elim (h y) (h2 y)
theorem small_non : Small .non := ⟨rfl, rk_non.le (by decide) (Nat.le_refl 3)⟩
theorem small_bl (b : Bool) : Small (.bl b) := ⟨rfl, rk_bl.le (by decide) (Nat.le_refl 3)⟩
theorem small_str {x : Str} (h : (x.cps.toList.all fun c => decide (c < 16 ^ 8)) = true) (hl : 10 * x.length + 2 ≤ 700) : Small (.str x) := ⟨rfl, (rk_str (k := 3) fun c hc => of_decide_eq_true (List.all_eq_true.mp h c hc)).le hl (Nat.le_refl 3)⟩
theorem small_t0 : Small (.tup [.int 0]) := ⟨rfl, (rk_tup (rka_cons (rk_int (n := 1) (k := 1) (by decide) (by decide) (by decide)) rka_nil)).le (by decide) (by decide)⟩
theorem small_l1 : Small (.lst [.int 1]) := ⟨rfl, (rk_lst (rka_cons (rk_int (n := 1) (k := 1) (by decide) (by decide) (by decide)) rka_nil)).le (by decide) (by decide)⟩
theorem good_int {i : Int} (h : Small (.int i)) : Good (.int i) := ⟨rfl, fun xs e => (by cases e), h.shown⟩
theorem good_non : Good .non := ⟨rfl, fun xs e => (by cases e), small_non.shown⟩
theorem good_str {x : Str} (h : Shown (.str x)) : Good (.str x) := ⟨rfl, fun xs e => (by cases e), h⟩
theorem good_dic : Good (.dic []) := ⟨rfl, fun xs e => (by cases e), .inr rfl⟩
def spValues (u : Addr) : Fs := fun ds P _ => ∃ (m : Int) (ns : List Int), ds = [.ad u, .tup (ns.map D.int)] ∧ 1 ≤ m ∧ m ≤ 64 ∧ IsTurn m ns ∧ ∀ xs, (∀ x ∈ xs, Good x) → xs.length ≤ 100 → P (.lst xs)
def nVal (u : Addr) (ns : List Int) (m r b : Int) (odd : D) (n : Nat) : Ga → Prop := fun Γ => ∃ xs, (∀ x ∈ xs, Good x) ∧ xs.length ≤ n ∧ Γ = [.dat (.ad u), .dat (.tup (ns.map D.int)), .dat (.int m), .dat (.int r), .dat (.int b), .dat odd, .dat (.lst xs), .un]
def nOwn (u : Addr) (ns : List Int) (m r b : Int) (odd : D) (n : Nat) : Ga → Prop := fun Γ => ∃ xs, (∀ x ∈ xs, Good x) ∧ xs.length ≤ n ∧ Γ = [.dat (.ad u), .dat (.tup (ns.map D.int)), .dat (.int m), .dat (.int r), .dat (.int b), .dat odd, .own xs, .un]
section
variable {P : Program} {w : World} {K : PySem.W.Frag} {mg : Str → Option Value} {base : Heap} {U : Vol} {u dp : Addr}
theorem ok_values (F : At K mg "_law_values" sValues) (mN : mg "len" = none) (mL : mg "list" = none) (mT : mg "tuple" = none) (mS : mg "str" = none) (T : Df P w K mg base "_law_take" sTake 1 2 ["urn", "many"] (urnVol u dp) (spTake u)) (T2 : Df P w K mg base "_law_pick" sPick 2 2 ["urn", "some"] (urnVol u dp) (spPick u)) : Df P w K mg base "_law_values" sValues 3 2 ["urn", "turn"] (urnVol u dp) (spValues u) := by
  refine df_mk F scValues rfl (by decide) (fun f fd F => F.binds fun _ _ _ _ _ _ us hl => match us, hl with | [_, _], _ => rfl) fun f cdv A outer s H E M ds Pd X bd hl hS => ?_
  obtain ⟨m, ns, rfl, hm1, hm2, ht, hP⟩ := hS
  have hlen : (ns.length : Int) = m := ht.len
  have hLl : (ns.map D.int).length = ns.length := List.length_map _
  have n64 : ns.length ≤ 64 := by omega
  have hL : Smalls (ns.map D.int) 64 := ⟨by omega, (Smalls.ints fun i hi => Nat.lt_of_le_of_lt (show i.natAbs ≤ 2 ^ 90 by have := ht.all hm2 i hi; omega) (by decide)).2⟩
  have hc : ∀ lo hi, (cut (ns.map D.int) lo hi).length ≤ 64 := fun lo hi => (hL.cut lo hi).1
  refine sv_cons (s1_asgG ?_)
  refine ev_tup ?_
  refine av_cons ?_
  refine ev_len (by assumption) ?_ rfl
  refine eq_of ?_
  refine ev_var 1 rfl (Or.inl rfl) rfl ?_
  refine ⟨_, rfl, ?_⟩
  rw [hLl, hlen]
  refine av_cons ?_
  refine ev_def (by assumption) (by assumption) (by decide) rfl ?_
  refine av_cons ?_
  refine ev_var 0 rfl (Or.inl rfl) rfl ?_
  refine av_cons ?_
  refine ev_len (by assumption) ?_ rfl
  refine eq_of ?_
  refine ev_var 1 rfl (Or.inl rfl) rfl ?_
  refine ⟨_, rfl, ?_⟩
  rw [hLl, hlen]
  refine av_nil ?_
  refine ⟨rfl, m, rfl, Int.lt_of_le_of_lt hm2 (by decide), fun r hr0 hr1 => ?_⟩
  refine av_nil ?_
  refine ⟨(show 2 ≤ 16777216 by decide), ?_⟩
  refine gv_two 2 3 bd.calm bd.nd rfl rfl (Or.inr rfl) (Or.inl rfl) (show 2 < 8 by decide) (show 3 < 8 by decide) ?_
  have hr2 : r < (ns.length : Int) := by omega
  refine sv_cons (s1_par bd 4 5 rfl rfl (by decide) rfl rfl (show 4 < 8 by decide) (show 5 < 8 by decide) ?_ rfl)
  refine av_cons ?_
  refine ev_def (by assumption) (by assumption) (by decide) rfl ?_
  refine av_cons ?_
  refine ev_var 0 rfl (Or.inl rfl) rfl ?_
  refine av_cons ?_
  refine ev_lst ?_
  refine av_cons ?_
  refine ev_int ?_
  refine av_cons ?_
  refine ev_neg ?_
  refine eq_of ?_
  refine ev_int ?_
  refine ⟨1, rfl, ?_⟩
  refine av_cons ?_
  refine ev_var 2 rfl (Or.inr (Or.inl rfl)) rfl ?_
  refine av_cons ?_
  refine ev_neg ?_
  refine eq_of ?_
  refine ev_var 2 rfl (Or.inr (Or.inl rfl)) rfl ?_
  refine ⟨m, rfl, ?_⟩
  refine av_nil ?_
  refine ⟨(show 4 ≤ 16777216 by decide), ?_⟩
  refine av_nil ?_
  refine ⟨rfl, _, _, rfl, rfl, by simp, (show 4 ≤ 1000000 by decide), fun d hd => ?_⟩
  obtain ⟨b, rfl, hb1, hb2⟩ : ∃ b, d = .int b ∧ -64 ≤ b ∧ b ≤ 64 := by
    simp only [List.mem_cons, List.not_mem_nil, or_false] at hd
    rcases hd with rfl | rfl | rfl | rfl
    · exact ⟨_, rfl, by omega, by omega⟩
    · exact ⟨_, rfl, by omega, by omega⟩
    · exact ⟨_, rfl, by omega, by omega⟩
    · exact ⟨_, rfl, by omega, by omega⟩
  refine av_cons ?_
  refine ev_def (by assumption) (by assumption) (by decide) rfl ?_
  refine av_cons ?_
  refine ev_var 0 rfl (Or.inl rfl) rfl ?_
  refine av_cons ?_
  refine ev_lst ?_
  refine av_cons ?_
  refine ev_bl ?_
  refine av_cons ?_
  refine ev_bl ?_
  refine av_cons ?_
  refine ev_non ?_
  refine av_cons ?_
  refine ev_str ?_
  refine av_cons ?_
  refine ev_tup ?_
  refine av_cons ?_
  refine ev_int ?_
  refine av_nil ?_
  refine ⟨(show 1 ≤ 16777216 by decide), ?_⟩
  refine av_cons ?_
  refine ev_lst ?_
  refine av_cons ?_
  refine ev_int ?_
  refine av_nil ?_
  refine ⟨(show 1 ≤ 16777216 by decide), ?_⟩
  refine av_nil ?_
  refine ⟨(show 6 ≤ 16777216 by decide), ?_⟩
  refine av_nil ?_
  refine ⟨rfl, _, _, rfl, rfl, by simp, (show 6 ≤ 1000000 by decide), fun odd hodd => ?_⟩
  have so : Small odd := by
    simp only [List.mem_cons, List.not_mem_nil, or_false] at hodd
    rcases hodd with rfl | rfl | rfl | rfl | rfl | rfl
    · exact small_bl _
    · exact small_bl _
    · exact small_non
    · exact small_str (by decide) (by decide)
    · exact small_t0
    · exact small_l1
  clear hodd hd
  refine av_nil ?_
  refine ⟨_, _, rfl, ?_⟩
  have g0 := ht.get hm2 (i := 0) (by omega)
  have gr := ht.get hm2 (i := r.toNat) (by omega)
  refine sv_mid (nVal u ns m r b odd 5) (s1_set bd 6 rfl (Or.inl rfl) (show 6 < 8 by decide) ?_) ?_
  · refine ev_lst ?_
    refine av_cons ?_
    refine ev_var 1 rfl (Or.inl rfl) rfl ?_
    refine av_cons ?_
    refine ev_add ?_
    refine ev_add ?_
    refine ev_slice ?_
    refine ev_var 1 rfl (Or.inl rfl) rfl ?_
    refine ev_var 3 rfl (Or.inl rfl) rfl ?_
    refine ⟨_, rfl, _, .tup _, ?_⟩
    refine eq_of ?_
    refine ev_tup ?_
    refine av_cons ?_
    refine ev_add ?_
    refine ev_ix ?_
    refine ev_var 1 rfl (Or.inl rfl) rfl ?_
    refine eq_of ?_
    refine ev_var 3 rfl (Or.inl rfl) rfl ?_
    refine ⟨_, rfl, _, .inl ⟨_, rfl, atI_ints hr0 hr2⟩, ?_⟩
    refine eq_of ?_
    refine ev_var 4 rfl (Or.inl rfl) rfl ?_
    refine ⟨_, .int, ?_⟩
    refine av_nil ?_
    refine ⟨(show 1 ≤ 16777216 by decide), _, .tup (by have := hc none (some r); simp; omega), ?_⟩
    refine eq_of ?_
    refine ev_slice ?_
    refine ev_var 1 rfl (Or.inl rfl) rfl ?_
    refine ev_add ?_
    refine ev_var 3 rfl (Or.inl rfl) rfl ?_
    refine eq_of ?_
    refine ev_int ?_
    refine ⟨_, .int, _, rfl, _, .tup _, _, .tup (by have := hc none (some r); have := hc (some (r + 1)) none; simp; omega), ?_⟩
    refine av_cons ?_
    refine ev_revT ?_
    refine ev_var 1 rfl (Or.inl rfl) rfl ?_
    refine ⟨_, rfl, ?_⟩
    refine av_cons ?_
    refine ev_slice ?_
    refine ev_var 1 rfl (Or.inl rfl) rfl ?_
    refine ev_int ?_
    refine ⟨_, rfl, _, .tup _, ?_⟩
    refine av_cons ?_
    refine ev_add ?_
    refine ev_var 1 rfl (Or.inl rfl) rfl ?_
    refine eq_of ?_
    refine ev_slice ?_
    refine ev_var 1 rfl (Or.inl rfl) rfl ?_
    refine ev_neg ?_
    refine eq_of ?_
    refine ev_int ?_
    refine ⟨1, rfl, _, rfl, _, .tup _, _, .tup (by have := hc (some (-1)) none; omega), ?_⟩
    refine av_nil ?_
    refine ⟨(show 5 ≤ 16777216 by decide), _, ?_, ?_, rfl⟩
    · exact all_cons (hL.gtup (by decide)) (all_cons ((((hL.cut _ _).app (.one (small_b (by omega) (by omega)))).app (hL.cut _ _)).gtup (by decide)) (all_cons (hL.rev.gtup (by decide)) (all_cons ((hL.cut _ _).gtup (by decide)) (all_cons ((hL.app (hL.cut _ _)).gtup (by decide)) all_nil))))
    · exact (show 5 ≤ 5 by decide)
  rintro Γ ⟨xs, hxs, hxl, rfl⟩
  refine sv_mid (nVal u ns m r b odd 8) (s1_set bd 6 rfl (Or.inl rfl) (show 6 < 8 by decide) ?_) ?_
  · refine ev_add ?_
    refine ev_var 6 rfl (Or.inl rfl) rfl ?_
    refine eq_of ?_
    refine ev_lst ?_
    refine av_cons ?_
    refine ev_listOf (by assumption) ?_ rfl
    refine eq_of ?_
    refine ev_var 1 rfl (Or.inl rfl) rfl ?_
    refine ⟨_, rfl, ?_⟩
    refine av_cons ?_
    refine ev_add ?_
    refine ev_add ?_
    refine ev_slice ?_
    refine ev_var 1 rfl (Or.inl rfl) rfl ?_
    refine ev_var 3 rfl (Or.inl rfl) rfl ?_
    refine ⟨_, rfl, _, .tup _, ?_⟩
    refine eq_of ?_
    refine ev_tup ?_
    refine av_cons ?_
    refine ev_var 5 rfl (Or.inl rfl) rfl ?_
    refine av_nil ?_
    refine ⟨(show 1 ≤ 16777216 by decide), _, .tup (by have := hc none (some r); simp; omega), ?_⟩
    refine eq_of ?_
    refine ev_slice ?_
    refine ev_var 1 rfl (Or.inl rfl) rfl ?_
    refine ev_add ?_
    refine ev_var 3 rfl (Or.inl rfl) rfl ?_
    refine eq_of ?_
    refine ev_int ?_
    refine ⟨_, .int, _, rfl, _, .tup _, _, .tup (by have := hc none (some r); have := hc (some (r + 1)) none; simp; omega), ?_⟩
    refine av_cons ?_
    refine ev_add ?_
    refine ev_slice ?_
    refine ev_var 1 rfl (Or.inl rfl) rfl ?_
    refine ev_neg ?_
    refine eq_of ?_
    refine ev_int ?_
    refine ⟨1, rfl, _, rfl, _, .tup _, ?_⟩
    refine eq_of ?_
    refine ev_tup ?_
    refine av_cons ?_
    refine ev_add ?_
    refine ev_ix ?_
    refine ev_var 1 rfl (Or.inl rfl) rfl ?_
    refine eq_of ?_
    refine ev_int ?_
    refine ⟨_, rfl, _, .inl ⟨_, rfl, atI_ints (by decide) (by omega)⟩, ?_⟩
    refine eq_of ?_
    refine ev_var 2 rfl (Or.inr (Or.inl rfl)) rfl ?_
    refine ⟨_, .int, ?_⟩
    refine av_nil ?_
    refine ⟨(show 1 ≤ 16777216 by decide), _, .tup (by have := hc none (some (-1)); simp; omega), ?_⟩
    refine av_nil ?_
    refine ⟨(show 3 ≤ 16777216 by decide), _, .lst (by simp; omega), _, all_app hxs ?_, ?_, rfl⟩
    · exact all_cons (hL.glst (by decide)) (all_cons ((((hL.cut _ _).app (.one so)).app (hL.cut _ _)).gtup (by decide)) (all_cons (((hL.cut _ _).app (.one (small_b (by have := g0.1; simp at this ⊢; omega) (by have := g0.2; simp at this ⊢; omega)))).gtup (by decide)) all_nil))
    · simp; omega
  clear hxs hxl
  rintro Γ ⟨xs, hxs, hxl, rfl⟩
  refine sv_mid (nOwn u ns m r b odd 15) (s1_setCat bd 6 rfl (Or.inl rfl) (show 6 < 8 by decide) ?_) ?_
  · refine ev_var 6 rfl (Or.inl rfl) rfl ?_
    refine eq_of ?_
    refine ev_lst ?_
    refine av_cons ?_
    refine ev_add ?_
    refine ev_slice ?_
    refine ev_var 1 rfl (Or.inl rfl) rfl ?_
    refine ev_neg ?_
    refine eq_of ?_
    refine ev_int ?_
    refine ⟨1, rfl, _, rfl, _, .tup _, ?_⟩
    refine eq_of ?_
    refine ev_tup ?_
    refine av_cons ?_
    refine ev_add ?_
    refine ev_add ?_
    refine ev_ix ?_
    refine ev_var 1 rfl (Or.inl rfl) rfl ?_
    refine eq_of ?_
    refine ev_int ?_
    refine ⟨_, rfl, _, .inl ⟨_, rfl, atI_ints (by decide) (by omega)⟩, ?_⟩
    refine eq_of ?_
    refine ev_var 2 rfl (Or.inr (Or.inl rfl)) rfl ?_
    refine ⟨_, .int, ?_⟩
    refine eq_of ?_
    refine ev_int ?_
    refine ⟨_, .int, ?_⟩
    refine av_nil ?_
    refine ⟨(show 1 ≤ 16777216 by decide), _, .tup (by have := hc none (some (-1)); simp; omega), ?_⟩
    refine av_cons ?_
    refine ev_add ?_
    refine ev_slice ?_
    refine ev_var 1 rfl (Or.inl rfl) rfl ?_
    refine ev_var 3 rfl (Or.inl rfl) rfl ?_
    refine ⟨_, rfl, _, .tup _, ?_⟩
    refine eq_of ?_
    refine ev_slice ?_
    refine ev_var 1 rfl (Or.inl rfl) rfl ?_
    refine ev_var 3 rfl (Or.inl rfl) rfl ?_
    refine ⟨_, rfl, _, .tup _, _, .tup (by have := hc none (some r); have := hc (some r) none; omega), ?_⟩
    refine av_cons ?_
    refine ev_non ?_
    refine av_cons ?_
    refine ev_tup ?_
    refine av_nil ?_
    refine ⟨(show 0 ≤ 16777216 by decide), ?_⟩
    refine av_cons ?_
    refine ev_dicE ?_
    refine av_cons ?_
    refine ev_str ?_
    refine av_cons ?_
    refine ev_ix ?_
    refine ev_var 1 rfl (Or.inl rfl) rfl ?_
    refine eq_of ?_
    refine ev_int ?_
    refine ⟨_, rfl, _, .inl ⟨_, rfl, atI_ints (by decide) (by omega)⟩, ?_⟩
    refine av_nil ?_
    refine ⟨(show 7 ≤ 16777216 by decide), _, _, rfl, rfl, by simp; omega, _, all_app hxs ?_, ?_, rfl⟩
    · exact all_cons (((hL.cut _ _).app (.one (small_b (by have := g0.1; simp at this ⊢; omega) (by have := g0.2; simp at this ⊢; omega)))).gtup (by decide)) (all_cons (((hL.cut _ _).app (hL.cut _ _)).gtup (by decide)) (all_cons good_non (all_cons (Smalls.gtup (n := 0) (xs := []) ⟨Nat.le_refl 0, all_nil⟩ (by decide)) (all_cons good_dic (all_cons (good_str (small_str (by decide) (by decide)).shown) (all_cons (good_int (small_b (by have := g0.1; simp at this ⊢; omega) (by have := g0.2; simp at this ⊢; omega))) all_nil))))))
    · simp; omega
  clear hxs hxl
  rintro Γ ⟨xs, hxs, hxl, rfl⟩
  refine sv_mid (nOwn u ns m r b odd 16) (s1_append 6 rfl (Or.inl rfl) rfl rfl ?_) ?_
  · refine ev_add ?_
    refine ev_slice ?_
    refine ev_revT ?_
    refine ev_var 1 rfl (Or.inl rfl) rfl ?_
    refine ⟨_, rfl, ?_⟩
    refine ev_neg ?_
    refine eq_of ?_
    refine ev_int ?_
    refine ⟨1, rfl, _, rfl, _, .tup _, ?_⟩
    refine eq_of ?_
    refine ev_tup ?_
    refine av_cons ?_
    refine ev_var 5 rfl (Or.inl rfl) rfl ?_
    refine av_nil ?_
    refine ⟨(show 1 ≤ 16777216 by decide), _, .tup (by have := (hL.rev.cut none (some (-1))).1; simp; omega), _, rfl, by omega, _, all_app hxs ?_, ?_, rfl⟩
    · exact all_cons (((hL.rev.cut _ _).app (.one so)).gtup (by decide)) all_nil
    · simp; omega
  clear hxs hxl
  rintro Γ ⟨xs, hxs, hxl, rfl⟩
  refine sv_cons (s1_ret (ev2o 6 rfl (Or.inl rfl) rfl (fun h1 h2 => pe_op op_cat h1 h2) ?_))
  refine eq_of ?_
  refine ev_lst ?_
  refine av_cons ?_
  refine ev_add ?_
  refine ev_tupleOf (by assumption) ?_ rfl
  refine eq_of ?_
  refine ev_lcR [("item", 7)] bd (blkOk_by (N := ["urn", "turn", "many", "spot", "by", "odd", "found", "item"]) (sc := defScope sValues) (by decide +kernel)) ?_
  refine iv_tup ?_
  refine ev_slice ?_
  refine ev_var 1 rfl (Or.inl rfl) rfl ?_
  refine ev_var 3 rfl (Or.inl rfl) rfl ?_
  refine ⟨_, rfl, _, .tup _, _, rfl, by have := hc none (some r); omega, un_mine fun i hi => by rw [List.mem_singleton.mp hi]; rfl, fun x y => ∃ i, y = .int i ∧ -(2 ^ 90) ≤ i ∧ i ≤ 2 ^ 90, fun x hx Dl s H C cl fp => ?_, fun ys hy => ?_⟩
  · obtain ⟨i, hi, rfl⟩ := List.mem_map.mp (mem_cut hx)
    have hi2 := ht.all hm2 i hi
    refine gw_name 7 bd.nd rfl (Or.inl rfl) (show 7 < 8 by decide) fun s H C cl fp bd => ?_
    refine ev_add ?_
    refine ev_var 7 rfl (Or.inl rfl) rfl ?_
    refine eq_of ?_
    refine ev_var 2 rfl (Or.inr (Or.inl rfl)) rfl ?_
    exact ⟨_, .int, rfl, _, rfl, by omega, by omega⟩
  · obtain ⟨ms, rfl, hms⟩ := ints_of (p := fun i => -(2 ^ 90) ≤ i ∧ i ≤ 2 ^ 90) hy.all
    have hyl := hy.length
    rw [List.length_map] at hyl
    have hyl2 := hc none (some r)
    have hM : Smalls (ms.map D.int) 64 := ⟨by rw [List.length_map]; omega, fun x hx => by
      obtain ⟨i, hi, rfl⟩ := List.mem_map.mp hx
      exact small_b (hms i hi).1 (hms i hi).2⟩
    refine ⟨_, rfl, ?_⟩
    refine eq_of ?_
    refine ev_slice ?_
    refine ev_var 1 rfl (Or.inl rfl) rfl ?_
    refine ev_var 3 rfl (Or.inl rfl) rfl ?_
    refine ⟨_, rfl, _, .tup _, _, .tup (by have := hM.1; have := hc (some r) none; omega), ?_⟩
    refine av_cons ?_
    refine ev_tup ?_
    refine av_cons ?_
    refine ev_var 1 rfl (Or.inl rfl) rfl ?_
    refine av_nil ?_
    refine ⟨(show 1 ≤ 16777216 by decide), ?_⟩
    refine av_cons ?_
    refine ev_strOf (by assumption) (by have := bd.hr.un; omega) (by assumption) ?_ rfl
    refine eq_of ?_
    refine ev_var 1 rfl (Or.inl rfl) rfl ?_
    refine ⟨⟨rfl, _, _, rk_tup hL.rka, by omega, by omega⟩, ?_⟩
    refine av_nil ?_
    refine ⟨(show 3 ≤ 16777216 by decide), rfl, _, vo_cat (by simp; omega), hP _ (all_app hxs ?_) (by simp; omega)⟩
    have gT : Good (.tup [.tup (ns.map D.int)]) := ⟨rfl, fun xs e x hx => by
      cases e
      rw [List.mem_singleton.mp hx]
      rfl, .inl ⟨_, _, rk_tup (rka_cons (rk_tup hL.rka) rka_nil), by omega, by omega⟩⟩
    exact all_cons ((hM.app (hL.cut _ _)).gtup (by decide)) (all_cons gT (all_cons (good_str (shown_str_tup (rk_tup hL.rka) (by omega))) all_nil))
end
end K10
namespace K10
open PySem PySem.Spec PyProof.Rows L2 U
theorem scIsLed : FnScope ["urn", "turn", "many", "low", "rows", "step"] ["urn", "turn"] (defScope sIsLed) := ⟨rfl, rfl, rfl, by decide +kernel, rfl, by decide +kernel, by decide +kernel⟩
theorem getD_at {ns : List Int} {i : Nat} (h : i < ns.length) : ns.getD i 0 = ns[i] := by simp [List.getD, h]
theorem pair_get {ns : List Int} (h : ns.Pairwise (· ≤ ·)) {i j : Nat} (hij : i ≤ j) (hj : j < ns.length) : ns.getD i 0 ≤ ns.getD j 0 := by
  rw [getD_at (by omega), getD_at hj]
  by_cases e : i = j
  · subst e
    exact Int.le_refl _
  · exact List.pairwise_iff_getElem.mp h i j (by omega) hj (by omega)
theorem led_qp {m : Int} {ns : List Int} (hl : (ns.length : Int) = m) (q p : Int) (h0 : 0 ≤ p) (h1 : p < m) : ledI ns (p + q * m) = q * m + ns.getD p.toNat 0 := by
  unfold ledI
  rw [hl, Int.add_mul_ediv_right _ _ (by omega), Int.ediv_eq_zero_of_lt h0 h1, Int.zero_add, Int.add_mul_emod_self_right, Int.emod_eq_of_lt h0 h1]
theorem qp_of (h : Int) {m : Int} (h1 : 1 ≤ m) : ∃ q p, h = p + q * m ∧ 0 ≤ p ∧ p < m :=
  ⟨h / m, h % m, by rw [Int.mul_comm]; exact (Int.emod_add_mul_ediv h m).symm, Int.emod_nonneg _ (by omega), Int.emod_lt_of_pos _ (by omega)⟩
theorem led_shift {m : Int} {ns : List Int} (hl : (ns.length : Int) = m) (h1 : 1 ≤ m) (h : Int) : ledI ns (h + m) = ledI ns h + m := by
  obtain ⟨q, p, rfl, a, b⟩ := qp_of h h1
  have e : p + q * m + m = p + (q + 1) * m := by rw [Int.add_mul, Int.one_mul]; omega
  rw [e, led_qp hl _ _ a b, led_qp hl _ _ a b, Int.add_mul, Int.one_mul]
  omega
theorem led_step {m : Int} {ns : List Int} (ht : IsTurn m ns) (h1 : 1 ≤ m) (h : Int) : ledI ns h ≤ ledI ns (h + 1) := by
  have hl := ht.len
  obtain ⟨low, _, _, hb⟩ := ht.lo
  obtain ⟨q, p, rfl, a, b⟩ := qp_of h h1
  by_cases hp : p + 1 < m
  · have e : p + q * m + 1 = (p + 1) + q * m := by omega
    rw [e, led_qp hl _ _ a b, led_qp hl _ _ (by omega) hp]
    have := pair_get ht.up (i := p.toNat) (j := (p + 1).toNat) (by omega) (by omega)
    omega
  · have e : p + q * m + 1 = 0 + (q + 1) * m := by rw [Int.add_mul, Int.one_mul]; omega
    rw [e, led_qp hl _ _ a b, led_qp hl _ _ (Int.le_refl 0) (by omega), Int.add_mul, Int.one_mul]
    have g1 := hb _ (List.getElem_mem (l := ns) (n := p.toNat) (by omega))
    have g2 := hb _ (List.getElem_mem (l := ns) (n := (0 : Int).toNat) (by simp; omega))
    rw [getD_at (by omega), getD_at (by simp; omega)]
    omega
theorem led_mono {m : Int} {ns : List Int} (ht : IsTurn m ns) (h1 : 1 ≤ m) (h : Int) : ∀ n : Nat, ledI ns h ≤ ledI ns (h + (n : Nat))
  | 0 => by simp
  | n + 1 => by
    have a := led_mono ht h1 h n
    have b := led_step ht h1 (h + (n : Nat))
    have e : h + ((n + 1 : Nat) : Int) = h + (n : Nat) + 1 := by omega
    rw [e]
    omega
theorem led_bd {m : Int} {ns : List Int} (ht : IsTurn m ns) (h1 : 1 ≤ m) (h2 : m ≤ 64) {h : Int} (a : -(2 ^ 110) ≤ h) (b : h ≤ 2 ^ 110) : -(2 ^ 111) ≤ ledI ns h ∧ ledI ns h ≤ 2 ^ 111 := by
  obtain ⟨q, p, rfl, c, d⟩ := qp_of h h1
  have g := ht.get h2 (i := p.toNat) (by have := ht.len; omega)
  rw [led_qp ht.len _ _ c d]
  omega
/-- the row of heights led on -/
def rowI (ns : List Int) (low m : Int) : List Int := (List.range (m + 1).toNat).map fun (i : Nat) => ledI ns (low + (0 + (i : Int)))
theorem row_len {ns : List Int} {low m : Int} (h : 1 ≤ m) : ((rowI ns low m).length : Int) = m + 1 := by
  unfold rowI
  rw [List.length_map, List.length_range]
  omega
theorem row_at {ns : List Int} {low m : Int} {i : Nat} (h : (i : Int) ≤ m) : (rowI ns low m).getD i 0 = ledI ns (low + (i : Int)) := by
  have hi : i < (m + 1).toNat := by omega
  unfold rowI
  rw [getD_at (by rw [List.length_map, List.length_range]; exact hi)]
  simp
theorem row_up {ns : List Int} {low m : Int} (ht : IsTurn m ns) (h1 : 1 ≤ m) : (rowI ns low m).Pairwise (· ≤ ·) := by
  unfold rowI
  rw [List.pairwise_map]
  refine List.pairwise_lt_range.imp fun {a b} hab => ?_
  have := led_mono ht h1 (low + (0 + (a : Int))) (b - a)
  have e : low + (0 + (a : Int)) + ((b - a : Nat) : Int) = low + (0 + (b : Int)) := by omega
  rw [e] at this
  exact this
theorem row_bd {ns : List Int} {low m : Int} (ht : IsTurn m ns) (h1 : 1 ≤ m) (h2 : m ≤ 64) (a : -(2 ^ 109) ≤ low) (b : low ≤ 2 ^ 109) : Smalls ((rowI ns low m).map D.int) 70 := by
  refine ⟨by have := row_len (ns := ns) (low := low) h1; rw [List.length_map]; omega, (Smalls.ints fun i hi => ?_).2⟩
  unfold rowI at hi
  obtain ⟨j, hj, rfl⟩ := List.mem_map.mp hi
  have hj2 := List.mem_range.mp hj
  have z := led_bd ht h1 h2 (h := low + (0 + (j : Int))) (by omega) (by omega)
  exact Nat.lt_of_le_of_lt (show (ledI ns (low + (0 + (j : Int)))).natAbs ≤ 2 ^ 111 by omega) (by decide)
def spIsLed (u : Addr) : Fs := fun ds P _ => ∃ (m : Int) (ns : List Int), ds = [.ad u, .tup (ns.map D.int)] ∧ 1 ≤ m ∧ m ≤ 64 ∧ IsTurn m ns ∧ P (.bl true)
section
variable {P : Program} {w : World} {K : PySem.W.Frag} {mg : Str → Option Value} {base : Heap} {U : Vol} {u dp : Addr}
theorem ok_isled (F : At K mg "_law_is_led" sIsLed) (mN : mg "len" = none) (mR : mg "range" = none) (mP : mg "repr" = none) (mS : mg "sorted" = none) (T : Df P w K mg base "_law_take" sTake 1 2 ["urn", "many"] (urnVol u dp) (spTake u)) (T2 : Df P w K mg base "_law_pick" sPick 2 2 ["urn", "some"] (urnVol u dp) (spPick u))
    (L1 : Df P w K mg base "led" sLed 1 2 ["turn", "height"] (urnVol u dp) spLed) (L3 : Df P w K mg base "_law_height" sHeight 1 2 ["turn", "height"] (urnVol u dp) spLed) : Df P w K mg base "_law_is_led" sIsLed 3 2 ["urn", "turn"] (urnVol u dp) (spIsLed u) := by
  refine df_mk F scIsLed rfl (by decide) (fun f fd F => F.binds fun _ _ _ _ _ _ us hl => match us, hl with | [_, _], _ => rfl) fun f cdv A outer s H E M ds Pd X bd hl hS => ?_
  obtain ⟨m, ns, rfl, hm1, hm2, ht, hP⟩ := hS
  have hlen : (ns.length : Int) = m := ht.len
  have hLl : (ns.map D.int).length = ns.length := List.length_map _
  refine sv_cons (s1_set (by assumption) 2 rfl (Or.inl rfl) (show 2 < 6 by decide) ?_)
  refine ev_len (by assumption) ?_ rfl
  refine eq_of ?_
  refine ev_var 1 rfl (Or.inr (Or.inl rfl)) rfl ?_
  refine ⟨_, rfl, ?_⟩
  rw [hLl, hlen]
  refine sv_cons (s1_set bd 3 rfl (Or.inr rfl) (show 3 < 6 by decide) ?_)
  refine ev_add ?_
  refine ev_def (by assumption) (by assumption) (by decide) rfl ?_
  refine av_cons ?_
  refine ev_var 0 rfl (Or.inl rfl) rfl ?_
  refine av_cons ?_
  refine ev_lst ?_
  refine av_cons ?_
  refine ev_int ?_
  refine av_cons ?_
  refine ev_neg ?_
  refine eq_of ?_
  refine ev_var 2 rfl (Or.inl rfl) rfl ?_
  refine ⟨m, rfl, ?_⟩
  refine av_cons ?_
  refine ev_neg ?_
  refine eq_of ?_
  refine ev_int ?_
  refine ⟨1, rfl, ?_⟩
  refine av_cons ?_
  refine ev_pow ?_
  refine ev_int ?_
  refine eq_of ?_
  refine ev_int ?_
  refine ⟨_, _, rfl, rfl, ⟨by decide, by decide, by decide⟩, ?_⟩
  refine av_cons ?_
  refine ev_neg ?_
  refine eq_of ?_
  refine ev_pow ?_
  refine ev_int ?_
  refine eq_of ?_
  refine ev_int ?_
  refine ⟨_, _, rfl, rfl, ⟨by decide, by decide, by decide⟩, _, rfl, ?_⟩
  refine av_nil ?_
  refine ⟨(show 5 ≤ 16777216 by decide), ?_⟩
  refine av_nil ?_
  refine ⟨rfl, _, _, rfl, rfl, by simp, (show 5 ≤ 1000000 by decide), fun d hd => ?_⟩
  obtain ⟨b, rfl, hb1, hb2⟩ : ∃ b, d = .int b ∧ -(2 ^ 100) ≤ b ∧ b ≤ 2 ^ 100 := by
    have c1 : ((10 : Int) ^ (30 : Int).toNat) ≤ 2 ^ 100 := by decide
    have c2 : (0 : Int) ≤ (10 : Int) ^ (30 : Int).toNat := by decide
    simp only [List.mem_cons, List.not_mem_nil, or_false] at hd
    rcases hd with rfl | rfl | rfl | rfl | rfl
    · exact ⟨_, rfl, by omega, by omega⟩
    · exact ⟨_, rfl, by omega, by omega⟩
    · exact ⟨_, rfl, by omega, by omega⟩
    · exact ⟨_, rfl, by omega, c1⟩
    · exact ⟨_, rfl, by omega, by omega⟩
  clear hd
  refine eq_of ?_
  refine ev_def (by assumption) (by assumption) (by decide) rfl ?_
  refine av_cons ?_
  refine ev_var 0 rfl (Or.inl rfl) rfl ?_
  refine av_cons ?_
  refine ev_mul ?_
  refine ev_int ?_
  refine eq_of ?_
  refine ev_var 2 rfl (Or.inl rfl) rfl ?_
  refine ⟨_, .int (.inl ⟨by decide, by decide⟩), ?_⟩
  refine av_nil ?_
  refine ⟨rfl, _, rfl, Int.lt_of_le_of_lt (show 3 * m ≤ 192 by omega) (by decide), fun r hr0 hr1 => ⟨_, .int, ?_⟩⟩
  have hl1 : -(2 ^ 109) ≤ b + r := by omega
  have hl2 : b + r ≤ 2 ^ 109 := by omega
  generalize b + r = low at hl1 hl2
  have hR := row_bd (low := low) ht hm1 hm2 hl1 hl2
  have hrl := row_len (ns := ns) (low := low) hm1
  have hmap : (rangeD 0 (m + 1).toNat).map (fun x => D.int (ledI ns (low + toI x))) = (rowI ns low m).map D.int := by
    unfold rangeD rowI
    rw [List.map_map, List.map_map]
    rfl
  refine sv_cons (s1_setLcR [("step", 5)] bd 4 rfl rfl (show 4 < 6 by decide) (blkOk_by (N := ["urn", "turn", "many", "low", "rows", "step"]) (sc := defScope sIsLed) (by decide +kernel)) ?_ (sw_true rfl rfl rfl (by decide +kernel)))
  refine iv_range1 (by assumption) ?_ rfl
  refine ev_add ?_
  refine ev_var 2 rfl (Or.inl rfl) rfl ?_
  refine eq_of ?_
  refine ev_int ?_
  refine ⟨_, .int, _, rfl, by omega, by omega, by rw [rangeD_length]; omega, un_mine fun i hi => by rw [List.mem_singleton.mp hi]; rfl, fun x y => y = .int (ledI ns (low + toI x)), fun x hx Dl s H C cl fp => ?_, fun ys hy => ?_⟩
  · unfold rangeD at hx
    obtain ⟨j, hj, rfl⟩ := List.mem_map.mp hx
    refine gw_name 5 bd.nd rfl (Or.inl rfl) (show 5 < 6 by decide) fun s H C cl fp bd => ?_
    refine ev_def (by assumption) (by assumption) (by decide) rfl ?_
    refine av_cons ?_
    refine ev_var 1 rfl (Or.inr (Or.inl rfl)) rfl ?_
    refine av_cons ?_
    refine ev_add ?_
    refine ev_var 3 rfl (Or.inr (Or.inl rfl)) rfl ?_
    refine eq_of ?_
    refine ev_var 5 rfl (Or.inl rfl) rfl ?_
    refine ⟨_, .int, ?_⟩
    refine av_nil ?_
    exact ⟨rfl, ns, _, rfl, by omega, by omega, rfl, rfl⟩
  rw [hy.eq, hmap]
  refine sv_cons (s1_if ?_)
  refine tv_cmpD (by assumption) ?_
  refine ev_reprG (by assumption) (by assumption) ?_ rfl
  refine eq_of ?_
  refine ev_var 4 rfl (Or.inl rfl) rfl ?_
  refine ⟨hR.lst (by decide), ?_⟩
  refine eq_of ?_
  refine ev_reprG (by assumption) (by assumption) ?_ rfl
  refine eq_of ?_
  refine ev_lcR [("step", 5)] bd (blkOk_by (N := ["urn", "turn", "many", "low", "rows", "step"]) (sc := defScope sIsLed) (by decide +kernel)) ?_
  refine iv_range1 (by assumption) ?_ rfl
  refine ev_add ?_
  refine ev_var 2 rfl (Or.inl rfl) rfl ?_
  refine eq_of ?_
  refine ev_int ?_
  refine ⟨_, .int, _, rfl, by omega, by omega, by rw [rangeD_length]; omega, un_mine fun i hi => by rw [List.mem_singleton.mp hi]; rfl, fun x y => y = .int (ledI ns (low + toI x)), fun x hx Dl s H C cl fp => ?_, fun ys hy => ?_⟩
  · unfold rangeD at hx
    obtain ⟨j, hj, rfl⟩ := List.mem_map.mp hx
    refine gw_name 5 bd.nd rfl (Or.inl rfl) (show 5 < 6 by decide) fun s H C cl fp bd => ?_
    refine ev_def (by assumption) (by assumption) (by decide) rfl ?_
    refine av_cons ?_
    refine ev_var 1 rfl (Or.inr (Or.inl rfl)) rfl ?_
    refine av_cons ?_
    refine ev_add ?_
    refine ev_var 3 rfl (Or.inr (Or.inl rfl)) rfl ?_
    refine eq_of ?_
    refine ev_var 5 rfl (Or.inl rfl) rfl ?_
    refine ⟨_, .int, ?_⟩
    refine av_nil ?_
    exact ⟨rfl, ns, _, rfl, by omega, by omega, rfl, rfl⟩
  rw [hy.eq, hmap]
  refine ⟨hR.lst (by decide), _, .neS, fun h => by simp at h, fun h => ?_⟩
  refine sv_nil ?_
  have hs : srt (rowI ns low m) = rowI ns low m := (srt_of (List.Perm.refl _) (row_up ht hm1)).symm
  refine sv_cons (s1_if ?_)
  refine tv_w (wv_or ?_)
  refine tv_cmpD (by assumption) ?_
  refine ev_var 4 rfl (Or.inl rfl) rfl ?_
  refine eq_of ?_
  refine ev_sorted (by assumption) ?_ rfl
  refine eq_of ?_
  refine ev_var 4 rfl (Or.inl rfl) rfl ?_
  refine ⟨_, rfl, _, .neD (eqk_lint _) (eqk_lint _), ?_⟩
  rw [hs, eqd_lint, decide_eq_true rfl]
  refine ⟨fun _ => ?_, fun h => by cases h⟩
  refine wv_one ?_ (by first | exact .inl rfl | exact .inr rfl)
  refine tv_cmpD (by assumption) ?_
  refine ev_ix ?_
  refine ev_var 4 rfl (Or.inl rfl) rfl ?_
  refine eq_of ?_
  refine ev_var 2 rfl (Or.inl rfl) rfl ?_
  refine ⟨_, rfl, _, .inl ⟨_, rfl, atI_ints (by omega) (by omega)⟩, ?_⟩
  refine eq_of ?_
  refine ev_add ?_
  refine ev_ix ?_
  refine ev_var 4 rfl (Or.inl rfl) rfl ?_
  refine eq_of ?_
  refine ev_int ?_
  refine ⟨_, rfl, _, .inl ⟨_, rfl, atI_ints (by decide) (by omega)⟩, ?_⟩
  refine eq_of ?_
  refine ev_var 2 rfl (Or.inl rfl) rfl ?_
  refine ⟨_, .int, _, .neI, ?_⟩
  have r0 : (rowI ns low m).getD (0 : Int).toNat 0 = ledI ns low := by
    have z := row_at (ns := ns) (low := low) (m := m) (i := 0) (by omega)
    have e : low + ((0 : Nat) : Int) = low := by omega
    rw [e] at z
    exact z
  have rm : (rowI ns low m).getD m.toNat 0 = ledI ns low + m := by
    have z := row_at (ns := ns) (low := low) (m := m) (i := m.toNat) (by omega)
    have e : low + ((m.toNat : Nat) : Int) = low + m := by omega
    rw [e, led_shift hlen hm1] at z
    exact z
  rw [r0, rm, decide_eq_true rfl]
  refine ⟨fun h => (by cases h), fun _ => sv_nil ?_⟩
  have sl : Small (.int (ledI ns low)) := by
    have z := led_bd ht hm1 hm2 (h := low) (by omega) (by omega)
    exact small_int (Nat.lt_of_le_of_lt (show (ledI ns low).natAbs ≤ 2 ^ 111 by omega) (by decide))
  refine sv_cons (s1_ret ?_)
  refine ev_cmpD (by assumption) ?_
  refine ev_reprG (by assumption) (by assumption) ?_ rfl
  refine eq_of ?_
  refine ev_defK2 L1 bd (by decide) rfl (fun _ _ _ _ _ _ _ _ => rfl) ?_
  refine ev_var 3 rfl (Or.inr (Or.inl rfl)) rfl ?_
  refine ev_var 1 rfl (Or.inr (Or.inl rfl)) rfl ?_
  refine ⟨ns, low, rfl, by omega, by omega, sl.shown, ?_⟩
  refine eq_of ?_
  refine ev_reprG (by assumption) (by assumption) ?_ rfl
  refine eq_of ?_
  refine ev_ix ?_
  refine ev_var 4 rfl (Or.inl rfl) rfl ?_
  refine eq_of ?_
  refine ev_int ?_
  refine ⟨_, rfl, _, .inl ⟨_, rfl, atI_ints (by decide) (by omega)⟩, ?_⟩
  rw [r0]
  refine ⟨sl.shown, _, .eqS, ?_⟩
  rw [decide_eq_true rfl]
  exact hP
end
end K10
namespace K10
open PySem PySem.Spec PyProof.Rows L2 U
theorem scLaw : FnScope ["script", "urn", "turns", "many", "turn", "place", "value", "kept", "found", "plain"] ["script"] (defScope sLaw) := ⟨rfl, rfl, rfl, by decide +kernel, rfl, by decide +kernel, by decide +kernel⟩
theorem fall_lt {ns : List Int} : ∀ (k p : Nat) {q : Nat}, fallFrom ns k p = some q → q < p + k
  | 0, p, q, h => by cases h
  | k + 1, p, q, h => by
    unfold fallFrom at h
    split at h
    · cases h
      omega
    · have := fall_lt k (p + 1) h
      omega
theorem due_shown {m : Int} {d : D} (h1 : 1 ≤ m) (h2 : m ≤ 1000) : Shown (dueD m d) := by
  have sf : Shown (.str "form") := (small_str (by decide) (by decide)).shown
  cases d with
  | tup xs =>
    by_cases hc : (xs.length : Int) = m ∧ xs.all isI = true
    · rw [dueD_yes hc]
      unfold dueT
      cases hq : fallFrom (xs.map toI) ((xs.map toI).length - 1) 1 with
      | some q =>
        have z := fall_lt _ _ hq
        rw [List.length_map] at z
        have sq : Small (.int (q : Nat)) := small_b (by omega) (by omega)
        have ss : Smalls [.str "falls", .int (q : Nat)] 2 := ⟨Nat.le_refl 2, all_cons (small_str (by decide) (by decide)) (all_cons sq all_nil)⟩
        exact ss.tup (by decide)
      | none =>
        show Shown (if _ then _ else _)
        split
        · exact (small_str (by decide) (by decide)).shown
        · exact small_non.shown
    · rw [dueD_no hc]
      exact sf
  | _ => exact sf
/-- the row 0, 1, .. -/
def rgI (m : Int) : List Int := (List.range m.toNat).map fun (i : Nat) => (0 : Int) + (i : Int)
theorem rg_len {m : Int} (h : 1 ≤ m) : ((rgI m).length : Int) = m := by
  unfold rgI
  rw [List.length_map, List.length_range]
  omega
theorem rg_led {m : Int} (h : 1 ≤ m) (x : Int) : ledI (rgI m) x = x := by
  obtain ⟨q, p, rfl, a, b⟩ := qp_of x h
  rw [led_qp (rg_len h) _ _ a b]
  have e : (rgI m).getD p.toNat 0 = p := by
    have hl := rg_len h
    rw [getD_at (by omega)]
    unfold rgI
    simp
    omega
  rw [e]
  omega
theorem rg_small {m : Int} (h1 : 1 ≤ m) (h2 : m ≤ 64) : Smalls ((rgI m).map D.int) 64 := by
  refine ⟨by have := rg_len h1; rw [List.length_map]; omega, (Smalls.ints fun i hi => ?_).2⟩
  unfold rgI at hi
  obtain ⟨j, hj, rfl⟩ := List.mem_map.mp hi
  have := List.mem_range.mp hj
  exact Nat.lt_of_le_of_lt (show ((0 : Int) + (j : Int)).natAbs ≤ 64 by omega) (by decide)
def spLaw (K : PySem.W.Frag) : Sp := fun vs H Q _ => ∃ (a : Addr) (ns : List Int), vs = [V.ref a] ∧ SqL K H a (ns.map V.int) ∧ ns.length ≤ 63 ∧ ∀ H', Q (.bl true) H'
/-- at the turns of the law: so many, the turn -/
def n0 (a u : Addr) : Ga → Prop := fun Γ => ∃ s2 s3 s4 s5 s6 s7 s8 s9, Γ = [.dat (.ad a), .dat (.ad u), s2, s3, s4, s5, s6, s7, s8, s9]
def n1 (a u : Addr) (t : Int) : Ga → Prop := fun Γ => ∃ m : Int, 1 ≤ m ∧ m ≤ 64 ∧ ∃ s4 s5 s6 s7 s8 s9, Γ = [.dat (.ad a), .dat (.ad u), .dat (.int t), .dat (.int m), s4, s5, s6, s7, s8, s9]
def n2 (a u : Addr) (t m : Int) : Ga → Prop := fun Γ => ∃ ns, IsTurn m ns ∧ ∃ s5 s6 s7 s8 s9, Γ = [.dat (.ad a), .dat (.ad u), .dat (.int t), .dat (.int m), .dat (.tup (ns.map D.int)), s5, s6, s7, s8, s9]
def n3 (a u : Addr) (t m : Int) (ns : List Int) : Ga → Prop := fun Γ => ∃ s5 s6 s7 s8 s9, Γ = [.dat (.ad a), .dat (.ad u), .dat (.int t), .dat (.int m), .dat (.tup (ns.map D.int)), s5, s6, s7, s8, s9]
def n4 (a u : Addr) (t m : Int) (ns : List Int) (j : Int) (v : D) : Ga → Prop := fun Γ => ∃ s9, Γ = [.dat (.ad a), .dat (.ad u), .dat (.int t), .dat (.int m), .dat (.tup (ns.map D.int)), .dat (.int j), .dat v, .dat (.str (shw v)), .dat (dueD m v), s9]
def n5 (a u : Addr) (t m : Int) (ns : List Int) : Ga → Prop := fun Γ => ∃ s5 s6 s7 s8, Γ = [.dat (.ad a), .dat (.ad u), .dat (.int t), .dat (.int m), .dat (.tup (ns.map D.int)), s5, s6, s7, s8, .dat (.tup ((rgI m).map D.int))]
section
variable {P : Program} {w : World} {K : PySem.W.Frag} {mg : Str → Option Value} {base : Heap} {U : Vol}
theorem law_rest {c : Co} {a u dp : Addr} {f : Addr} {cdv : Value} {A : Around} {outer : List Env} {s : Shared} {H : Hw} {E : XK} {M : Ex} {X : Addr → Option (Str × D) → Prop} (hc : c = coOf P w K mg base ["script", "urn", "turns", "many", "turn", "place", "value", "kept", "found", "plain"] "law" (defScope sLaw) f cdv A outer s H E (urnVol u dp) M X)
    (bd : Bd c 3) (mN : mg "enumerate" = none) (mR : mg "range" = none) (mP : mg "repr" = none) (mT : mg "tuple" = none) (T : Df P w K mg base "_law_take" sTake 1 2 ["urn", "many"] (urnVol u dp) (spTake u)) (T2 : Df P w K mg base "_law_pick" sPick 2 2 ["urn", "some"] (urnVol u dp) (spPick u))
    (L1 : Df P w K mg base "led" sLed 1 2 ["turn", "height"] (urnVol u dp) spLed) (L2 : Df P w K mg base "_law_any" sAny 3 3 ["urn", "many", "far"] (urnVol u dp) (spAny u)) (L3 : Df P w K mg base "_law_values" sValues 3 2 ["urn", "turn"] (urnVol u dp) (spValues u))
    (L4 : Df P w K mg base "turn_error" sErr 2 2 ["many", "value"] (urnVol u dp) spErr) (L5 : Df P w K mg base "_law_due" sDue 2 2 ["many", "value"] (urnVol u dp) spErr) (L6 : Df P w K mg base "_law_is_led" sIsLed 3 2 ["urn", "turn"] (urnVol u dp) (spIsLed u)) (L7 : Df P w K mg base "plain_turn" sPlain 1 1 ["many"] (urnVol u dp) spPlain)
    {Γ : Ga} (h0 : n0 a u Γ) : Sv c ((defBody sLaw).drop 1) Γ { nx := fun _ => False, rt := fun d => d = .bl true } := by
  subst hc
  obtain ⟨s2, s3, s4, s5, s6, s7, s8, s9, rfl⟩ := h0
  refine sv_mid (n0 a u) (s1_for bd ?_) ?_
  · refine iv_range1 (by assumption) ?_ rfl
    refine ev_int ?_
    refine ⟨4, rfl, by decide, by decide, fun _ => n0 a u, ⟨_, _, _, _, _, _, _, _, rfl⟩, ?_, fun Γ h => h⟩
    rintro i x Γ2 hx ⟨s2, s3, s4, s5, s6, s7, s8, s9, rfl⟩
    obtain ⟨t, rfl⟩ : ∃ t, x = .int t := by
      have hi := (List.getElem?_eq_some_iff.mp hx).1
      rw [rangeD_length] at hi
      rw [rangeD_at hi] at hx
      exact ⟨_, (Option.some.inj hx).symm⟩
    clear hx
    refine gv_name 2 bd.nd rfl (Or.inl rfl) (show 2 < 10 by decide) ?_
    refine sv_mid (n1 a u t) (s1_set bd 3 rfl (Or.inl rfl) (show 3 < 10 by decide) ?_) ?_
    · refine ev_add ?_
      refine ev_int ?_
      refine eq_of ?_
      refine ev_def (by assumption) (by assumption) (by decide) rfl ?_
      refine av_cons ?_
      refine ev_var 1 rfl (Or.inl rfl) rfl ?_
      refine av_cons ?_
      refine ev_ifExp ?_
      refine tv_w (wv_and ?_)
      refine tv_cmpD (by assumption) ?_
      refine ev_var 2 rfl (Or.inl rfl) rfl ?_
      refine eq_of ?_
      refine ev_int ?_
      refine ⟨_, .eqI, fun h => ?_, fun h => ⟨fun z => (by cases z), fun _ => ?_⟩⟩
      · refine wv_one ?_ (by first | exact .inl rfl | exact .inr rfl)
        refine tv_cmpD (by assumption) ?_
        refine ev_def (by assumption) (by assumption) (by decide) rfl ?_
        refine av_cons ?_
        refine ev_var 1 rfl (Or.inl rfl) rfl ?_
        refine av_cons ?_
        refine ev_int ?_
        refine av_nil ?_
        refine ⟨rfl, 3, rfl, by decide, fun r _ _ => ?_⟩
        refine eq_of ?_
        refine ev_int ?_
        refine ⟨_, .eqI, fun _ => ?_, fun _ => ?_⟩
        · refine ev_int ?_
          refine av_nil ?_
          exact ⟨rfl, 64, rfl, by decide, fun r h0 h1 => ⟨_, .int, 1 + r, by omega, by omega, _, _, _, _, _, _, rfl⟩⟩
        · refine ev_int ?_
          refine av_nil ?_
          exact ⟨rfl, 12, rfl, by decide, fun r h0 h1 => ⟨_, .int, 1 + r, by omega, by omega, _, _, _, _, _, _, rfl⟩⟩
      · refine ev_int ?_
        refine av_nil ?_
        exact ⟨rfl, 12, rfl, by decide, fun r h0 h1 => ⟨_, .int, 1 + r, by omega, by omega, _, _, _, _, _, _, rfl⟩⟩
    rintro Γ ⟨m, hm1, hm2, t4, t5, t6, t7, t8, t9, rfl⟩
    refine sv_mid (n2 a u t m) (s1_set bd 4 rfl (Or.inl rfl) (show 4 < 10 by decide) ?_) ?_
    · refine ev_def (by assumption) (by assumption) (by decide) rfl ?_
      refine av_cons ?_
      refine ev_var 1 rfl (Or.inl rfl) rfl ?_
      refine av_cons ?_
      refine ev_var 3 rfl (Or.inl rfl) rfl ?_
      refine av_cons ?_
      refine ev_def (by assumption) (by assumption) (by decide) rfl ?_
      refine av_cons ?_
      refine ev_var 1 rfl (Or.inl rfl) rfl ?_
      refine av_cons ?_
      refine ev_lst ?_
      refine av_cons ?_
      refine ev_int ?_
      refine av_cons ?_
      refine ev_int ?_
      refine av_cons ?_
      refine ev_pow ?_
      refine ev_int ?_
      refine eq_of ?_
      refine ev_int ?_
      refine ⟨_, _, rfl, rfl, ⟨by decide, by decide, by decide⟩, ?_⟩
      refine av_nil ?_
      refine ⟨(show 3 ≤ 16777216 by decide), ?_⟩
      refine av_nil ?_
      refine ⟨rfl, _, _, rfl, rfl, by simp, (show 3 ≤ 1000000 by decide), fun d hd => ?_⟩
      obtain ⟨b, rfl, hb1, hb2⟩ : ∃ b, d = .int b ∧ 0 ≤ b ∧ b ≤ 10 ^ 21 := by
        simp only [List.mem_cons, List.not_mem_nil, or_false] at hd
        rcases hd with rfl | rfl | rfl
        · exact ⟨_, rfl, by decide, by decide⟩
        · exact ⟨_, rfl, by decide, by decide⟩
        · exact ⟨_, rfl, by decide, by decide⟩
      clear hd
      refine av_nil ?_
      exact ⟨rfl, m, b, rfl, hm1, hm2, hb1, hb2, fun ns ht => ⟨ns, ht, _, _, _, _, _, rfl⟩⟩
    rintro Γ ⟨ns, ht, t5, t6, t7, t8, t9, rfl⟩
    have hlen : (ns.length : Int) = m := ht.len
    refine sv_mid (n3 a u t m ns) (s1_for bd ?_) ?_
    · refine iv_enumL (by assumption) ?_ rfl
      refine ev_def (by assumption) (by assumption) (by decide) rfl ?_
      refine av_cons ?_
      refine ev_var 1 rfl (Or.inl rfl) rfl ?_
      refine av_cons ?_
      refine ev_var 4 rfl (Or.inl rfl) rfl ?_
      refine av_nil ?_
      refine ⟨rfl, m, ns, rfl, hm1, hm2, ht, fun xs hg hl => ⟨xs, rfl, fun _ => n3 a u t m ns, ⟨_, _, _, _, _, rfl⟩, ?_, fun Γ h => h⟩⟩
      rintro j x Γ2 hx ⟨t5, t6, t7, t8, t9, rfl⟩
      obtain ⟨v, hv, rfl⟩ := enumD_inv hx
      have gv := hg v (List.mem_of_getElem? hv)
      clear hx hv
      generalize ((j : Nat) : Int) = jj
      refine gv_two 5 6 bd.calm bd.nd rfl rfl (Or.inl rfl) (Or.inl rfl) (show 5 < 10 by decide) (show 6 < 10 by decide) ?_
      refine sv_cons (s1_set (by assumption) 7 rfl (Or.inl rfl) (show 7 < 10 by decide) ?_)
      refine ev_reprG (by assumption) (by assumption) ?_ rfl
      refine eq_of ?_
      refine ev_var 6 rfl (Or.inl rfl) rfl ?_
      refine ⟨gv.sh, ?_⟩
      refine sv_mid (n4 a u t m ns jj v) (s1_set bd 8 rfl (Or.inl rfl) (show 8 < 10 by decide) ?_) ?_
      · refine ev_ifExp ?_
        refine tv_cmpD (by assumption) ?_
        refine ev_var 5 rfl (Or.inl rfl) rfl ?_
        refine eq_of ?_
        refine ev_var 2 rfl (Or.inl rfl) rfl ?_
        refine ⟨_, .eqI, fun h => ?_, fun h => ?_⟩
        · refine ev_defK2 L4 bd (by decide) rfl (fun _ _ _ _ _ _ _ _ => rfl) ?_
          refine ev_var 6 rfl (Or.inl rfl) rfl ?_
          refine ev_var 3 rfl (Or.inl rfl) rfl ?_
          exact ⟨m, v, rfl, hm1, by omega, gv.na, gv.it, _, rfl⟩
        · refine ev_def (by assumption) (by assumption) (by decide) rfl ?_
          refine av_cons ?_
          refine ev_var 3 rfl (Or.inl rfl) rfl ?_
          refine av_cons ?_
          refine ev_var 6 rfl (Or.inl rfl) rfl ?_
          refine av_nil ?_
          exact ⟨rfl, m, v, rfl, hm1, by omega, gv.na, gv.it, _, rfl⟩
      rintro Γ ⟨t9, rfl⟩
      have ds := due_shown (m := m) (d := v) hm1 (by omega)
      refine sv_cons (s1_if ?_)
      refine tv_w (wv_or ?_)
      refine tv_cmpD (by assumption) ?_
      refine ev_reprG (by assumption) (by assumption) ?_ rfl
      refine eq_of ?_
      refine ev_var 8 rfl (Or.inl rfl) rfl ?_
      refine ⟨ds, ?_⟩
      refine eq_of ?_
      refine ev_reprG (by assumption) (by assumption) ?_ rfl
      refine eq_of ?_
      refine ev_def (by assumption) (by assumption) (by decide) rfl ?_
      refine av_cons ?_
      refine ev_var 3 rfl (Or.inl rfl) rfl ?_
      refine av_cons ?_
      refine ev_var 6 rfl (Or.inl rfl) rfl ?_
      refine av_nil ?_
      refine ⟨rfl, m, v, rfl, hm1, by omega, gv.na, gv.it, ds, _, .neS, ?_⟩
      rw [decide_eq_true rfl]
      refine ⟨fun _ => ?_, fun h => (by cases h)⟩
      refine wv_one ?_ (by first | exact .inl rfl | exact .inr rfl)
      refine tv_cmpD (by assumption) ?_
      refine ev_reprG (by assumption) (by assumption) ?_ rfl
      refine eq_of ?_
      refine ev_var 6 rfl (Or.inl rfl) rfl ?_
      refine ⟨gv.sh, ?_⟩
      refine eq_of ?_
      refine ev_var 7 rfl (Or.inl rfl) rfl ?_
      refine ⟨_, .neS, ?_⟩
      rw [decide_eq_true rfl]
      exact ⟨fun h => (by cases h), fun _ => sv_nil (sv_nil ⟨_, _, _, _, _, rfl⟩)⟩
    rintro Γ ⟨t5, t6, t7, t8, t9, rfl⟩
    refine sv_cons (s1_if ?_)
    refine tv_not ?_
    refine tv_val ?_
    refine ev_def (by assumption) (by assumption) (by decide) rfl ?_
    refine av_cons ?_
    refine ev_var 1 rfl (Or.inl rfl) rfl ?_
    refine av_cons ?_
    refine ev_var 4 rfl (Or.inl rfl) rfl ?_
    refine av_nil ?_
    refine ⟨rfl, m, ns, rfl, hm1, hm2, ht, true, rfl, fun h => (by cases h), fun _ => sv_nil ?_⟩
    refine sv_mid (n5 a u t m ns) (s1_set bd 9 rfl (Or.inl rfl) (show 9 < 10 by decide) ?_) ?_
    · refine ev_ifExp ?_
      refine tv_cmpD (by assumption) ?_
      refine ev_var 2 rfl (Or.inl rfl) rfl ?_
      refine eq_of ?_
      refine ev_int ?_
      refine ⟨_, .eqI, fun h => ?_, fun h => ?_⟩
      · refine ev_defK1 L7 bd (by decide) rfl (fun _ _ _ _ _ _ _ => rfl) ?_
        refine ev_var 3 rfl (Or.inl rfl) rfl ?_
        refine ⟨m, rfl, by omega, by omega, ?_⟩
        rw [rangeD_ints]
        exact ⟨_, _, _, _, rfl⟩
      · refine ev_def (by assumption) (by assumption) (by decide) rfl ?_
        refine av_cons ?_
        refine ev_var 3 rfl (Or.inl rfl) rfl ?_
        refine av_nil ?_
        refine ⟨rfl, m, rfl, by omega, by omega, ?_⟩
        rw [rangeD_ints]
        exact ⟨_, _, _, _, rfl⟩
    rintro Γ ⟨t5, t6, t7, t8, rfl⟩
    have hS := rg_small hm1 hm2
    have hl := rg_len hm1
    refine sv_cons (s1_if ?_)
    refine tv_w (wv_or ?_)
    refine tv_cmpD (by assumption) ?_
    refine ev_reprG (by assumption) (by assumption) ?_ rfl
    refine eq_of ?_
    refine ev_var 9 rfl (Or.inl rfl) rfl ?_
    refine ⟨hS.tup (by decide), ?_⟩
    refine eq_of ?_
    refine ev_reprG (by assumption) (by assumption) ?_ rfl
    refine eq_of ?_
    refine ev_tupRg (by assumption) (by assumption) (by assumption) ?_ rfl rfl
    refine ev_var 3 rfl (Or.inl rfl) rfl ?_
    refine ⟨m, rfl, by omega, by omega, ?_⟩
    rw [rangeD_ints]
    refine ⟨hS.tup (by decide), _, .neS, ?_⟩
    have er : decide (shw (.tup ((rgI m).map D.int)) = shw (.tup (((List.range m.toNat).map fun (i : Nat) => (0 : Int) + (i : Int)).map D.int))) = true := decide_eq_true rfl
    rw [er]
    refine ⟨fun _ => ?_, fun h => (by cases h)⟩
    refine wv_one ?_ (by first | exact .inl rfl | exact .inr rfl)
    refine tv_cmpD (by assumption) ?_
    refine ev_def (by assumption) (by assumption) (by decide) rfl ?_
    refine av_cons ?_
    refine ev_var 9 rfl (Or.inl rfl) rfl ?_
    refine av_cons ?_
    refine ev_ix ?_
    refine ev_var 4 rfl (Or.inl rfl) rfl ?_
    refine eq_of ?_
    refine ev_int ?_
    refine ⟨_, rfl, _, .inl ⟨_, rfl, atI_ints (by decide) (by omega)⟩, ?_⟩
    refine av_nil ?_
    refine ⟨rfl, rgI m, _, rfl, by omega, by omega, ?_⟩
    rw [rg_led hm1]
    refine eq_of ?_
    refine ev_ix ?_
    refine ev_var 4 rfl (Or.inl rfl) rfl ?_
    refine eq_of ?_
    refine ev_int ?_
    refine ⟨_, rfl, _, .inl ⟨_, rfl, atI_ints (by decide) (by omega)⟩, _, .neI, ?_⟩
    rw [decide_eq_true rfl]
    exact ⟨fun h => (by cases h), fun _ => sv_nil (sv_nil ⟨_, _, _, _, _, _, _, _, rfl⟩)⟩
  rintro Γ ⟨s2, s3, s4, s5, s6, s7, s8, s9, rfl⟩
  refine sv_cons (s1_ret ?_)
  refine ev_cmpD (by assumption) ?_
  refine ev_reprG (by assumption) (by assumption) ?_ rfl
  refine eq_of ?_
  refine ev_lst ?_
  refine av_cons ?_
  refine ev_def (by assumption) (by assumption) (by decide) rfl ?_
  refine av_cons ?_
  refine ev_int ?_
  refine av_cons ?_
  refine ev_tup ?_
  refine av_cons ?_
  refine ev_int ?_
  refine av_cons ?_
  refine ev_int ?_
  refine av_cons ?_
  refine ev_int ?_
  refine av_cons ?_
  refine ev_int ?_
  refine av_nil ?_
  refine ⟨(show 4 ≤ 16777216 by decide), ?_⟩
  refine av_nil ?_
  refine ⟨rfl, 4, _, rfl, by decide, by decide, rfl, fun xs e x hx => ?_, ?_⟩
  · cases e
    exact all_cons (p := fun x => x.isAd = false) rfl (all_cons rfl (all_cons rfl (all_cons rfl all_nil))) x hx
  refine av_cons ?_
  refine ev_def (by assumption) (by assumption) (by decide) rfl ?_
  refine av_cons ?_
  refine ev_int ?_
  refine av_cons ?_
  refine ev_tup ?_
  refine av_cons ?_
  refine ev_int ?_
  refine av_cons ?_
  refine ev_int ?_
  refine av_cons ?_
  refine ev_int ?_
  refine av_cons ?_
  refine ev_int ?_
  refine av_nil ?_
  refine ⟨(show 4 ≤ 16777216 by decide), ?_⟩
  refine av_nil ?_
  refine ⟨rfl, 4, _, rfl, by decide, by decide, rfl, fun xs e x hx => ?_, ?_⟩
  · cases e
    exact all_cons (p := fun x => x.isAd = false) rfl (all_cons rfl (all_cons rfl (all_cons rfl all_nil))) x hx
  have e1 : dueD 4 (.tup [.int 9, .int 9, .int 13, .int 13]) = .non := by
    rw [dueD_yes ⟨by decide, by decide⟩]
    rfl
  have e2 : dueD 4 (.tup [.int 0, .int 1, .int 2, .int 5]) = .str "passes" := by
    rw [dueD_yes ⟨by decide, by decide⟩]
    rfl
  rw [e1, e2]
  have sS : Shown (.lst [.non, .str "passes"]) := Smalls.lst (n := 2) ⟨Nat.le_refl 2, all_cons small_non (all_cons (small_str (by decide) (by decide)) all_nil)⟩ (by decide)
  refine av_nil ?_
  refine ⟨(show 2 ≤ 16777216 by decide), sS, ?_⟩
  refine eq_of ?_
  refine ev_reprG (by assumption) (by assumption) ?_ rfl
  refine eq_of ?_
  refine ev_lst ?_
  refine av_cons ?_
  refine ev_non ?_
  refine av_cons ?_
  refine ev_str ?_
  refine av_nil ?_
  refine ⟨(show 2 ≤ 16777216 by decide), sS, _, .eqS, ?_⟩
  rw [decide_eq_true rfl]
theorem ok_law (F : At K mg "law" sLaw) (A1 : At K mg "is_whole" sWhole) (A2 : At K mg "is_tuple" sTuple) (A3 : At K mg "turn_error" sErr) (A4 : At K mg "led" sLed) (A5 : At K mg "plain_turn" sPlain) (A6 : At K mg "_law_urn" sUrn) (A7 : At K mg "_law_take" sTake) (A8 : At K mg "_law_pick" sPick) (A9 : At K mg "_law_any" sAny)
    (B1 : At K mg "_law_height" sHeight) (B2 : At K mg "_law_due" sDue) (B3 : At K mg "_law_values" sValues) (B4 : At K mg "_law_is_led" sIsLed)
    (mi : mg "isinstance" = none) (mI : mg "int" = none) (mB : mg "bool" = none) (mT : mg "tuple" = none) (mL : mg "len" = none) (mA : mg "all" = none) (mR : mg "range" = none) (mD : mg "divmod" = none) (mb : mg "abs" = none) (mS : mg "sorted" = none) (ml : mg "list" = none) (ms : mg "str" = none) (mP : mg "repr" = none) (mN : mg "enumerate" = none) :
    ∃ f fd, Fun K "law" "law" sLaw f fd ∧ mg "law" = some (.ref f) ∧ FnG P w K mg base 4 f fd ["script"] (spLaw K) := by
  obtain ⟨f, fd, F, hm⟩ := F
  refine ⟨f, fd, F, hm, ?_⟩
  obtain ⟨oc, od, kV, doc, pm, an, cdv, ct, osl, rfl, lk, hcd⟩ := F.ex
  refine fn_ofG (k := 3) lk hcd scLaw (fun vs H Q E ⟨a, ns, e, _⟩ => by rw [e]; rfl) fun A outer s H vs Q E hr hgd hsp => ?_
  obtain ⟨a, ns, rfl, hS, hl, q⟩ := hsp
  obtain ⟨fu, fdu, Fu, hmu, bu, Gu⟩ := ok_urn (P := P) (w := w) (base := base) A6 mI mL mb
  have nd := scLaw.nd
  refine vb_cons (outS (ps_set (i := 1) nd rfl (Or.inl rfl) selfE rfl) ?_)
  refine wpE_call (W := fun cls d _ H' => E cls d H') (takes_of rfl rfl rfl rfl) Gu hr hgd (by decide) hmu Fu.kp bu rfl (outA (pa_cons (pv 0) pa_nil) ?_)
  refine ⟨_, rfl, a, ns, rfl, hS, hl, fun u dp H' hu hdp hg hJ => ?_⟩
  have T : Df P w K mg base "_law_take" sTake 1 2 ["urn", "many"] (urnVol u dp) (spTake u) := ok_take A7 mI
  have T2 : Df P w K mg base "_law_pick" sPick 2 2 ["urn", "some"] (urnVol u dp) (spPick u) := ok_pick A8 mL T
  have W1 : Df P w K mg base "is_whole" sWhole 1 1 ["value"] (urnVol u dp) spWhole := ok_whole A1 mi mI mB
  have W2 : Df P w K mg base "is_tuple" sTuple 1 3 ["value", "least", "most"] (urnVol u dp) spTuple := ok_tuple A2 mi mT mL
  have L1 : Df P w K mg base "led" sLed 1 2 ["turn", "height"] (urnVol u dp) spLed := ok_led A4 mD mL
  have L8 : Df P w K mg base "_law_height" sHeight 1 2 ["turn", "height"] (urnVol u dp) spLed := ok_height B1 mI mL
  have bd : Bd (coOf P w K mg base ["script", "urn", "turns", "many", "turn", "place", "value", "kept", "found", "plain"] "law" (defScope sLaw) f cdv A outer s H E (urnVol u dp) (fun b => b = u ∨ b = dp) fun _ _ => False) 3 := ⟨rfl, passes_of rfl, nd, hr, hgd⟩
  have R := law_rest rfl bd (a := a) mN mR mP mT T T2 L1 (ok_any A9 mS mR ml mT T T2) (ok_values B3 mL ml mT ms T T2) (ok_err A3 mA mR W1 W2) (ok_due B2 mi mI mB mT mL mR) (ok_isled B4 mL mR mP mS T T2 L1 L8) (ok_plain A5 mT mR) (Γ := [.dat (.ad a), .dat (.ad u), .un, .un, .un, .un, .un, .un, .un, .un]) ⟨_, _, _, _, _, _, _, _, rfl⟩
  have plain : ∀ (i : Nat) (s : Sl), ([.dat (.ad a), .dat (.ad u), .un, .un, .un, .un, .un, .un, .un, .un] : Ga)[i]? = some s → s = .un ∨ (i = 0 ∧ s = .dat (.ad a)) ∨ (i = 1 ∧ s = .dat (.ad u)) := fun i s h => by
    rcases i with _ | _ | n
    · cases h
      exact .inr (.inl ⟨rfl, rfl⟩)
    · cases h
      exact .inr (.inr ⟨rfl, rfl⟩)
    · have z : ([.un, .un, .un, .un, .un, .un, .un, .un] : Ga)[n]? = some s := h
      have z2 := List.mem_of_getElem? z
      simp only [List.mem_cons, List.not_mem_nil, or_false, or_self] at z2
      exact .inl z2
  refine sv_run R (er_plain (fun b h => h) (fun b h => (urnVol u dp).known hJ h) hJ rfl (fun i s h => ?_) fun i d h => ?_) (W := fun cls d _ H' => E cls d H') (takes_of rfl rfl rfl rfl) ⟨fun _ _ _ _ _ z => z.elim, fun v d H2 _ _ p e => ?_, fun _ _ _ _ _ z => z.elim, fun _ _ _ _ _ z => z.elim, fun C fo dx σ' Γ' H2 _ _ _ e => e.elim⟩
  · rcases plain i s h with e | ⟨_, e⟩ | ⟨_, e⟩
    all_goals
      rw [e]
      rfl
  · rcases plain i _ h with e | ⟨rfl, e⟩ | ⟨rfl, e⟩
    · cases e
    · cases e
      exact ⟨_, rfl, .ad a⟩
    · cases e
      exact ⟨_, rfl, .ad u⟩
  · subst e
    cases p
    exact q H2
end
end K10
namespace K10
open PySem PySem.Spec PyProof.Rows L2 U
theorem all_mk {l : PySem.W.OpenLaw} {w : World} {K : PySem.W.Frag} {h : Heap} {mg : Str → Option Value} {fa : Addr} (X : K.In h) (G : h.Ns mainGlobals mg) (hfa : mg "law" = some (.ref fa))
    {f0 : Addr} {od0 an0 : Option Addr} {sl0 : Array (Option Value)} {oc0 kV0 dc0 pm0 cd0 ct0 : Value}
    (a0 : PySem.W.nsIn K mainGlobals "law" = some (some (.ref f0))) (l0 : K.lookup f0 = some ⟨oc0, od0, .func (PySem.W.fnOf "law" "law" (defArgs sLaw) (defBody sLaw) (defScope sLaw) .none kV0 dc0 pm0 an0 cd0 ct0), sl0⟩) (c0 : PySem.W.codeIn K cd0 "law" = true) (k0 : PySem.W.keepIn K (.ref f0) = true)
    {f1 : Addr} {od1 an1 : Option Addr} {sl1 : Array (Option Value)} {oc1 kV1 dc1 pm1 cd1 ct1 : Value}
    (a1 : PySem.W.nsIn K mainGlobals "is_whole" = some (some (.ref f1))) (l1 : K.lookup f1 = some ⟨oc1, od1, .func (PySem.W.fnOf "is_whole" "is_whole" (defArgs sWhole) (defBody sWhole) (defScope sWhole) .none kV1 dc1 pm1 an1 cd1 ct1), sl1⟩) (c1 : PySem.W.codeIn K cd1 "is_whole" = true) (k1 : PySem.W.keepIn K (.ref f1) = true)
    {f2 : Addr} {od2 an2 : Option Addr} {sl2 : Array (Option Value)} {oc2 kV2 dc2 pm2 cd2 ct2 : Value}
    (a2 : PySem.W.nsIn K mainGlobals "is_tuple" = some (some (.ref f2))) (l2 : K.lookup f2 = some ⟨oc2, od2, .func (PySem.W.fnOf "is_tuple" "is_tuple" (defArgs sTuple) (defBody sTuple) (defScope sTuple) .none kV2 dc2 pm2 an2 cd2 ct2), sl2⟩) (c2 : PySem.W.codeIn K cd2 "is_tuple" = true) (k2 : PySem.W.keepIn K (.ref f2) = true)
    {f3 : Addr} {od3 an3 : Option Addr} {sl3 : Array (Option Value)} {oc3 kV3 dc3 pm3 cd3 ct3 : Value}
    (a3 : PySem.W.nsIn K mainGlobals "turn_error" = some (some (.ref f3))) (l3 : K.lookup f3 = some ⟨oc3, od3, .func (PySem.W.fnOf "turn_error" "turn_error" (defArgs sErr) (defBody sErr) (defScope sErr) .none kV3 dc3 pm3 an3 cd3 ct3), sl3⟩) (c3 : PySem.W.codeIn K cd3 "turn_error" = true) (k3 : PySem.W.keepIn K (.ref f3) = true)
    {f4 : Addr} {od4 an4 : Option Addr} {sl4 : Array (Option Value)} {oc4 kV4 dc4 pm4 cd4 ct4 : Value}
    (a4 : PySem.W.nsIn K mainGlobals "led" = some (some (.ref f4))) (l4 : K.lookup f4 = some ⟨oc4, od4, .func (PySem.W.fnOf "led" "led" (defArgs sLed) (defBody sLed) (defScope sLed) .none kV4 dc4 pm4 an4 cd4 ct4), sl4⟩) (c4 : PySem.W.codeIn K cd4 "led" = true) (k4 : PySem.W.keepIn K (.ref f4) = true)
    {f5 : Addr} {od5 an5 : Option Addr} {sl5 : Array (Option Value)} {oc5 kV5 dc5 pm5 cd5 ct5 : Value}
    (a5 : PySem.W.nsIn K mainGlobals "plain_turn" = some (some (.ref f5))) (l5 : K.lookup f5 = some ⟨oc5, od5, .func (PySem.W.fnOf "plain_turn" "plain_turn" (defArgs sPlain) (defBody sPlain) (defScope sPlain) .none kV5 dc5 pm5 an5 cd5 ct5), sl5⟩) (c5 : PySem.W.codeIn K cd5 "plain_turn" = true) (k5 : PySem.W.keepIn K (.ref f5) = true)
    {f6 : Addr} {od6 an6 : Option Addr} {sl6 : Array (Option Value)} {oc6 kV6 dc6 pm6 cd6 ct6 : Value}
    (a6 : PySem.W.nsIn K mainGlobals "_law_urn" = some (some (.ref f6))) (l6 : K.lookup f6 = some ⟨oc6, od6, .func (PySem.W.fnOf "_law_urn" "_law_urn" (defArgs sUrn) (defBody sUrn) (defScope sUrn) .none kV6 dc6 pm6 an6 cd6 ct6), sl6⟩) (c6 : PySem.W.codeIn K cd6 "_law_urn" = true) (k6 : PySem.W.keepIn K (.ref f6) = true)
    {f7 : Addr} {od7 an7 : Option Addr} {sl7 : Array (Option Value)} {oc7 kV7 dc7 pm7 cd7 ct7 : Value}
    (a7 : PySem.W.nsIn K mainGlobals "_law_take" = some (some (.ref f7))) (l7 : K.lookup f7 = some ⟨oc7, od7, .func (PySem.W.fnOf "_law_take" "_law_take" (defArgs sTake) (defBody sTake) (defScope sTake) .none kV7 dc7 pm7 an7 cd7 ct7), sl7⟩) (c7 : PySem.W.codeIn K cd7 "_law_take" = true) (k7 : PySem.W.keepIn K (.ref f7) = true)
    {f8 : Addr} {od8 an8 : Option Addr} {sl8 : Array (Option Value)} {oc8 kV8 dc8 pm8 cd8 ct8 : Value}
    (a8 : PySem.W.nsIn K mainGlobals "_law_pick" = some (some (.ref f8))) (l8 : K.lookup f8 = some ⟨oc8, od8, .func (PySem.W.fnOf "_law_pick" "_law_pick" (defArgs sPick) (defBody sPick) (defScope sPick) .none kV8 dc8 pm8 an8 cd8 ct8), sl8⟩) (c8 : PySem.W.codeIn K cd8 "_law_pick" = true) (k8 : PySem.W.keepIn K (.ref f8) = true)
    {f9 : Addr} {od9 an9 : Option Addr} {sl9 : Array (Option Value)} {oc9 kV9 dc9 pm9 cd9 ct9 : Value}
    (a9 : PySem.W.nsIn K mainGlobals "_law_any" = some (some (.ref f9))) (l9 : K.lookup f9 = some ⟨oc9, od9, .func (PySem.W.fnOf "_law_any" "_law_any" (defArgs sAny) (defBody sAny) (defScope sAny) .none kV9 dc9 pm9 an9 cd9 ct9), sl9⟩) (c9 : PySem.W.codeIn K cd9 "_law_any" = true) (k9 : PySem.W.keepIn K (.ref f9) = true)
    {f10 : Addr} {od10 an10 : Option Addr} {sl10 : Array (Option Value)} {oc10 kV10 dc10 pm10 cd10 ct10 : Value}
    (a10 : PySem.W.nsIn K mainGlobals "_law_height" = some (some (.ref f10))) (l10 : K.lookup f10 = some ⟨oc10, od10, .func (PySem.W.fnOf "_law_height" "_law_height" (defArgs sHeight) (defBody sHeight) (defScope sHeight) .none kV10 dc10 pm10 an10 cd10 ct10), sl10⟩) (c10 : PySem.W.codeIn K cd10 "_law_height" = true) (k10 : PySem.W.keepIn K (.ref f10) = true)
    {f11 : Addr} {od11 an11 : Option Addr} {sl11 : Array (Option Value)} {oc11 kV11 dc11 pm11 cd11 ct11 : Value}
    (a11 : PySem.W.nsIn K mainGlobals "_law_due" = some (some (.ref f11))) (l11 : K.lookup f11 = some ⟨oc11, od11, .func (PySem.W.fnOf "_law_due" "_law_due" (defArgs sDue) (defBody sDue) (defScope sDue) .none kV11 dc11 pm11 an11 cd11 ct11), sl11⟩) (c11 : PySem.W.codeIn K cd11 "_law_due" = true) (k11 : PySem.W.keepIn K (.ref f11) = true)
    {f12 : Addr} {od12 an12 : Option Addr} {sl12 : Array (Option Value)} {oc12 kV12 dc12 pm12 cd12 ct12 : Value}
    (a12 : PySem.W.nsIn K mainGlobals "_law_values" = some (some (.ref f12))) (l12 : K.lookup f12 = some ⟨oc12, od12, .func (PySem.W.fnOf "_law_values" "_law_values" (defArgs sValues) (defBody sValues) (defScope sValues) .none kV12 dc12 pm12 an12 cd12 ct12), sl12⟩) (c12 : PySem.W.codeIn K cd12 "_law_values" = true) (k12 : PySem.W.keepIn K (.ref f12) = true)
    {f13 : Addr} {od13 an13 : Option Addr} {sl13 : Array (Option Value)} {oc13 kV13 dc13 pm13 cd13 ct13 : Value}
    (a13 : PySem.W.nsIn K mainGlobals "_law_is_led" = some (some (.ref f13))) (l13 : K.lookup f13 = some ⟨oc13, od13, .func (PySem.W.fnOf "_law_is_led" "_law_is_led" (defArgs sIsLed) (defBody sIsLed) (defScope sIsLed) .none kV13 dc13 pm13 an13 cd13 ct13), sl13⟩) (c13 : PySem.W.codeIn K cd13 "_law_is_led" = true) (k13 : PySem.W.keepIn K (.ref f13) = true)
    (z0 : PySem.W.nsIn K mainGlobals "isinstance" = some none)
    (z1 : PySem.W.nsIn K mainGlobals "int" = some none)
    (z2 : PySem.W.nsIn K mainGlobals "bool" = some none)
    (z3 : PySem.W.nsIn K mainGlobals "tuple" = some none)
    (z4 : PySem.W.nsIn K mainGlobals "len" = some none)
    (z5 : PySem.W.nsIn K mainGlobals "all" = some none)
    (z6 : PySem.W.nsIn K mainGlobals "range" = some none)
    (z7 : PySem.W.nsIn K mainGlobals "divmod" = some none)
    (z8 : PySem.W.nsIn K mainGlobals "abs" = some none)
    (z9 : PySem.W.nsIn K mainGlobals "sorted" = some none)
    (z10 : PySem.W.nsIn K mainGlobals "list" = some none)
    (z11 : PySem.W.nsIn K mainGlobals "str" = some none)
    (z12 : PySem.W.nsIn K mainGlobals "repr" = some none)
    (z13 : PySem.W.nsIn K mainGlobals "enumerate" = some none) :
    ∃ fd : FuncData, (∀ (s : Shared) (v : Value), BindsTo s fd ⟨[v], []⟩ [("script", v)]) ∧ ∀ base : Heap, K.In base → base.Ns mainGlobals mg → FnG l.prog w K mg base 4 fa fd ["script"] (spLaw K) := by
  have e := hfa.symm.trans (PySem.W.mg_of X G a0)
  cases e
  refine ⟨PySem.W.fnOf "law" "law" (defArgs sLaw) (defBody sLaw) (defScope sLaw) .none kV0 dc0 pm0 an0 cd0 ct0, fun s v => .of_eq rfl, fun base _ _ => ?_⟩
  obtain ⟨f, fd, F, hm, R⟩ := ok_law (P := l.prog) (w := w) (base := base) (at_mk X G a0 l0 c0 k0) (at_mk X G a1 l1 c1 k1) (at_mk X G a2 l2 c2 k2) (at_mk X G a3 l3 c3 k3) (at_mk X G a4 l4 c4 k4) (at_mk X G a5 l5 c5 k5) (at_mk X G a6 l6 c6 k6) (at_mk X G a7 l7 c7 k7) (at_mk X G a8 l8 c8 k8) (at_mk X G a9 l9 c9 k9) (at_mk X G a10 l10 c10 k10) (at_mk X G a11 l11 c11 k11) (at_mk X G a12 l12 c12 k12) (at_mk X G a13 l13 c13 k13) (PySem.W.mg_none_of X G z0) (PySem.W.mg_none_of X G z1) (PySem.W.mg_none_of X G z2) (PySem.W.mg_none_of X G z3) (PySem.W.mg_none_of X G z4) (PySem.W.mg_none_of X G z5) (PySem.W.mg_none_of X G z6) (PySem.W.mg_none_of X G z7) (PySem.W.mg_none_of X G z8) (PySem.W.mg_none_of X G z9) (PySem.W.mg_none_of X G z10) (PySem.W.mg_none_of X G z11) (PySem.W.mg_none_of X G z12) (PySem.W.mg_none_of X G z13)
  rw [hfa] at hm
  cases hm
  obtain ⟨oc, od, kV, doc, pm, an, cdv, ct, osl, rfl, lk, _⟩ := F.ex
  rw [l0] at lk
  cases lk
  exact R
end K10
open PySem PySem.W PyProof.Rows
set_option maxHeartbeats 0 in
theorem PySem.Challenge.cw_unpassed_k10_turns_and_heights_holds : PySem.Challenge.rw_unpassed_k10_turns_and_heights.Holds := by
  w_on; o_law; k_head; (case hw => w_witness2)
  k_fill
  refine U.end_of (l := PySem.Challenge.rw_unpassed_k10_turns_and_heights) (n := 63) (k := 4) (x := "script") (sp := fun w => K10.spLaw _) rfl (by decide) rfl ⟨rfl, by decide, by decide⟩ (fun w h Y => PySem.W.kIn_of Y) ?F (fun w H a ns hl hb hA => ⟨a, ns, rfl, hA.sq, hl, fun _ => rfl⟩) (fun w H s e s' ⟨_, _, _, _, _, _, _, _, _, _, _, _, z⟩ => z)
  case F =>
    intro w mg fa h KX G hmg
    refine' K10.all_mk (fa := fa) KX G hmg ?a0 ?l0 ?c0 ?k0 ?a1 ?l1 ?c1 ?k1 ?a2 ?l2 ?c2 ?k2 ?a3 ?l3 ?c3 ?k3 ?a4 ?l4 ?c4 ?k4 ?a5 ?l5 ?c5 ?k5 ?a6 ?l6 ?c6 ?k6 ?a7 ?l7 ?c7 ?k7 ?a8 ?l8 ?c8 ?k8 ?a9 ?l9 ?c9 ?k9 ?a10 ?l10 ?c10 ?k10 ?a11 ?l11 ?c11 ?k11 ?a12 ?l12 ?c12 ?k12 ?a13 ?l13 ?c13 ?k13 ?z0 ?z1 ?z2 ?z3 ?z4 ?z5 ?z6 ?z7 ?z8 ?z9 ?z10 ?z11 ?z12 ?z13
    (case a0 => k_is); (case l0 => k_is); (case c0 => k_is); (case k0 => k_is); (case a1 => k_is); (case l1 => k_is); (case c1 => k_is); (case k1 => k_is); (case a2 => k_is); (case l2 => k_is); (case c2 => k_is); (case k2 => k_is); (case a3 => k_is); (case l3 => k_is); (case c3 => k_is); (case k3 => k_is); (case a4 => k_is); (case l4 => k_is); (case c4 => k_is); (case k4 => k_is); (case a5 => k_is); (case l5 => k_is); (case c5 => k_is); (case k5 => k_is); (case a6 => k_is); (case l6 => k_is); (case c6 => k_is); (case k6 => k_is); (case a7 => k_is); (case l7 => k_is); (case c7 => k_is); (case k7 => k_is); (case a8 => k_is); (case l8 => k_is); (case c8 => k_is); (case k8 => k_is); (case a9 => k_is); (case l9 => k_is); (case c9 => k_is); (case k9 => k_is); (case a10 => k_is); (case l10 => k_is); (case c10 => k_is); (case k10 => k_is); (case a11 => k_is); (case l11 => k_is); (case c11 => k_is); (case k11 => k_is); (case a12 => k_is); (case l12 => k_is); (case c12 => k_is); (case k12 => k_is); (case a13 => k_is); (case l13 => k_is); (case c13 => k_is); (case k13 => k_is)
    (case z0 => k_is); (case z1 => k_is); (case z2 => k_is); (case z3 => k_is); (case z4 => k_is); (case z5 => k_is); (case z6 => k_is); (case z7 => k_is); (case z8 => k_is); (case z9 => k_is); (case z10 => k_is); (case z11 => k_is); (case z12 => k_is); (case z13 => k_is)
