import PyProof.Rows.All
import Wide.All
import OpenK.AllK
import Wide.FinOn
import HandS.ForMost
import HandS.ForExc
import HandS.Flow
import HandS.Deep
import HandS.TupAny
import HandS.TupMul
import HandS.Wide
import HandS.More
import HandS.Text
import HandS.IsInst
import HandS.RaiseMore
import HandS.StrMore
import HandS.Style
import HandS.WordsDict
import PyProof.ReprRoads
import HandS.Small
import HandS.Walk
import HandS.Iter
import HandS.Zip
import HandS.Defaults
import HandS.HeadHook2
import HandS.Exc
import HandS.FStr
import HandS.List
import HandS.Dict
import HandS.Ends
import HandS.EndBits
import HandS.Head0
import HandS.Head1
import HandS.Head2
import HandS.HeadEnd
import HandS.HeadHook1
import KE.KStateDown
import PyProof.ReprBulk
import PySem.Challenge.RW_enoughcharge_k06_texts_written
set_option Elab.async false
set_option linter.all false
set_option maxRecDepth 100000
set_option maxHeartbeats 4000001
/-! Pv: a small machine of our own for the subset of Python that the program is written in, and its proof over the layer. Part A: values, stores, how they lie in the heap. -/
namespace Pv
open PySem PySem.Spec PyProof.Rows L2

/-- a value, by what it is: tuples and lists that nobody changes by their items, a list or dict that is changed by its number in the store -/
inductive D where
  | non | bl (b : Bool) | int (i : Int) | str (x : Str) | tup (ds : List D) | lst (ds : List D) | frz (ds : List D) | cell (i : Nat)
  deriving Inhabited
inductive Cell where
  | lst (ds : List D) | dct (kvs : List (Key × D))
  deriving Inhabited
abbrev Store := List Cell
abbrev Env := List (Option D)
/-- an exception of the program's own: its class, its fields -/
structure Xd where
  cls : Str
  fs : List (Str × D)
inductive Rs (α : Type) where
  | ok (a : α) | ex (x : Xd)
abbrev Out (α : Type) := Option (Rs α × Store)
def bnd {α β : Type} (m : Out α) (k : α → Store → Out β) : Out β := match m with
  | none => none
  | some (.ok a, S) => k a S
  | some (.ex x, S) => some (.ex x, S)
def ret {α : Type} (a : α) (S : Store) : Out α := some (.ok a, S)
@[simp] theorem bnd_none {α β : Type} (k : α → Store → Out β) : bnd none k = none := rfl
@[simp] theorem bnd_ok {α β : Type} (a : α) (S : Store) (k : α → Store → Out β) : bnd (some (.ok a, S)) k = k a S := rfl
@[simp] theorem bnd_ex {α β : Type} (x : Xd) (S : Store) (k : α → Store → Out β) : bnd (some (.ex x, S)) k = some (.ex x, S) := rfl
@[simp] theorem bnd_ret {α β : Type} (a : α) (S : Store) (k : α → Store → Out β) : bnd (ret a S) k = k a S := rfl

/-- a list of the module's own top -/
def KLst (K : PySem.W.Frag) (a : Addr) (xs : List V) : Prop :=
  ∃ (o : Obj) (its : Array Value) (n : Nat), K.lookup a = some o ∧ o.cls = .type "list" ∧ o.dict = none ∧ o.data = .seq its n ∧ its.size ≤ sizeLine ∧ Vals xs its.toList
theorem KLst.sq {K : PySem.W.Frag} {H : Hp} {a : Addr} {xs : List V} (h : KLst K a xs) : SqL K H a xs := .inr h

section
variable (K : PySem.W.Frag) (R : Addr → Prop) (n : Nat) (φ : Nat → Addr) (H : Hp)
mutual
/-- how a value lies in the heap: φ tells where the store's things lie -/
inductive Rp : V → D → Prop
  | non : Rp .non .non
  | bl (b : Bool) : Rp (.bl b) (.bl b)
  | int (i : Int) : Rp (.int i) (.int i)
  | str (x : Str) : Rp (.str x) (.str x)
  | tup {a : Addr} {xs : List V} {ds : List D} : SqT K H a xs → Rps xs ds → Rp (.ref a) (.tup ds)
  | klst {a : Addr} {xs : List V} {ds : List D} : KLst K a xs → Rps xs ds → Rp (.ref a) (.frz ds)
  | frz {a : Addr} {o : Obj} {xs : List V} {ds : List D} : H a = some (.frz o (.lst xs)) → Rps xs ds → Rp (.ref a) (.frz ds)
  | lst {a : Addr} {xs : List V} {ds : List D} : H a = some (.lst xs) → ¬ R a → (∀ i, i < n → a ≠ φ i) → Rps xs ds → Rp (.ref a) (.lst ds)
  | cell {i : Nat} : i < n → Rp (.ref (φ i)) (.cell i)
inductive Rps : List V → List D → Prop
  | nil : Rps [] []
  | cons {v : V} {d : D} {vs : List V} {ds : List D} : Rp v d → Rps vs ds → Rps (v :: vs) (d :: ds)
end
end

/-- where the store's i-th thing lies -/
def CellR (K : PySem.W.Frag) (R : Addr → Prop) (n : Nat) (φ : Nat → Addr) (H : Hp) (a : Addr) : Cell → Prop
  | .lst ds => ∃ xs, H a = some (.lst xs) ∧ Rps K R n φ H xs ds
  | .dct kvs => ∃ ps, H a = some (.dK ps) ∧ ps.map (·.1) = kvs.map (·.1) ∧ Rps K R n φ H (ps.map (·.2)) (kvs.map (·.2))
structure Good (K : PySem.W.Frag) (R : Addr → Prop) (φ : Nat → Addr) (H : Hp) (S : Store) : Prop where
  at_ : ∀ i c, S[i]? = some c → CellR K R S.length φ H (φ i) c
  inj : ∀ i j, i < S.length → j < S.length → φ i = φ j → i = j
  off : ∀ a, R a → ∃ o, H a = some o
  cof : ∀ i, i < S.length → ¬ R (φ i)
/-- from one state to a later one: all that lay there lies there as it was, but for what the store numbers -/
structure Step (n : Nat) (φ : Nat → Addr) (H : Hp) (n' : Nat) (φ' : Nat → Addr) (H' : Hp) : Prop where
  le : n ≤ n'
  same : ∀ i, i < n → φ' i = φ i
  keep : ∀ a o, H a = some o → (∀ i, i < n → a ≠ φ i) → H' a = some o
  dom : ∀ a o, H a = some o → ∃ o', H' a = some o'
  fresh : ∀ i, n ≤ i → i < n' → H (φ' i) = none
  tups : ∀ a xs, H a = some (.tup xs) → H' a = some (.tup xs)
  frzs : ∀ a o u, H a = some (.frz o u) → H' a = some (.frz o u)
section
variable {K : PySem.W.Frag} {R : Addr → Prop} {n n' n'' : Nat} {φ φ' φ'' : Nat → Addr} {H H' H'' : Hp}
theorem Step.refl : Step n φ H n φ H := ⟨Nat.le_refl _, fun _ _ => rfl, fun _ _ h _ => h, fun _ o h => ⟨o, h⟩, fun i h1 h2 => absurd h2 (Nat.not_lt.mpr h1), fun _ _ h => h, fun _ _ _ h => h⟩
theorem Step.back (s : Step n φ H n' φ' H') {a : Addr} (h : H' a = none) : H a = none := by
  cases q : H a with
  | none => rfl
  | some o =>
    obtain ⟨o', e⟩ := s.dom a o q
    rw [h] at e; cases e
theorem Step.apart (s : Step n φ H n' φ' H') {a : Addr} {o : HO} (h : H a = some o) (hc : ∀ i, i < n → a ≠ φ i) : ∀ i, i < n' → a ≠ φ' i := fun i hi e => by
  by_cases hl : i < n
  · rw [s.same i hl] at e; exact hc i hl e
  · have := s.fresh i (Nat.le_of_not_lt hl) hi
    rw [← e, h] at this; cases this
theorem Step.trans (s : Step n φ H n' φ' H') (t : Step n' φ' H' n'' φ'' H'') : Step n φ H n'' φ'' H'' := by
  refine ⟨Nat.le_trans s.le t.le, fun i hi => (t.same i (Nat.lt_of_lt_of_le hi s.le)).trans (s.same i hi), fun a o h hc => t.keep a o (s.keep a o h hc) (s.apart h hc), fun a o h => ?_, fun i h1 h2 => ?_,
    fun a xs h => t.tups a xs (s.tups a xs h), fun a o u h => t.frzs a o u (s.frzs a o u h)⟩
  · obtain ⟨o', e⟩ := s.dom a o h
    exact t.dom a o' e
  · by_cases hl : i < n'
    · rw [t.same i hl]; exact s.fresh i h1 hl
    · exact s.back (t.fresh i (Nat.le_of_not_lt hl) h2)
/-- something new is laid, the store stays -/
theorem Step.new {p : Addr} {o : HO} (h : H p = none) : Step n φ H n φ (upd H p o) := by
  refine ⟨Nat.le_refl _, fun _ _ => rfl, fun a o' e _ => by rw [upd_ne (ne_of_none e h)]; exact e, fun a o' e => ⟨o', by rw [upd_ne (ne_of_none e h)]; exact e⟩, fun i h1 h2 => absurd h2 (Nat.not_lt.mpr h1),
    fun a xs e => by rw [upd_ne (ne_of_none e h)]; exact e, fun a o' u e => by rw [upd_ne (ne_of_none e h)]; exact e⟩
theorem Step.sqT (s : Step n φ H n' φ' H') {a : Addr} {xs : List V} (h : SqT K H a xs) : SqT K H' a xs := by
  rcases h with (h | ⟨o, h⟩) | h
  · exact .inl (.inl (s.tups a xs h))
  · exact .inl (.inr ⟨o, s.frzs a o _ h⟩)
  · exact .inr h
mutual
theorem Rp.step (s : Step n φ H n' φ' H') : ∀ {v : V} {d : D}, Rp K R n φ H v d → Rp K R n' φ' H' v d
  | _, _, .non => .non
  | _, _, .bl b => .bl b
  | _, _, .int i => .int i
  | _, _, .str x => .str x
  | _, _, .tup h r => .tup (s.sqT h) (Rps.step s r)
  | _, _, .klst h r => .klst h (Rps.step s r)
  | _, _, .frz h r => .frz (s.frzs _ _ _ h) (Rps.step s r)
  | _, _, .lst h f c r => .lst (s.keep _ _ h c) f (s.apart h c) (Rps.step s r)
  | _, _, .cell (i := i) h => by
    have e := s.same i h
    rw [← e]
    exact .cell (Nat.lt_of_lt_of_le h s.le)
theorem Rps.step (s : Step n φ H n' φ' H') : ∀ {vs : List V} {ds : List D}, Rps K R n φ H vs ds → Rps K R n' φ' H' vs ds
  | _, _, .nil => .nil
  | _, _, .cons h r => .cons (Rp.step s h) (Rps.step s r)
end
theorem Rps.length : ∀ {vs : List V} {ds : List D}, Rps K R n φ H vs ds → vs.length = ds.length
  | _, _, .nil => rfl
  | _, _, .cons _ r => congrArg (· + 1) (Rps.length r)
theorem Rps.get : ∀ {vs : List V} {ds : List D} {i : Nat} {d : D}, Rps K R n φ H vs ds → ds[i]? = some d → ∃ v, vs[i]? = some v ∧ Rp K R n φ H v d
  | _, _, _, _, .nil, e => by simp at e
  | _, _, 0, _, .cons h _, e => by simp at e; subst e; exact ⟨_, rfl, h⟩
  | _, _, i + 1, d, .cons _ r, e => by
    obtain ⟨v, h1, h2⟩ := Rps.get (i := i) (d := d) r (by simpa using e)
    exact ⟨v, by simpa using h1, h2⟩
theorem Rps.get' : ∀ {vs : List V} {ds : List D} {i : Nat} {v : V}, Rps K R n φ H vs ds → vs[i]? = some v → ∃ d, ds[i]? = some d ∧ Rp K R n φ H v d
  | _, _, _, _, .nil, e => by simp at e
  | _, _, 0, _, .cons h _, e => by simp at e; subst e; exact ⟨_, rfl, h⟩
  | _, _, i + 1, d, .cons _ r, e => by
    obtain ⟨v, h1, h2⟩ := Rps.get' (i := i) (v := d) r (by simpa using e)
    exact ⟨v, by simpa using h1, h2⟩
theorem Rps.append : ∀ {vs ws : List V} {ds es : List D}, Rps K R n φ H vs ds → Rps K R n φ H ws es → Rps K R n φ H (vs ++ ws) (ds ++ es)
  | _, _, _, _, .nil, s => s
  | _, _, _, _, .cons h r, s => .cons h (Rps.append r s)
theorem Rps.take : ∀ {vs : List V} {ds : List D} (k : Nat), Rps K R n φ H vs ds → Rps K R n φ H (vs.take k) (ds.take k)
  | _, _, 0, _ => by simp; exact .nil
  | _, _, _ + 1, .nil => .nil
  | _, _, k + 1, .cons h r => .cons h (Rps.take k r)
theorem Rps.drop : ∀ {vs : List V} {ds : List D} (k : Nat), Rps K R n φ H vs ds → Rps K R n φ H (vs.drop k) (ds.drop k)
  | _, _, 0, r => r
  | _, _, _ + 1, .nil => .nil
  | _, _, k + 1, .cons _ r => Rps.drop k r
theorem Rps.set : ∀ {vs : List V} {ds : List D} {v : V} {d : D} (i : Nat), Rps K R n φ H vs ds → Rp K R n φ H v d → Rps K R n φ H (vs.set i v) (ds.set i d)
  | _, _, _, _, _, .nil, _ => .nil
  | _, _, _, _, 0, .cons _ r, q => .cons q r
  | _, _, _, _, i + 1, .cons h r, q => .cons h (Rps.set i r q)
theorem Rps.reverse : ∀ {vs : List V} {ds : List D}, Rps K R n φ H vs ds → Rps K R n φ H vs.reverse ds.reverse
  | _, _, .nil => .nil
  | _, _, .cons h r => by
    rw [List.reverse_cons, List.reverse_cons]
    exact Rps.append (Rps.reverse r) (.cons h .nil)
theorem Rps.snoc {vs : List V} {ds : List D} {v : V} {d : D} (r : Rps K R n φ H vs ds) (h : Rp K R n φ H v d) : Rps K R n φ H (vs ++ [v]) (ds ++ [d]) := r.append (.cons h .nil)
theorem Good.step_new {S : Store} {p : Addr} {o : HO} (g : Good K R φ H S) (h : H p = none) : Good K R φ (upd H p o) S := by
  refine ⟨fun i c e => ?_, g.inj, fun a ha => let ⟨o', e⟩ := g.off a ha; ⟨o', by rw [upd_ne (ne_of_none e h)]; exact e⟩, g.cof⟩
  have q := g.at_ i c e
  have st : Step S.length φ H S.length φ (upd H p o) := Step.new h
  cases c with
  | lst ds =>
    obtain ⟨xs, e1, r⟩ := q
    exact ⟨xs, by rw [upd_ne (ne_of_none e1 h)]; exact e1, r.step st⟩
  | dct kvs =>
    obtain ⟨ps, e1, ek, r⟩ := q
    exact ⟨ps, by rw [upd_ne (ne_of_none e1 h)]; exact e1, ek, r.step st⟩
theorem Good.there {S : Store} (g : Good K R φ H S) {i : Nat} (hi : i < S.length) : ∃ o, H (φ i) = some o ∧ (∀ xs, o ≠ .tup xs) ∧ ∀ ob u, o ≠ .frz ob u := by
  have e : S[i]? = some S[i] := List.getElem?_eq_getElem hi
  have q := g.at_ i _ e
  cases h : S[i] with
  | lst ds =>
    rw [h] at q
    obtain ⟨xs, e1, _⟩ := q
    exact ⟨_, e1, (fun _ z => nomatch z), (fun _ _ z => nomatch z)⟩
  | dct kvs =>
    rw [h] at q
    obtain ⟨ps, e1, _⟩ := q
    exact ⟨_, e1, (fun _ z => nomatch z), (fun _ _ z => nomatch z)⟩
/-- the slots -/
structure EnvR (K : PySem.W.Frag) (R : Addr → Prop) (n : Nat) (φ : Nat → Addr) (H : Hp) (ρ : Env) (σ : L2.St) : Prop where
  len : ρ.length = σ.length
  at_ : ∀ (i : Nat) (d : D), ρ[i]? = some (some d) → ∃ v, σ[i]? = some (some v) ∧ Rp K R n φ H v d
theorem EnvR.step {ρ : Env} {σ : L2.St} (e : EnvR K R n φ H ρ σ) (s : Step n φ H n' φ' H') : EnvR K R n' φ' H' ρ σ :=
  ⟨e.len, fun i d h => let ⟨v, h1, h2⟩ := e.at_ i d h; ⟨v, h1, h2.step s⟩⟩
theorem EnvR.set {ρ : Env} {σ : L2.St} {v : V} {d : D} (e : EnvR K R n φ H ρ σ) (i : Nat) (h : Rp K R n φ H v d) : EnvR K R n φ H (ρ.set i (some d)) (σ.set i (some v)) := by
  refine ⟨by rw [List.length_set, List.length_set]; exact e.len, fun j c hj => ?_⟩
  by_cases hij : i = j
  · subst hij
    have hi : i < ρ.length := by
      have := (List.getElem?_eq_some_iff.mp hj).1
      rwa [List.length_set] at this
    rw [List.getElem?_set_self hi] at hj
    cases hj
    exact ⟨v, by rw [List.getElem?_set_self (e.len ▸ hi)], h⟩
  · rw [List.getElem?_set_ne hij] at hj ⊢
    exact e.at_ j c hj
/-- an exception as it lies -/
def ExR (K : PySem.W.Frag) (R : Addr → Prop) (n : Nat) (φ : Nat → Addr) (H : Hp) (x : Xd) (c : Value) (o : Option Addr) (cls : Str → Option Addr) : Prop :=
  ∃ C d fs, c = .ref C ∧ cls x.cls = some C ∧ o = some d ∧ H d = some (.xd fs) ∧ fs.map (·.1) = x.fs.map (·.1) ∧ Rps K R n φ H (fs.map (·.2)) (x.fs.map (·.2))
end
end Pv

/-! Pv, part B: what a reading of the layer has to do with our machine's answer. -/
namespace Pv
open PySem PySem.Spec PyProof.Rows L2

/-- what stays through a body: the written part, where the classes lie, what is wished of exceptions -/
structure Ct where
  K : PySem.W.Frag
  R : Addr → Prop
  cls : Str → Option Addr
  E : XK

/-- how an answer lies -/
abbrev RelT (β α : Type) := Nat → (Nat → Addr) → Hp → β → α → Prop
def RV (c : Ct) : RelT V D := fun n φ H v d => Rp c.K c.R n φ H v d
def RB : RelT Bool Bool := fun _ _ _ a b => a = b
def RL (c : Ct) : RelT (List V) (List D) := fun n φ H vs ds => Rps c.K c.R n φ H vs ds

def Post {β α : Type} (c : Ct) (rel : RelT β α) (φ : Nat → Addr) (S : Store) (H : Hp) (Q : β → Hp → Prop) : Rs α × Store → Prop
  | (.ok a, S') => ∀ b φ' H', Step S.length φ H S'.length φ' H' → Good c.K c.R φ' H' S' → rel S'.length φ' H' b a → Q b H'
  | (.ex x, S') => ∀ cl o φ' H', Step S.length φ H S'.length φ' H' → Good c.K c.R φ' H' S' → ExR c.K c.R S'.length φ' H' x cl o c.cls → c.E cl o H'
/-- our machine's answer, from slots and a heap -/
def Wp {β α : Type} (c : Ct) (rel : RelT β α) (f : Env → Store → Out α) (σ : L2.St) (H : Hp) (Q : β → Hp → Prop) : Prop :=
  ∃ φ S ρ r, Good c.K c.R φ H S ∧ EnvR c.K c.R S.length φ H ρ σ ∧ f ρ S = some r ∧ Post c rel φ S H Q r

/-- an expression's reading by our machine; a test's; an argument list's -/
abbrev mE (c : Ct) (f : Env → Store → Out D) : TE := fun σ H Q => Wp c (RV c) f σ H Q
abbrev mB (c : Ct) (f : Env → Store → Out Bool) : TT := fun σ H Q => Wp c RB f σ H Q
abbrev mA (c : Ct) (f : Env → Store → Out (List D)) : TA := fun σ H Q => Wp c (RL c) f σ H Q

section
variable {c : Ct} {β α γ δ : Type} {rel : RelT β α} {rel2 : RelT δ γ} {σ : L2.St} {H : Hp} {Q : δ → Hp → Prop} {φ : Nat → Addr} {S : Store} {ρ : Env}
theorem Post.from {φ1 : Nat → Addr} {S1 : Store} {H1 : Hp} {r : Rs γ × Store} (s : Step S.length φ H S1.length φ1 H1) (p : Post c rel2 φ S H Q r) : Post c rel2 φ1 S1 H1 Q r := by
  obtain ⟨r, S'⟩ := r
  cases r with
  | ok a => exact fun b φ' H' t g q => p b φ' H' (s.trans t) g q
  | ex x => exact fun cl o φ' H' t g q => p cl o φ' H' (s.trans t) g q
/-- the first part of what is reckoned -/
theorem Wp.fst {f : Env → Store → Out α} {k : α → Store → Out γ} {R : β → Hp → Prop} {r : Rs γ × Store} (hg : Good c.K c.R φ H S) (he : EnvR c.K c.R S.length φ H ρ σ) (hf : bnd (f ρ S) k = some r) (hp : Post c rel2 φ S H Q r)
    (next : ∀ a S1 b φ1 H1, Step S.length φ H S1.length φ1 H1 → Good c.K c.R φ1 H1 S1 → EnvR c.K c.R S1.length φ1 H1 ρ σ → rel S1.length φ1 H1 b a → k a S1 = some r → Post c rel2 φ1 S1 H1 Q r → R b H1) : Wp c rel f σ H R := by
  cases e : f ρ S with
  | none => rw [e] at hf; cases hf
  | some q =>
    obtain ⟨q, S1⟩ := q
    rw [e] at hf
    refine ⟨φ, S, ρ, _, hg, he, e, ?_⟩
    cases q with
    | ok a => exact fun b φ' H' s g' rv => next a S1 b φ' H' s g' (he.step s) rv hf (hp.from s)
    | ex x =>
      have hf : some ((Rs.ex x : Rs γ), S1) = some r := hf
      cases hf
      exact hp
/-- the last part -/
theorem Wp.lst {f : Env → Store → Out γ} {r : Rs γ × Store} (hg : Good c.K c.R φ H S) (he : EnvR c.K c.R S.length φ H ρ σ) (hf : f ρ S = some r) (hp : Post c rel2 φ S H Q r) : Wp c rel2 f σ H Q := ⟨φ, S, ρ, r, hg, he, hf, hp⟩
/-- an answer that is there -/
theorem Post.now {a : γ} {b : δ} (hp : Post c rel2 φ S H Q (.ok a, S)) (hg : Good c.K c.R φ H S) (hr : rel2 S.length φ H b a) : Q b H := hp b φ H Step.refl hg hr
/-- something new is made -/
theorem Post.new {a : γ} {b : δ} {p : Addr} {o : HO} (hp : Post c rel2 φ S H Q (.ok a, S)) (hg : Good c.K c.R φ H S) (hn : H p = none) (hr : rel2 S.length φ (upd H p o) b a) : Q b (upd H p o) := hp b φ _ (Step.new hn) (hg.step_new hn) hr
end
section
variable {X : Cx} {c : Ct}
theorem pe_weak {e : Expr} {t t' : TE} (h : PE X e t) (k : ∀ σ H Q, t' σ H Q → t σ H Q) : PE X e t' := ⟨fun pins s σ H Q I w => h.run pins s σ H Q I (k σ H Q w)⟩
theorem pt_weak {e : Expr} {t t' : TT} (h : PT X e t) (k : ∀ σ H Q, t' σ H Q → t σ H Q) : PT X e t' := ⟨fun pins s σ H Q I w => h.run pins s σ H Q I (k σ H Q w)⟩
theorem pw_weak {e : Expr} {t t' : TT} (h : PW X e t) (k : ∀ σ H Q, t' σ H Q → t σ H Q) : PW X e t' := ⟨fun wh pins s σ H Q I w => h.run wh pins s σ H Q I (k σ H Q w)⟩
theorem pa_weak {e : List Expr} {t t' : TA} (h : PA X e t) (k : ∀ σ H Q, t' σ H Q → t σ H Q) : PA X e t' := ⟨fun pos pins s σ H Q I w => h.run pos pins s σ H Q I (k σ H Q w)⟩

/-! ### names and constants -/
def eVar (i : Nat) (ρ : Env) (S : Store) : Out D := match ρ[i]? with
  | some (some d) => ret d S
  | _ => none
def eC (d : D) (_ : Env) (S : Store) : Out D := ret d S
theorem m_var {i : Nat} {x : Str} {pos : Pos} (hN : X.N[i]? = some x) (hv : Vis X.env.scope x) (hd : (x == ("__debug__" : Str)) = false) (hcd : (x == ("__classdict__" : Str)) = false) : PE X (.Name x pos) (mE c (eVar i)) := by
  refine pe_weak (pe_var hN hv hd hcd) fun σ H Q ⟨φ, S, ρ, r, hg, he, hf, hp⟩ => ?_
  unfold eVar at hf
  split at hf
  · rename_i d e
    obtain ⟨v, h1, h2⟩ := he.at_ i d e
    cases hf
    exact ⟨v, h1, hp.now hg h2⟩
  · cases hf
theorem Wp.con {γ δ : Type} {rel2 : RelT δ γ} {σ : L2.St} {H : Hp} {Q : δ → Hp → Prop} {a : γ} {b : δ} (h : Wp c rel2 (fun _ S => ret a S) σ H Q) (hr : ∀ n φ, rel2 n φ H b a) : Q b H := by
  obtain ⟨φ, S, ρ, r, hg, he, hf, hp⟩ := h
  cases hf
  exact hp.now hg (hr _ _)
theorem m_int {i : Int} {j : Nat} {pos : Pos} : PE X (.Constant (.int i) j pos) (mE c (eC (.int i))) := pe_weak pe_int fun σ H Q h => Wp.con (b := V.int i) h fun _ _ => .int i
theorem m_bl {i : Bool} {j : Nat} {pos : Pos} : PE X (.Constant (.bool i) j pos) (mE c (eC (.bl i))) := pe_weak pe_bl fun σ H Q h => Wp.con (b := V.bl i) h fun _ _ => .bl i
theorem m_non {j : Nat} {pos : Pos} : PE X (.Constant .none j pos) (mE c (eC .non)) := pe_weak pe_non fun σ H Q h => Wp.con (b := V.non) h fun _ _ => .non
theorem m_str {i : Str} {j : Nat} {pos : Pos} : PE X (.Constant (.str i) j pos) (mE c (eC (.str i))) := pe_weak pe_str fun σ H Q h => Wp.con (b := V.str i) h fun _ _ => .str i

/-! ### operators -/
def eBin (op : D → D → Store → Out D) (fa fb : Env → Store → Out D) (ρ : Env) (S : Store) : Out D := bnd (fa ρ S) fun x S1 => bnd (fb ρ S1) fun y S2 => op x y S2
/-- an operator of ours against the layer's -/
def OpM (c : Ct) (r : R2) (op : D → D → Store → Out D) : Prop := ∀ (φ : Nat → Addr) (S : Store) (H : Hp) (Q : VK) (x y : V) (a b : D) (z : Rs D × Store),
  Good c.K c.R φ H S → Rp c.K c.R S.length φ H x a → Rp c.K c.R S.length φ H y b → op a b S = some z → Post c (RV c) φ S H Q z → r x y H Q
theorem m_bin {r : R2} {op : D → D → Store → Out D} {fa fb : Env → Store → Out D} (ho : OpM c r op) {σ : L2.St} {H : Hp} {Q : VK} (h : mE c (eBin op fa fb) σ H Q) : tOp r (mE c fa) (mE c fb) σ H Q := by
  obtain ⟨φ, S, ρ, z, hg, he, hf, hp⟩ := h
  exact Wp.fst hg he hf hp fun a S1 x φ1 H1 s1 g1 e1 r1 hf1 hp1 => Wp.fst g1 e1 hf1 hp1 fun b S2 y φ2 H2 s2 g2 e2 r2 hf2 hp2 => ho φ2 S2 H2 Q x y a b z g2 (Rp.step s2 r1) r2 hf2 hp2
def eUn (op : D → Store → Out D) (fa : Env → Store → Out D) (ρ : Env) (S : Store) : Out D := bnd (fa ρ S) fun x S1 => op x S1
def UnM (c : Ct) (r : V → Hp → VK → Prop) (op : D → Store → Out D) : Prop := ∀ (φ : Nat → Addr) (S : Store) (H : Hp) (Q : VK) (x : V) (a : D) (z : Rs D × Store),
  Good c.K c.R φ H S → Rp c.K c.R S.length φ H x a → op a S = some z → Post c (RV c) φ S H Q z → r x H Q
theorem m_un {r : V → Hp → VK → Prop} {op : D → Store → Out D} {fa : Env → Store → Out D} (ho : UnM c r op) {σ : L2.St} {H : Hp} {Q : VK} (h : mE c (eUn op fa) σ H Q) : tUn r (mE c fa) σ H Q := by
  obtain ⟨φ, S, ρ, z, hg, he, hf, hp⟩ := h
  exact Wp.fst hg he hf hp fun a S1 x φ1 H1 s1 g1 e1 r1 hf1 hp1 => ho φ1 S1 H1 Q x a z g1 r1 hf1 hp1

/-- the list that is meant: one by its items, one by its number -/
def asL (S : Store) : D → Option (List D)
  | .lst ds => some ds
  | .frz ds => some ds
  | .cell i => (match S[i]? with | some (.lst ds) => some ds | _ => none)
  | _ => none
/-- the same, but for what can't be changed -/
def asM (S : Store) : D → Option (List D)
  | .lst ds => some ds
  | .cell i => (match S[i]? with | some (.lst ds) => some ds | _ => none)
  | _ => none
theorem asM_ok {φ : Nat → Addr} {S : Store} {H : Hp} {x : V} {a : D} {ds : List D} (g : Good c.K c.R φ H S) (r : Rp c.K c.R S.length φ H x a) (h : asM S a = some ds) : ∃ p xs, x = .ref p ∧ H p = some (.lst xs) ∧ Rps c.K c.R S.length φ H xs ds := by
  cases r with
  | lst k _ _ q => cases h; exact ⟨_, _, rfl, k, q⟩
  | cell hi =>
    rename_i i
    have h : (match S[i]? with | some (.lst ds) => some ds | _ => none) = some ds := h
    split at h
    · rename_i e
      cases h
      obtain ⟨xs, e1, q⟩ := g.at_ _ _ e
      exact ⟨_, _, rfl, e1, q⟩
    · cases h
  | _ => cases h
theorem asL_ok {φ : Nat → Addr} {S : Store} {H : Hp} {x : V} {a : D} {ds : List D} (g : Good c.K c.R φ H S) (r : Rp c.K c.R S.length φ H x a) (h : asL S a = some ds) : ∃ p xs, x = .ref p ∧ SqL c.K H p xs ∧ Rps c.K c.R S.length φ H xs ds := by
  have main : asM S a = some ds → ∃ p xs, x = .ref p ∧ SqL c.K H p xs ∧ Rps c.K c.R S.length φ H xs ds := fun h => by
    obtain ⟨p, xs, e, k, q⟩ := asM_ok g r h
    exact ⟨p, xs, e, .of k, q⟩
  cases r with
  | klst k q => cases h; exact ⟨_, _, rfl, k.sq, q⟩
  | frz k q => cases h; exact ⟨_, _, rfl, .inl (.inr ⟨_, k⟩), q⟩
  | lst k _ _ q => exact main h
  | cell hi => exact main h
  | _ => cases h

def guard' {α : Type} (b : Bool) (m : Out α) : Out α := if b then m else none
theorem guard_ok {α : Type} {b : Bool} {m : Out α} {r : Rs α × Store} (h : guard' b m = some r) : b = true ∧ m = some r := by
  unfold guard' at h
  cases b with
  | true => exact ⟨rfl, h⟩
  | false => cases h
@[simp] theorem guard_true {α : Type} (m : Out α) : guard' true m = m := rfl

def line : Nat := 100000
theorem line_ok {n : Nat} (h : decide (n ≤ line) = true) : n ≤ sizeLine := Nat.le_trans (of_decide_eq_true h) (by decide)
end
end Pv

/-! Pv, part C: operators by values. -/
namespace Pv
open PySem PySem.Spec PyProof.Rows L2

/-! ### plain data -/
mutual
def D.py0 : D → Option PyData
  | .non => some .none
  | .bl b => some (.bool b)
  | .int i => some (.int i)
  | .str x => some (.str x)
  | .tup ds => (match D.pys ds with | some ps => some (.tuple ps) | none => none)
  | .lst ds => (match D.pys ds with | some ps => some (.list ps) | none => none)
  | .frz ds => (match D.pys ds with | some ps => some (.list ps) | none => none)
  | .cell _ => none
def D.pys : List D → Option (List PyData)
  | [] => some []
  | d :: ds => (match D.py0 d with
    | some p => (match D.pys ds with | some ps => some (p :: ps) | none => none)
    | none => none)
end
def D.py (S : Store) : D → Option PyData
  | .cell i => (match S[i]? with
    | some (.lst ds) => (match D.pys ds with | some ps => some (.list ps) | none => none)
    | _ => none)
  | d => D.py0 d
section
variable {c : Ct} {n : Nat} {φ : Nat → Addr} {S : Store} {H : Hp}
mutual
theorem py0_ok {K : PySem.W.Frag} {R : Addr → Prop} : ∀ (d : D) (v : V) (p : PyData), Rp K R n φ H v d → d.py0 = some p → Dp K H v p
  | .non, _, _, .non, h => by cases h; exact .non
  | .bl b, _, _, .bl _, h => by cases h; exact .bl b
  | .int i, _, _, .int _, h => by cases h; exact .int i
  | .str x, _, _, .str _, h => by cases h; exact .str x
  | .tup ds, _, _, .tup k r, h => by
    unfold D.py0 at h
    split at h
    · rename_i e
      cases h
      exact .tup k (pys_ok ds _ _ r e)
    · cases h
  | .lst ds, _, _, .lst k _ _ r, h => by
    unfold D.py0 at h
    split at h
    · rename_i e
      cases h
      exact .lst (.of k) (pys_ok ds _ _ r e)
    · cases h
  | .frz ds, _, _, .klst k r, h => by
    unfold D.py0 at h
    split at h
    · rename_i e
      cases h
      exact .lst k.sq (pys_ok ds _ _ r e)
    · cases h
  | .frz ds, _, _, .frz k r, h => by
    unfold D.py0 at h
    split at h
    · rename_i e
      cases h
      exact .lst (.inl (.inr ⟨_, k⟩)) (pys_ok ds _ _ r e)
    · cases h
  | .cell _, _, _, _, h => by cases h
theorem pys_ok {K : PySem.W.Frag} {R : Addr → Prop} : ∀ (ds : List D) (vs : List V) (ps : List PyData), Rps K R n φ H vs ds → D.pys ds = some ps → DpAll K H vs ps
  | [], _, _, .nil, h => by cases h; exact .nil
  | d :: ds, _, _, .cons r t, h => by
    unfold D.pys at h
    split at h
    · rename_i e1
      split at h
      · rename_i e2
        cases h
        exact .cons (py0_ok d _ _ r e1) (pys_ok ds _ _ t e2)
      · cases h
    · cases h
end
theorem py_ok {K : PySem.W.Frag} {R : Addr → Prop} {d : D} {v : V} {p : PyData} (g : Good K R φ H S) (r : Rp K R S.length φ H v d) (h : d.py S = some p) : Dp K H v p := by
  cases d with
  | cell i =>
    simp only [D.py] at h
    cases e : S[i]? with
    | none => rw [e] at h; cases h
    | some q =>
      rw [e] at h
      cases q with
      | dct kvs => cases h
      | lst ds =>
        simp only at h
        cases e2 : D.pys ds with
        | none => rw [e2] at h; cases h
        | some ps =>
          rw [e2] at h
          cases h
          cases r
          obtain ⟨xs, e1, q⟩ := g.at_ _ _ e
          exact .lst (.of e1) (pys_ok _ _ _ q e2)
  | non => exact py0_ok _ _ _ r h
  | bl b => exact py0_ok _ _ _ r h
  | int b => exact py0_ok _ _ _ r h
  | str b => exact py0_ok _ _ _ r h
  | tup b => exact py0_ok _ _ _ r h
  | lst b => exact py0_ok _ _ _ r h
  | frz b => exact py0_ok _ _ _ r h
end

/-! ### scalars -/
def D.sc : D → Option V
  | .non => some .non
  | .bl b => some (.bl b)
  | .int i => some (.int i)
  | .str x => some (.str x)
  | _ => none
theorem sc_ok {K : PySem.W.Frag} {R : Addr → Prop} {n : Nat} {φ : Nat → Addr} {H : Hp} {d : D} {v w : V} (r : Rp K R n φ H v d) (h : d.sc = some w) : v = w := by
  cases r <;> first | (cases h; rfl) | cases h
/-- == of two scalars of unlike or of one kind -/
def scEq (x y : D) : Option Bool := match x.sc, y.sc with
  | some v, some w => if scal v w then some (decide (v = w)) else none
  | _, _ => none
theorem scEq_ok {K : PySem.W.Frag} {R : Addr → Prop} {n : Nat} {φ : Nat → Addr} {H : Hp} {x y : D} {v w : V} {b : Bool} (rx : Rp K R n φ H v x) (ry : Rp K R n φ H w y) (h : scEq x y = some b) : scal v w = true ∧ decide (v = w) = b := by
  unfold scEq at h
  split at h
  · rename_i e1 e2
    have h1 := sc_ok rx e1
    have h2 := sc_ok ry e2
    subst h1 h2
    split at h
    · rename_i hs
      cases h
      exact ⟨hs, rfl⟩
    · cases h
  · cases h
def pyEq (S : Store) (x y : D) : Option Bool := match scEq x y with
  | some b => some b
  | none => (match x.py S, y.py S with
    | some p, some q => if SeqAt.shaped p && SeqAt.shaped q then some (PyData.eqv p q) else none
    | _, _ => none)
def oEq (x y : D) (S : Store) : Out D := match pyEq S x y with
  | some b => ret (.bl b) S
  | none => none
def oNe (x y : D) (S : Store) : Out D := match pyEq S x y with
  | some b => ret (.bl (!b)) S
  | none => none
def rEqM (K : PySem.W.Frag) : R2 := fun x y H Q => rEq x y H Q ∨ rEqD K x y H Q
def rNeM (K : PySem.W.Frag) : R2 := fun x y H Q => rNe x y H Q ∨ rNeD K x y H Q
theorem opm_eq {c : Ct} : OpM c (rEqM c.K) oEq := by
  intro φ S H Q x y a b z g rx ry h hp
  unfold oEq at h
  cases e : pyEq S a b with
  | none => rw [e] at h; cases h
  | some k =>
    rw [e] at h
    cases h
    have fin : Q (.bl k) H := hp.now g (.bl k)
    unfold pyEq at e
    split at e
    · rename_i e1
      cases e
      obtain ⟨h1, h2⟩ := scEq_ok rx ry e1
      exact .inl ⟨h1, by rw [h2]; exact fin⟩
    · split at e
      · rename_i p q e1 e2
        split at e
        · rename_i hs
          cases e
          obtain ⟨s1, s2⟩ := Bool.and_eq_true_iff.mp hs
          exact .inr ⟨p, q, py_ok g rx e1, py_ok g ry e2, s1, s2, fin⟩
        · cases e
      · cases e
theorem opm_ne {c : Ct} : OpM c (rNeM c.K) oNe := by
  intro φ S H Q x y a b z g rx ry h hp
  unfold oNe at h
  cases e : pyEq S a b with
  | none => rw [e] at h; cases h
  | some k =>
    rw [e] at h
    cases h
    have fin : Q (.bl (!k)) H := hp.now g (.bl (!k))
    unfold pyEq at e
    split at e
    · rename_i e1
      cases e
      obtain ⟨h1, h2⟩ := scEq_ok rx ry e1
      exact .inl ⟨h1, by rw [h2]; exact fin⟩
    · split at e
      · rename_i p q e1 e2
        split at e
        · rename_i hs
          cases e
          obtain ⟨s1, s2⟩ := Bool.and_eq_true_iff.mp hs
          exact .inr ⟨p, q, py_ok g rx e1, py_ok g ry e2, s1, s2, fin⟩
        · cases e
      · cases e
theorem op_eqM {X : Cx} (hu : X.A.units + 64 < cLine) : OpR X (compareOp .Eq) (rEqM X.K) := OpR.or op_eq (op_eqD hu)
theorem op_neM {X : Cx} (hu : X.A.units + 64 < cLine) : OpR X (compareOp .NotEq) (rNeM X.K) := OpR.or op_ne (op_neD hu)

/-! ### order -/
def oLt (x y : D) (S : Store) : Out D := match x, y with
  | .int i, .int j => ret (.bl (decide (i < j))) S
  | .str i, .str j => ret (.bl (decide (i.cps.toList < j.cps.toList))) S
  | _, _ => none
def oLe (x y : D) (S : Store) : Out D := match x, y with
  | .int i, .int j => ret (.bl (decide (i ≤ j))) S
  | .str i, .str j => ret (.bl (!decide (j.cps.toList < i.cps.toList))) S
  | _, _ => none
def oGt (x y : D) (S : Store) : Out D := match x, y with
  | .int i, .int j => ret (.bl (decide (j < i))) S
  | .str i, .str j => ret (.bl (decide (j.cps.toList < i.cps.toList))) S
  | _, _ => none
def oGe (x y : D) (S : Store) : Out D := match x, y with
  | .int i, .int j => ret (.bl (decide (j ≤ i))) S
  | .str i, .str j => ret (.bl (!decide (i.cps.toList < j.cps.toList))) S
  | _, _ => none
abbrev rStrC (p : Str → Str → Bool) : R2 := fun x y H Q => ∃ i j, x = .str i ∧ y = .str j ∧ Q (.bl (p i j)) H
abbrev rLtM : R2 := fun x y H Q => rI0 (fun i j => .bl (decide (i < j))) x y H Q ∨ rStrC (fun i j => decide (i.cps.toList < j.cps.toList)) x y H Q
abbrev rLeM : R2 := fun x y H Q => rI0 (fun i j => .bl (decide (i ≤ j))) x y H Q ∨ rStrC (fun i j => !decide (j.cps.toList < i.cps.toList)) x y H Q
abbrev rGtM : R2 := fun x y H Q => rI0 (fun i j => .bl (decide (j < i))) x y H Q ∨ rStrC (fun i j => decide (j.cps.toList < i.cps.toList)) x y H Q
abbrev rGeM : R2 := fun x y H Q => rI0 (fun i j => .bl (decide (j ≤ i))) x y H Q ∨ rStrC (fun i j => !decide (i.cps.toList < j.cps.toList)) x y H Q
theorem opm_lt {c : Ct} : OpM c rLtM oLt := by
  intro φ S H Q x y a b z g rx ry h hp
  unfold oLt at h
  split at h
  · cases rx; cases ry; cases h; exact .inl ⟨_, _, rfl, rfl, hp.now g (.bl _)⟩
  · cases rx; cases ry; cases h; exact .inr ⟨_, _, rfl, rfl, hp.now g (.bl _)⟩
  · cases h
theorem opm_le {c : Ct} : OpM c rLeM oLe := by
  intro φ S H Q x y a b z g rx ry h hp
  unfold oLe at h
  split at h
  · cases rx; cases ry; cases h; exact .inl ⟨_, _, rfl, rfl, hp.now g (.bl _)⟩
  · cases rx; cases ry; cases h; exact .inr ⟨_, _, rfl, rfl, hp.now g (.bl _)⟩
  · cases h
theorem opm_gt {c : Ct} : OpM c rGtM oGt := by
  intro φ S H Q x y a b z g rx ry h hp
  unfold oGt at h
  split at h
  · cases rx; cases ry; cases h; exact .inl ⟨_, _, rfl, rfl, hp.now g (.bl _)⟩
  · cases rx; cases ry; cases h; exact .inr ⟨_, _, rfl, rfl, hp.now g (.bl _)⟩
  · cases h
theorem opm_ge {c : Ct} : OpM c rGeM oGe := by
  intro φ S H Q x y a b z g rx ry h hp
  unfold oGe at h
  split at h
  · cases rx; cases ry; cases h; exact .inl ⟨_, _, rfl, rfl, hp.now g (.bl _)⟩
  · cases rx; cases ry; cases h; exact .inr ⟨_, _, rfl, rfl, hp.now g (.bl _)⟩
  · cases h
theorem op_ltM {X : Cx} : OpR X (compareOp .Lt) rLtM := OpR.or op_lt op_lt_str
theorem op_leM {X : Cx} : OpR X (compareOp .LtE) rLeM := OpR.or op_le op_le_str
theorem op_gtM {X : Cx} : OpR X (compareOp .Gt) rGtM := OpR.or op_gt op_gt_str
theorem op_geM {X : Cx} : OpR X (compareOp .GtE) rGeM := OpR.or op_ge op_ge_str

/-! ### is None -/
def D.isNon : D → Bool
  | .non => true
  | _ => false
def oIs (neg : Bool) (x y : D) (S : Store) : Out D := match y with
  | .non => ret (.bl (if neg then !x.isNon else x.isNon)) S
  | _ => none
theorem isn_ok {K : PySem.W.Frag} {R : Addr → Prop} {n : Nat} {φ : Nat → Addr} {H : Hp} {d : D} {v : V} (r : Rp K R n φ H v d) : decide (v = .non) = d.isNon := by
  cases r <;> simp [D.isNon]
theorem opm_is {c : Ct} : OpM c (fun x y H Q => y = .non ∧ Q (.bl (decide (x = .non))) H) (oIs false) := by
  intro φ S H Q x y a b z g rx ry h hp
  unfold oIs at h
  split at h
  · cases ry
    refine ⟨rfl, ?_⟩
    rw [isn_ok rx]
    cases h
    exact hp.now g (.bl _)
  · cases h
theorem opm_isnot {c : Ct} : OpM c (fun x y H Q => y = .non ∧ Q (.bl (!decide (x = .non))) H) (oIs true) := by
  intro φ S H Q x y a b z g rx ry h hp
  unfold oIs at h
  split at h
  · cases ry
    refine ⟨rfl, ?_⟩
    rw [isn_ok rx]
    cases h
    exact hp.now g (.bl _)
  · cases h

/-! ### arithmetic -/
def oAdd (x y : D) (S : Store) : Out D := match x, y with
  | .int i, .int j => ret (.int (i + j)) S
  | .str i, .str j => guard' (decide (i.length + j.length ≤ line)) (ret (.str (i ++ j)) S)
  | .tup a, .tup b => guard' (decide (a.length + b.length ≤ line)) (ret (.tup (a ++ b)) S)
  | x, y => (match asM S x with
    | some a => (match asM S y with
      | some b => guard' (decide (a.length + b.length ≤ line)) (ret (.lst (a ++ b)) S)
      | none => none)
    | none => none)
def rAddM (K : PySem.W.Frag) : R2 := fun x y H Q => ((rI0 fun i j => .int (i + j)) x y H Q ∨ (∃ i j, x = .str i ∧ y = .str j ∧ i.length + j.length ≤ sizeLine ∧ Q (.str (i ++ j)) H)) ∨ (rCatA K x y H Q ∨ rCat x y H Q)
theorem op_addM {X : Cx} : OpR X (binaryOp .Add) (rAddM X.K) := OpR.or (OpR.or op_add op_add_str) (OpR.or op_catA op_cat)
theorem new_lst {K : PySem.W.Frag} {R : Addr → Prop} {φ : Nat → Addr} {S : Store} {H : Hp} {p : Addr} {xs : List V} {ds : List D} (g : Good K R φ H S) (hn : H p = none) (r : Rps K R S.length φ H xs ds) : Rp K R S.length φ (upd H p (.lst xs)) (.ref p) (.lst ds) :=
  .lst upd_same (fun hr => by
    obtain ⟨o, h⟩ := g.off p hr
    rw [hn] at h; cases h) (fun i hi e => by
    obtain ⟨o, h, _⟩ := g.there hi
    rw [← e, hn] at h; cases h) (r.step (Step.new hn))
theorem new_tup {K : PySem.W.Frag} {R : Addr → Prop} {φ : Nat → Addr} {S : Store} {H : Hp} {p : Addr} {xs : List V} {ds : List D} (hn : H p = none) (r : Rps K R S.length φ H xs ds) : Rp K R S.length φ (upd H p (.tup xs)) (.ref p) (.tup ds) :=
  .tup (.of upd_same) (r.step (Step.new hn))
theorem opm_add {c : Ct} : OpM c (rAddM c.K) oAdd := by
  intro φ S H Q x y a b z g rx ry h hp
  unfold oAdd at h
  split at h
  · cases rx; cases ry; cases h; exact .inl (.inl ⟨_, _, rfl, rfl, hp.now g (.int _)⟩)
  · obtain ⟨hl, h⟩ := guard_ok h
    cases rx; cases ry; cases h; exact .inl (.inr ⟨_, _, rfl, rfl, line_ok hl, hp.now g (.str _)⟩)
  · obtain ⟨hl, h⟩ := guard_ok h
    cases h
    cases rx with
    | tup k1 r1 =>
      cases ry with
      | tup k2 r2 =>
        refine .inr (.inl ⟨_, _, _, _, rfl, rfl, k1, k2, by rw [r1.length, r2.length]; exact line_ok hl, fun e => ?_, fun _ e => ?_, fun _ _ p hn => ?_⟩)
        · subst e
          cases r1
          exact hp.now g (.tup k2 r2)
        · subst e
          cases r2
          rw [List.append_nil] at hp
          exact hp.now g (.tup k1 r1)
        · exact hp.new g hn (new_tup hn (r1.append r2))
  · split at h
    · rename_i e1
      split at h
      · rename_i e2
        obtain ⟨hl, h⟩ := guard_ok h
        cases h
        obtain ⟨p, xs, rfl, k1, r1⟩ := asM_ok g rx e1
        obtain ⟨q, ys, rfl, k2, r2⟩ := asM_ok g ry e2
        exact .inr (.inr ⟨_, _, _, _, rfl, rfl, k1, k2, by rw [r1.length, r2.length]; exact line_ok hl, fun p hn => hp.new g hn (new_lst g hn (r1.append r2))⟩)
      · cases h
    · cases h
def oSub (x y : D) (S : Store) : Out D := match x, y with
  | .int i, .int j => ret (.int (i - j)) S
  | _, _ => none
theorem opm_sub {c : Ct} : OpM c (rI0 fun i j => .int (i - j)) oSub := by
  intro φ S H Q x y a b z g rx ry h hp
  unfold oSub at h
  split at h
  · cases rx; cases ry; cases h; exact ⟨_, _, rfl, rfl, hp.now g (.int _)⟩
  · cases h
/-- a number's size: below 2 ^ 4000 -/
def bits : Nat := 4000
def oMul (x y : D) (S : Store) : Out D := match x, y with
  | .int i, .int j => guard' (decide (i.natAbs.log2 + j.natAbs.log2 < 1000000)) (ret (.int (i * j)) S)
  | .tup a, .int k => guard' (!a.isEmpty && decide (2 ≤ k) && decide (k ≤ 1000) && decide (a.length ≤ 1000)) (ret (.tup (List.replicate k.toNat a).flatten) S)
  | x, .int k => (match asM S x with
    | some a => guard' (decide (0 ≤ k) && decide (k ≤ 1000) && decide (a.length ≤ 100)) (ret (.lst (List.replicate k.toNat a).flatten) S)
    | none => none)
  | _, _ => none
def rMulM (K : PySem.W.Frag) : R2 := fun x y H Q => (rI CMulW fun i j => .int (i * j)) x y H Q ∨ (rRepT K x y H Q ∨ rRep x y H Q)
theorem op_mulM {X : Cx} : OpR X (binaryOp .Mult) (rMulM X.K) := OpR.or op_mulW (OpR.or op_repT op_rep)
theorem Rps.rep {K : PySem.W.Frag} {R : Addr → Prop} {n : Nat} {φ : Nat → Addr} {H : Hp} {xs : List V} {ds : List D} (r : Rps K R n φ H xs ds) : ∀ k : Nat, Rps K R n φ H (List.replicate k xs).flatten (List.replicate k ds).flatten
  | 0 => .nil
  | k + 1 => by
    rw [List.replicate_succ, List.replicate_succ, List.flatten_cons, List.flatten_cons]
    exact r.append (Rps.rep r k)
theorem opm_mul {c : Ct} : OpM c (rMulM c.K) oMul := by
  intro φ S H Q x y a b z g rx ry h hp
  unfold oMul at h
  split at h
  · obtain ⟨hl, h⟩ := guard_ok h
    cases rx; cases ry; cases h; exact .inl ⟨_, _, rfl, rfl, (of_decide_eq_true hl : _ < _), hp.now g (.int _)⟩
  · obtain ⟨hl, h⟩ := guard_ok h
    cases h
    cases ry
    simp only [Bool.and_eq_true, decide_eq_true_eq] at hl
    obtain ⟨⟨⟨h0, h1⟩, h2⟩, h3⟩ := hl
    cases rx with
    | tup k1 r1 =>
      refine .inr (.inl ⟨_, _, _, rfl, rfl, k1, fun e => ?_, h1, h2, by rw [r1.length]; exact h3, fun p hn => hp.new g hn (new_tup hn (r1.rep _))⟩)
      subst e
      cases r1
      cases h0
  · split at h
    · rename_i e1
      obtain ⟨hl, h⟩ := guard_ok h
      cases h
      cases ry
      simp only [Bool.and_eq_true, decide_eq_true_eq] at hl
      obtain ⟨⟨h0, h1⟩, h2⟩ := hl
      obtain ⟨p, xs, rfl, k1, r1⟩ := asM_ok g rx e1
      refine .inr (.inr ⟨_, _, _, rfl, rfl, k1, by omega, by omega, ?_, fun p hn => hp.new g hn (new_lst g hn (r1.rep _))⟩)
      rw [r1.length]
      exact Nat.le_trans (Nat.mul_le_mul h2 (Int.toNat_le.mpr h1 : _ ≤ 1000)) (by decide)
    · cases h
  · cases h
def oDiv (x y : D) (S : Store) : Out D := match x, y with
  | .int i, .int j => guard' (decide (0 < j) && decide (j.natAbs.log2 < 9000)) (ret (.int (i / j)) S)
  | _, _ => none
theorem opm_div {c : Ct} : OpM c (rI CDivW fun i j => .int (i / j)) oDiv := by
  intro φ S H Q x y a b z g rx ry h hp
  unfold oDiv at h
  split at h
  · obtain ⟨hl, h⟩ := guard_ok h
    simp only [Bool.and_eq_true, decide_eq_true_eq] at hl
    cases rx; cases ry; cases h; exact ⟨_, _, rfl, rfl, hl, hp.now g (.int _)⟩
  · cases h
def oMod (x y : D) (S : Store) : Out D := match x, y with
  | .int i, .int j => guard' (decide (0 < j)) (ret (.int (i % j)) S)
  | _, _ => none
theorem opm_mod {c : Ct} : OpM c (rI (fun _ j => 0 < j) fun i j => .int (i % j)) oMod := by
  intro φ S H Q x y a b z g rx ry h hp
  unfold oMod at h
  split at h
  · obtain ⟨hl, h⟩ := guard_ok h
    cases rx; cases ry; cases h; exact ⟨_, _, rfl, rfl, of_decide_eq_true hl, hp.now g (.int _)⟩
  · cases h
def oPow (x y : D) (S : Store) : Out D := match x, y with
  | .int i, .int j => guard' (decide (0 ≤ j) && decide (j ≤ 1000) && decide (i.natAbs < 2 ^ 64)) (ret (.int (i ^ j.toNat)) S)
  | _, _ => none
theorem opm_pow {c : Ct} : OpM c (rI CPow fun i j => .int (i ^ j.toNat)) oPow := by
  intro φ S H Q x y a b z g rx ry h hp
  unfold oPow at h
  split at h
  · obtain ⟨hl, h⟩ := guard_ok h
    simp only [Bool.and_eq_true, decide_eq_true_eq] at hl
    cases rx; cases ry; cases h; exact ⟨_, _, rfl, rfl, ⟨hl.1.1, by omega, hl.2⟩, hp.now g (.int _)⟩
  · cases h
def oNeg (x : D) (S : Store) : Out D := match x with
  | .int i => ret (.int (-i)) S
  | _ => none
theorem unm_neg {c : Ct} : UnM c (rU fun i => .int (-i)) oNeg := by
  intro φ S H Q x a z g rx h hp
  unfold oNeg at h
  split at h
  · cases rx; cases h; exact ⟨_, rfl, hp.now g (.int _)⟩
  · cases h
end Pv

/-! Pv, part D: expressions: truth, and, or, comparisons, displays, places. -/
namespace Pv
open PySem PySem.Spec PyProof.Rows L2

/-! ### truth -/
def truD (S : Store) : D → Option Bool
  | .non => some false
  | .bl b => some b
  | .int i => some (i != 0)
  | .str y => if y.length ≤ line then some ((y.length : Int) != 0) else none
  | .tup ds => some (!ds.isEmpty)
  | .lst ds => some (!ds.isEmpty)
  | .frz ds => some (!ds.isEmpty)
  | .cell i => (match S[i]? with
    | some (.lst ds) => some (!ds.isEmpty)
    | some (.dct kvs) => some (!kvs.isEmpty)
    | none => none)
theorem empty_len {α β : Type} : ∀ {a : List α} {b : List β}, a.length = b.length → a.isEmpty = b.isEmpty
  | [], [], _ => rfl
  | _ :: _, _ :: _, _ => rfl
  | [], _ :: _, h => by simp at h
  | _ :: _, [], h => by simp at h
theorem Rps.empty {K : PySem.W.Frag} {R : Addr → Prop} {n : Nat} {φ : Nat → Addr} {H : Hp} {vs : List V} {ds : List D} (r : Rps K R n φ H vs ds) : ds.isEmpty = vs.isEmpty := by cases r <;> rfl
theorem tru_ok' {K : PySem.W.Frag} {R : Addr → Prop} {φ : Nat → Addr} {S : Store} {H : Hp} {v : V} {d : D} {b : Bool} (g : Good K R φ H S) (r : Rp K R S.length φ H v d) (h : truD S d = some b) : TruV K v H b := by
  cases r with
  | non => cases h; rfl
  | bl k => cases h; rfl
  | int i => cases h; rfl
  | str y =>
    have h : (if y.length ≤ line then some ((y.length : Int) != 0) else none) = some b := h
    split at h
    · rename_i hl
      cases h
      exact ⟨Nat.le_trans hl (by decide), rfl⟩
    · cases h
  | tup k r => cases h; exact .inr (.inl ⟨_, k, by rw [r.empty]⟩)
  | lst k _ _ r => cases h; exact .inl ⟨_, .of k, by rw [r.empty]⟩
  | klst k r => cases h; exact .inl ⟨_, k.sq, by rw [r.empty]⟩
  | frz k r => cases h; exact .inl ⟨_, .inl (.inr ⟨_, k⟩), by rw [r.empty]⟩
  | cell hi =>
    rename_i i
    have h : (match S[i]? with
      | some (.lst ds) => some (!ds.isEmpty)
      | some (.dct kvs) => some (!kvs.isEmpty)
      | none => none) = some b := h
    split at h
    · rename_i e
      cases h
      obtain ⟨xs, e1, q⟩ := g.at_ _ _ e
      exact .inl ⟨xs, .of e1, by rw [q.empty]⟩
    · rename_i e
      cases h
      obtain ⟨ps, e1, ek, q⟩ := g.at_ _ _ e
      refine .inr (.inr ⟨ps, e1, ?_⟩)
      have := q.length
      simp only [List.length_map] at this
      rw [empty_len this]
    · cases h
/-- what d's truth decides -/
def byT {α : Type} (S : Store) (d : D) (k : Bool → Out α) : Out α := match truD S d with
  | some b => k b
  | none => none
theorem byT_ok {α : Type} {S : Store} {d : D} {k : Bool → Out α} {r : Rs α × Store} (h : byT S d k = some r) : ∃ b, truD S d = some b ∧ k b = some r := by
  unfold byT at h
  split at h
  · rename_i b e
    exact ⟨b, e, h⟩
  · cases h
def eTru (f : Env → Store → Out D) (ρ : Env) (S : Store) : Out Bool := bnd (f ρ S) fun d S1 => byT S1 d fun b => ret b S1
def eOr (fa fb : Env → Store → Out D) (ρ : Env) (S : Store) : Out D := bnd (fa ρ S) fun d S1 => byT S1 d fun b => if b then ret d S1 else fb ρ S1
def eAnd (fa fb : Env → Store → Out D) (ρ : Env) (S : Store) : Out D := bnd (fa ρ S) fun d S1 => byT S1 d fun b => if b then fb ρ S1 else ret d S1
def eNot (f : Env → Store → Out D) (ρ : Env) (S : Store) : Out D := bnd (f ρ S) fun d S1 => byT S1 d fun b => ret (.bl (!b)) S1
def bOr (fa fb : Env → Store → Out Bool) (ρ : Env) (S : Store) : Out Bool := bnd (fa ρ S) fun d S1 => if d then ret true S1 else fb ρ S1
def bAnd (fa fb : Env → Store → Out Bool) (ρ : Env) (S : Store) : Out Bool := bnd (fa ρ S) fun d S1 => if d then fb ρ S1 else ret false S1
def bNot (f : Env → Store → Out Bool) (ρ : Env) (S : Store) : Out Bool := bnd (f ρ S) fun d S1 => ret (!d) S1
def eIf (t : Env → Store → Out Bool) (fa fb : Env → Store → Out D) (ρ : Env) (S : Store) : Out D := bnd (t ρ S) fun d S1 => if d then fa ρ S1 else fb ρ S1
section
variable {X : Cx} {c : Ct} {a b : Expr} {rest : List Expr} {pos : Pos} {fa fb : Env → Store → Out D} {ta tb : Env → Store → Out Bool}
theorem m_tru (hK : c.K = X.K) (ha : PE X a (mE c fa)) (he : ∀ whole, isTrue a X.env whole = (do let v ← whole; standAt a.pos; holding [v] (truthy v))) : PT X a (mB c (eTru fa)) := by
  refine pt_weak (pt_truth ha he) fun σ H Q ⟨φ, S, ρ, z, hg, hr, hf, hp⟩ => ?_
  refine Wp.fst hg hr hf hp fun d S1 v φ1 H1 s1 g1 e1 r1 hf1 hp1 => ?_
  obtain ⟨k, h1, h2⟩ := byT_ok hf1
  cases h2
  exact ⟨k, by rw [← hK]; exact tru_ok' g1 r1 h1, hp1.now g1 rfl⟩
theorem m_or (hK : c.K = X.K) (ha : PE X a (mE c fa)) (hb : PE X (.BoolOp .Or (b :: rest) pos) (mE c fb)) : PE X (.BoolOp .Or (a :: b :: rest) pos) (mE c (eOr fa fb)) := by
  refine pe_weak (pe_orT ha hb) fun σ H Q ⟨φ, S, ρ, z, hg, hr, hf, hp⟩ => ?_
  refine Wp.fst hg hr hf hp fun d S1 v φ1 H1 s1 g1 e1 r1 hf1 hp1 => ?_
  obtain ⟨k, h1, h2⟩ := byT_ok hf1
  refine ⟨k, by rw [← hK]; exact tru_ok' g1 r1 h1, ?_⟩
  cases k with
  | true =>
    cases h2
    exact iteT (hp1.now g1 r1)
  | false => exact iteF ⟨φ1, S1, ρ, z, g1, e1, h2, hp1⟩
theorem m_and (hK : c.K = X.K) (ha : PE X a (mE c fa)) (hb : PE X (.BoolOp .And (b :: rest) pos) (mE c fb)) : PE X (.BoolOp .And (a :: b :: rest) pos) (mE c (eAnd fa fb)) := by
  refine pe_weak (pe_andT ha hb) fun σ H Q ⟨φ, S, ρ, z, hg, hr, hf, hp⟩ => ?_
  refine Wp.fst hg hr hf hp fun d S1 v φ1 H1 s1 g1 e1 r1 hf1 hp1 => ?_
  obtain ⟨k, h1, h2⟩ := byT_ok hf1
  refine ⟨k, by rw [← hK]; exact tru_ok' g1 r1 h1, ?_⟩
  cases k with
  | false =>
    cases h2
    exact iteF (hp1.now g1 r1)
  | true => exact iteT ⟨φ1, S1, ρ, z, g1, e1, h2, hp1⟩
theorem m_not (hK : c.K = X.K) (ha : PE X a (mE c fa)) : PE X (.UnaryOp .Not a pos) (mE c (eNot fa)) := by
  refine pe_weak (pe_notT ha) fun σ H Q ⟨φ, S, ρ, z, hg, hr, hf, hp⟩ => ?_
  refine Wp.fst hg hr hf hp fun d S1 v φ1 H1 s1 g1 e1 r1 hf1 hp1 => ?_
  obtain ⟨k, h1, h2⟩ := byT_ok hf1
  cases h2
  exact ⟨k, by rw [← hK]; exact tru_ok' g1 r1 h1, hp1.now g1 (.bl _)⟩
theorem b_or (ha : PT X a (mB c ta)) (hb : PW X (.BoolOp .Or (b :: rest) pos) (mB c tb)) : PW X (.BoolOp .Or (a :: b :: rest) pos) (mB c (bOr ta tb)) := by
  refine pw_weak (pw_or ha hb) fun σ H Q ⟨φ, S, ρ, z, hg, hr, hf, hp⟩ => ?_
  refine Wp.fst hg hr hf hp fun d S1 v φ1 H1 s1 g1 e1 r1 hf1 hp1 => ?_
  cases r1
  cases d with
  | true =>
    cases hf1
    exact iteT (hp1.now g1 rfl)
  | false => exact iteF ⟨φ1, S1, ρ, z, g1, e1, hf1, hp1⟩
theorem b_and (ha : PT X a (mB c ta)) (hb : PW X (.BoolOp .And (b :: rest) pos) (mB c tb)) : PW X (.BoolOp .And (a :: b :: rest) pos) (mB c (bAnd ta tb)) := by
  refine pw_weak (pw_and ha hb) fun σ H Q ⟨φ, S, ρ, z, hg, hr, hf, hp⟩ => ?_
  refine Wp.fst hg hr hf hp fun d S1 v φ1 H1 s1 g1 e1 r1 hf1 hp1 => ?_
  cases r1
  cases d with
  | false =>
    cases hf1
    exact iteF (hp1.now g1 rfl)
  | true => exact iteT ⟨φ1, S1, ρ, z, g1, e1, hf1, hp1⟩
theorem b_not (ha : PT X a (mB c ta)) : PT X (.UnaryOp .Not a pos) (mB c (bNot ta)) := by
  refine pt_weak (pt_not ha) fun σ H Q ⟨φ, S, ρ, z, hg, hr, hf, hp⟩ => ?_
  refine Wp.fst hg hr hf hp fun d S1 v φ1 H1 s1 g1 e1 r1 hf1 hp1 => ?_
  cases r1
  cases hf1
  exact hp1.now g1 rfl
theorem m_if {t : Expr} (ht : PT X t (mB c ta)) (ha : PE X a (mE c fa)) (hb : PE X b (mE c fb)) : PE X (.IfExp t a b pos) (mE c (eIf ta fa fb)) := by
  refine pe_weak (pe_ifExp ht ha hb) fun σ H Q ⟨φ, S, ρ, z, hg, hr, hf, hp⟩ => ?_
  refine Wp.fst hg hr hf hp fun d S1 v φ1 H1 s1 g1 e1 r1 hf1 hp1 => ?_
  cases r1
  cases d with
  | false => exact iteF ⟨φ1, S1, ρ, z, g1, e1, hf1, hp1⟩
  | true => exact iteT ⟨φ1, S1, ρ, z, g1, e1, hf1, hp1⟩

/-! ### comparisons as values and as tests -/
theorem m_cmp {op : CmpOp} {r : R2} {o : D → D → Store → Out D} (ho : OpR X (compareOp op) r) (hm : OpM c r o) (ha : PE X a (mE c fa)) (hb : PE X b (mE c fb)) (hk : behindInMarks op b = false) : PE X (.Compare a [op] [b] pos) (mE c (eBin o fa fb)) :=
  pe_weak (pe_cmpR ho ha hb hk) fun σ H Q h => m_bin hm h
theorem b_cmp {op : CmpOp} {r : R2} {o : D → D → Store → Out D} (ho : OpR X (compareOp op) r) (hm : OpM c r o) (ha : PE X a (mE c fa)) (hb : PE X b (mE c fb)) (hk : behindInMarks op b = false)
    (hbl : ∀ x y S d S', o x y S = some (.ok d, S') → ∃ k, d = .bl k) : PT X (.Compare a [op] [b] pos) (mB c (eTru (eBin o fa fb))) := by
  refine pt_weak (pt_cmpR ho ha hb hk) fun σ H Q ⟨φ, S, ρ, z, hg, hr, hf, hp⟩ => ?_
  refine m_bin hm ?_
  have hbl' : ∀ d S', eBin o fa fb ρ S = some (.ok d, S') → ∃ k, d = .bl k := fun d S' e => by
    unfold eBin at e
    cases e1 : fa ρ S with
    | none => rw [e1] at e; cases e
    | some q =>
      obtain ⟨q, S1⟩ := q
      rw [e1] at e
      cases q with
      | ex x => cases e
      | ok x =>
        simp only [bnd_ok] at e
        cases e2 : fb ρ S1 with
        | none => rw [e2] at e; cases e
        | some q =>
          obtain ⟨q, S2⟩ := q
          rw [e2] at e
          cases q with
          | ex x => cases e
          | ok y => exact hbl _ _ _ _ _ e
  cases e : eBin o fa fb ρ S with
  | none =>
    unfold eTru at hf
    rw [e] at hf; cases hf
  | some q =>
    obtain ⟨q, S1⟩ := q
    unfold eTru at hf
    rw [e] at hf
    refine ⟨φ, S, ρ, _, hg, hr, e, ?_⟩
    cases q with
    | ex x => cases hf; exact hp
    | ok d =>
      obtain ⟨k, rfl⟩ := hbl' d S1 e
      cases hf
      refine fun v φ' H' s g rv => ?_
      cases rv
      exact ⟨k, rfl, hp k φ' H' s g rfl⟩
/-- a op1 b op2 c -/
def chK (o' : D → D → Store → Out D) (fd : Env → Store → Out D) (ρ : Env) (y : D) (w : D) (S : Store) : Out D := match w with
  | .bl true => bnd (fd ρ S) fun z S4 => o' y z S4
  | .bl false => ret (.bl false) S
  | _ => none
def eChain (o o' : D → D → Store → Out D) (fa fb fd : Env → Store → Out D) (ρ : Env) (S : Store) : Out D :=
  bnd (fa ρ S) fun x S1 => bnd (fb ρ S1) fun y S2 => bnd (o x y S2) fun d S3 => chK o' fd ρ y d S3
end

/-! ### argument lists, displays -/
def eNil (_ : Env) (S : Store) : Out (List D) := ret [] S
def eCons (f : Env → Store → Out D) (fs : Env → Store → Out (List D)) (ρ : Env) (S : Store) : Out (List D) := bnd (f ρ S) fun d S1 => bnd (fs ρ S1) fun ds S2 => ret (d :: ds) S2
def eTup (fs : Env → Store → Out (List D)) (ρ : Env) (S : Store) : Out D := bnd (fs ρ S) fun ds S1 => guard' (decide (ds.length ≤ line)) (ret (.tup ds) S1)
def eLst (fs : Env → Store → Out (List D)) (ρ : Env) (S : Store) : Out D := bnd (fs ρ S) fun ds S1 => guard' (decide (ds.length ≤ line)) (ret (.lst ds) S1)
section
variable {X : Cx} {c : Ct} {e : Expr} {es : List Expr} {pos : Pos} {f : Env → Store → Out D} {fs : Env → Store → Out (List D)}
theorem m_nil : PA X [] (mA c eNil) := by
  refine pa_weak pa_nil fun σ H Q h => ?_
  exact Wp.con (b := ([] : List V)) h fun _ _ => .nil
theorem m_cons (hs : starEach (e :: es) X.env = (false, eval e X.env) :: starEach es X.env) (h : PE X e (mE c f)) (hr : PA X es (mA c fs)) : PA X (e :: es) (mA c (eCons f fs)) := by
  refine pa_weak (pa_cons h hr hs) fun σ H Q ⟨φ, S, ρ, z, hg, hr, hf, hp⟩ => ?_
  refine Wp.fst hg hr hf hp fun d S1 v φ1 H1 s1 g1 e1 r1 hf1 hp1 => ?_
  refine Wp.fst g1 e1 hf1 hp1 fun ds S2 vs φ2 H2 s2 g2 e2 r2 hf2 hp2 => ?_
  cases hf2
  exact hp2.now g2 (.cons (Rp.step s2 r1) r2)
theorem m_tup {k : Nat} (h : PA X es (mA c fs)) : PE X (.Tuple es k pos) (mE c (eTup fs)) := by
  refine pe_weak (pe_tup h) fun σ H Q ⟨φ, S, ρ, z, hg, hr, hf, hp⟩ => ?_
  refine Wp.fst hg hr hf hp fun ds S1 vs φ1 H1 s1 g1 e1 r1 hf1 hp1 => ?_
  obtain ⟨hl, hf1⟩ := guard_ok hf1
  cases hf1
  refine ⟨by rw [Rps.length r1]; exact line_ok hl, fun p hn => hp1.new g1 hn (new_tup hn r1)⟩
theorem m_lst (h : PA X es (mA c fs)) : PE X (.List es pos) (mE c (eLst fs)) := by
  refine pe_weak (pe_lst h) fun σ H Q ⟨φ, S, ρ, z, hg, hr, hf, hp⟩ => ?_
  refine Wp.fst hg hr hf hp fun ds S1 vs φ1 H1 s1 g1 e1 r1 hf1 hp1 => ?_
  obtain ⟨hl, hf1⟩ := guard_ok hf1
  cases hf1
  refine ⟨by rw [Rps.length r1]; exact line_ok hl, fun p hn => hp1.new g1 hn (new_lst g1 hn r1)⟩
end

/-! ### places -/
theorem ix_dict {X : Cx} (hu : X.A.units + 1 < cLine) : IxR X (fun x y H Q => ∃ a v, x = .ref a ∧ DGet H a y (some v) ∧ Q v H) := by
  intro value slice pins s σ H x y v u Q I rx ry h hs
  obtain ⟨a, w, rfl, g, q⟩ := h
  obtain rfl : v = Value.ref a := rx
  exact tail_any (dict_typeIs I g) PySem.F.slot_dict_getitem.lookup (d_getItem hu I g ry fun w' s' I' r' => ⟨w, H, I', r', q⟩) hs
def dKey : D → Option Key
  | .int i => some (.inl i)
  | .str x => some (.inr x)
  | _ => none
theorem key_ok {K : PySem.W.Frag} {R : Addr → Prop} {n : Nat} {φ : Nat → Addr} {H : Hp} {d : D} {v : V} {k : Key} (r : Rp K R n φ H v d) (h : dKey d = some k) : v = kV k := by
  cases r <;> first | (cases h; rfl) | cases h
def valD : List (Key × D) → Key → Option D
  | [], _ => none
  | (k', d) :: r, k => if k' = k then some d else valD r k
theorem val_ok {K : PySem.W.Frag} {R : Addr → Prop} {n : Nat} {φ : Nat → Addr} {H : Hp} {k : Key} : ∀ {ps : List (Key × V)} {kvs : List (Key × D)}, ps.map (·.1) = kvs.map (·.1) → Rps K R n φ H (ps.map (·.2)) (kvs.map (·.2)) →
    (∀ d, valD kvs k = some d → ∃ v, valV ps k = some v ∧ Rp K R n φ H v d) ∧ (valD kvs k = none → valV ps k = none)
  | [], [], _, _ => ⟨(fun _ h => nomatch h), fun _ => rfl⟩
  | [], _ :: _, e, _ => by simp at e
  | _ :: _, [], e, _ => by simp at e
  | (k1, v1) :: ps, (k2, d2) :: kvs, e, r => by
    simp only [List.map_cons, List.cons.injEq] at e
    obtain ⟨e1, e2⟩ := e
    subst e1
    cases r with
    | cons r rs =>
      have ih := val_ok (k := k) e2 rs
      unfold valD valV
      rw [List.find?_cons]
      by_cases h : k1 = k
      · rw [if_pos h, decide_eq_true h]
        exact ⟨fun d e => by cases e; exact ⟨_, rfl, r⟩, (fun e => nomatch e)⟩
      · rw [if_neg h, decide_eq_false h]
        exact ih
def rIxM (K : PySem.W.Frag) : R2 := fun x y H Q => rIx K x y H Q ∨ ∃ a v, x = .ref a ∧ DGet H a y (some v) ∧ Q v H
theorem ix_M {X : Cx} (hu : X.A.units + 1 < cLine) : IxR X (rIxM X.K) := IxR.or ix_seq (ix_dict hu)
def oIx (x y : D) (S : Store) : Out D := match x, y with
  | .str z, .int i => guard' (decide (z.length ≤ line)) (match atI z.cps.toList i with
    | some k => ret (.str ⟨#[k]⟩) S
    | none => none)
  | .tup ds, .int i => (match atI ds i with
    | some d => ret d S
    | none => none)
  | .cell j, k => (match S[j]? with
    | some (.dct kvs) => (match dKey k with
      | some k => (match valD kvs k with
        | some d => ret d S
        | none => none)
      | none => none)
    | some (.lst ds) => (match k with
      | .int i => (match atI ds i with
        | some d => ret d S
        | none => none)
      | _ => none)
    | none => none)
  | x, .int i => (match asL S x with
    | some ds => (match atI ds i with
      | some d => ret d S
      | none => none)
    | none => none)
  | _, _ => none
theorem atI_rel {K : PySem.W.Frag} {R : Addr → Prop} {n : Nat} {φ : Nat → Addr} {H : Hp} {vs : List V} {ds : List D} {i : Int} {d : D} (r : Rps K R n φ H vs ds) (h : atI ds i = some d) : ∃ v, atI vs i = some v ∧ Rp K R n φ H v d := by
  unfold atI at h ⊢
  rw [r.length]
  cases e : ixN ds.length i with
  | none => rw [e] at h; cases h
  | some j =>
    rw [e] at h
    exact r.get (by simpa using h)
theorem opm_ix {c : Ct} : OpM c (rIxM c.K) oIx := by
  intro φ S H Q x y a b z g rx ry h hp
  unfold oIx at h
  split at h
  · obtain ⟨hl, h⟩ := guard_ok h
    cases rx; cases ry
    split at h
    · rename_i e
      cases h
      exact .inl (.inr (.inr ⟨_, _, _, rfl, rfl, line_ok hl, e, hp.now g (.str _)⟩))
    · cases h
  · cases ry
    cases rx with
    | tup k r =>
      split at h
      · rename_i e
        cases h
        obtain ⟨v, e1, r1⟩ := atI_rel r e
        exact .inl (.inr (.inl ⟨_, _, _, v, rfl, rfl, k, e1, hp.now g r1⟩))
      · cases h
  · cases rx with
    | cell hi =>
      split at h
      · rename_i e
        split at h
        · rename_i ek
          split at h
          · rename_i ev
            cases h
            obtain ⟨ps, e1, e2, r⟩ := g.at_ _ _ e
            obtain ⟨v, hv, rv⟩ := (val_ok e2 r).1 _ ev
            have := key_ok ry ek
            subst this
            exact .inr ⟨_, v, rfl, by rw [← hv]; exact .k e1, hp.now g rv⟩
          · cases h
        · cases h
      · rename_i e
        split at h
        · cases ry
          split at h
          · rename_i ev
            cases h
            obtain ⟨xs, e1, r⟩ := g.at_ _ _ e
            obtain ⟨v, e2, r1⟩ := atI_rel r ev
            exact .inl (.inl ⟨_, _, _, v, rfl, rfl, .of e1, e2, hp.now g r1⟩)
          · cases h
        · cases h
      · cases h
  · split at h
    · rename_i e
      split at h
      · rename_i ev
        cases h
        cases ry
        obtain ⟨p, xs, rfl, k, r⟩ := asL_ok g rx e
        obtain ⟨v, e2, r1⟩ := atI_rel r ev
        exact .inl (.inl ⟨_, _, _, v, rfl, rfl, k, e2, hp.now g r1⟩)
      · cases h
    · cases h
  · cases h
end Pv

/-! Pv, part E: chains, slices, built-in functions and methods. -/
namespace Pv
open PySem PySem.Spec PyProof.Rows L2 PySem.Calls

section
variable {X : Cx} {c : Ct} {a b d : Expr} {pos : Pos} {fa fb fd : Env → Store → Out D}
@[simp] theorem chK_t (o' : D → D → Store → Out D) (fd : Env → Store → Out D) (ρ : Env) (y : D) (S : Store) : chK o' fd ρ y (.bl true) S = bnd (fd ρ S) fun z S4 => o' y z S4 := rfl
theorem chain_mono {op op' : CmpOp} {r r' : R2} {o o' : D → D → Store → Out D} (hm : OpM c r o) (hm' : OpM c r' o') {σ : L2.St} {H : Hp} {Q : VK} (h : mE c (eChain o o' fa fb fd) σ H Q) : tChain r r' (mE c fa) (mE c fb) (mE c fd) σ H Q := by
  obtain ⟨φ, S, ρ, z, hg, hr, hf, hp⟩ := h
  refine Wp.fst hg hr hf hp fun x S1 vx φ1 H1 s1 g1 e1 r1 hf1 hp1 => ?_
  refine Wp.fst g1 e1 hf1 hp1 fun y S2 vy φ2 H2 s2 g2 e2 r2 hf2 hp2 => ?_
  cases e : o x y S2 with
  | none => rw [e] at hf2; cases hf2
  | some q =>
    obtain ⟨q, S3⟩ := q
    rw [e] at hf2
    refine hm φ2 S2 H2 _ vx vy x y (q, S3) g2 (Rp.step s2 r1) r2 e ?_
    cases q with
    | ex w =>
      have hf2 : some ((Rs.ex w : Rs D), S3) = some z := hf2
      cases hf2
      exact hp2
    | ok w =>
      refine fun v φ3 H3 s3 g3 rv => ?_
      have hf2 : chK o' fd ρ y w S3 = some z := hf2
      unfold chK at hf2
      split at hf2
      · cases rv
        refine ⟨true, rfl, ?_⟩
        show (if true = true then _ else _)
        rw [if_pos rfl]
        refine Wp.fst g3 (e2.step s3) hf2 (hp2.from s3) fun w' S4 vw φ4 H4 s4 g4 e4 r4 hf4 hp4 => ?_
        exact hm' φ4 S4 H4 Q vy vw y w' z g4 (Rp.step s4 (Rp.step s3 r2)) r4 hf4 hp4
      · cases rv
        cases hf2
        refine ⟨false, rfl, ?_⟩
        show (if false = true then _ else _)
        rw [if_neg Bool.false_ne_true]
        exact (hp2.from s3).now g3 (.bl false)
      · cases hf2
theorem m_chain {op op' : CmpOp} {r r' : R2} {o o' : D → D → Store → Out D} (ho : OpR X (compareOp op) r) (ho' : OpR X (compareOp op') r') (hm : OpM c r o) (hm' : OpM c r' o') (ha : PE X a (mE c fa)) (hb : PE X b (mE c fb)) (hd : PE X d (mE c fd))
    (hk : lastMarks [op, op'] [b, d] = false) : PE X (.Compare a [op, op'] [b, d] pos) (mE c (eChain o o' fa fb fd)) :=
  pe_weak (pe_chain ho ho' ha hb hd hk) fun σ H Q h => chain_mono (op := op) (op' := op') hm hm' h
end

/-! ### slices -/
def cutG {α : Type} (xs : List α) (lo hi : Option Int) : List α := (xs.drop (HT.sIx xs.length 0 lo)).take (HT.sIx xs.length xs.length hi - HT.sIx xs.length 0 lo)
theorem Rps.cut {K : PySem.W.Frag} {R : Addr → Prop} {n : Nat} {φ : Nat → Addr} {H : Hp} {vs : List V} {ds : List D} (r : Rps K R n φ H vs ds) (lo hi : Option Int) : Rps K R n φ H (cutV vs lo hi) (cutG ds lo hi) := by
  unfold cutV cutG
  rw [r.length]
  exact (r.drop _).take _
theorem cutG_whole {α : Type} {xs : List α} {lo hi : Option Int} (h : HT.sIx xs.length 0 lo = 0 ∧ HT.sIx xs.length xs.length hi = xs.length) : cutG xs lo hi = xs := by
  unfold cutG
  rw [h.1, h.2]
  simp
def oSl (x : D) (lo hi : Option Int) (S : Store) : Out D := match x with
  | .str z => guard' (decide (z.length ≤ line)) (ret (.str (cutS z lo hi)) S)
  | .tup ds => ret (.tup (cutG ds lo hi)) S
  | x => (match asL S x with
    | some ds => ret (.lst (cutG ds lo hi)) S
    | none => none)
def rSlM (K : PySem.W.Frag) : V → Option Int → Option Int → Hp → VK → Prop := fun x lo hi H Q => rSlS x lo hi H Q ∨ (rSlA K x lo hi H Q ∨ rSlL K x lo hi H Q)
theorem sl_M {X : Cx} : SlR X (rSlM X.K) := SlR.or sl_str (SlR.or sl_tupA sl_list)
theorem slm {c : Ct} {φ : Nat → Addr} {S : Store} {H : Hp} {Q : VK} {x : V} {a : D} {lo hi : Option Int} {z : Rs D × Store} (g : Good c.K c.R φ H S) (rx : Rp c.K c.R S.length φ H x a) (h : oSl a lo hi S = some z) (hp : Post c (RV c) φ S H Q z) : rSlM c.K x lo hi H Q := by
  unfold oSl at h
  split at h
  · obtain ⟨hl, h⟩ := guard_ok h
    cases rx
    cases h
    exact .inl ⟨_, rfl, line_ok hl, hp.now g (.str _)⟩
  · cases rx with
    | tup k r =>
      cases h
      refine .inr (.inl ⟨_, _, rfl, k, fun e => ?_, fun _ p hn => hp.new g hn (new_tup hn (r.cut lo hi))⟩)
      rw [r.length] at e
      rw [cutG_whole e] at hp
      exact hp.now g (.tup k r)
  · split at h
    · rename_i e
      cases h
      obtain ⟨p, xs, rfl, k, r⟩ := asL_ok g rx e
      exact .inr (.inr ⟨_, _, rfl, k, fun p hn => hp.new g hn (new_lst g hn (r.cut lo hi))⟩)
    · cases h
/-- a slice's end: none, or a number -/
def ePart (f : Option (Env → Store → Out D)) (ρ : Env) (S : Store) : Out (Option Int) := match f with
  | none => ret none S
  | some f => bnd (f ρ S) fun d S1 => match d with
    | .int i => ret (some i) S1
    | _ => none
def RO : RelT (Option Int) (Option Int) := fun _ _ _ a b => a = b
def eSl (f : Env → Store → Out D) (lo hi : Option (Env → Store → Out D)) (ρ : Env) (S : Store) : Out D := bnd (f ρ S) fun d S1 => bnd (ePart lo ρ S1) fun l S2 => bnd (ePart hi ρ S2) fun h S3 => oSl d l h S3
section
variable {X : Cx} {c : Ct} {e : Expr} {f : Env → Store → Out D} {pos p2 : Pos}
/-- a part's reading -/
def MPart (X : Cx) (c : Ct) : Option Expr → Option (Env → Store → Out D) → Prop
  | none, none => True
  | some e, some f => PE X e (mE c f)
  | _, _ => False
theorem m_part {o : Option Expr} {fo : Option (Env → Store → Out D)} (h : MPart X c o fo) : ∃ t, PO X o t ∧ ∀ σ H Q, Wp c RO (ePart fo) σ H Q → t σ H Q := by
  cases o with
  | none =>
    cases fo with
    | some _ => cases h
    | none => exact ⟨_, po_none, fun σ H Q h => Wp.con (b := (none : Option Int)) h fun _ _ => rfl⟩
  | some e =>
    cases fo with
    | none => cases h
    | some f =>
      refine ⟨_, po_some h, fun σ H Q ⟨φ, S, ρ, z, hg, hr, hf, hp⟩ => ?_⟩
      refine Wp.fst hg hr hf hp fun d S1 v φ1 H1 s1 g1 e1 r1 hf1 hp1 => ?_
      split at hf1
      · cases r1
        cases hf1
        exact ⟨_, rfl, hp1.now g1 rfl⟩
      · cases hf1
theorem m_sl {lo hi : Option Expr} {fl fh : Option (Env → Store → Out D)} (hK : c.K = X.K) (he : PE X e (mE c f)) (hl : MPart X c lo fl) (hh : MPart X c hi fh) : PE X (.Subscript e (.Slice lo hi none p2) pos) (mE c (eSl f fl fh)) := by
  obtain ⟨tl, h1, h2⟩ := m_part hl
  obtain ⟨th, h3, h4⟩ := m_part hh
  refine pe_weak (pe_slice sl_M he h1 h3) fun σ H Q ⟨φ, S, ρ, z, hg, hr, hf, hp⟩ => ?_
  refine Wp.fst hg hr hf hp fun d S1 v φ1 H1 s1 g1 e1 r1 hf1 hp1 => h2 _ _ _ ?_
  refine Wp.fst g1 e1 hf1 hp1 fun l S2 w φ2 H2 s2 g2 e2 r2 hf2 hp2 => h4 _ _ _ ?_
  refine Wp.fst g2 e2 hf2 hp2 fun h S3 y φ3 H3 s3 g3 e3 r3 hf3 hp3 => ?_
  cases r2
  cases r3
  rw [← hK]
  exact slm g3 (Rp.step s3 (Rp.step s2 r1)) hf3 hp3
def oRev (x : D) (S : Store) : Out D := match asL S x with
  | some ds => ret (.lst ds.reverse) S
  | none => none
theorem m_rev {k : Nat} {p1 p3 p4 : Pos} (hK : c.K = X.K) (he : PE X e (mE c f)) : PE X (.Subscript e (.Slice none none (some (.UnaryOp .USub (.Constant (.int 1) k p1) p3)) p4) pos) (mE c (eUn oRev f)) := by
  refine pe_weak (pe_revL he) fun σ H Q ⟨φ, S, ρ, z, hg, hr, hf, hp⟩ => ?_
  refine Wp.fst hg hr hf hp fun d S1 v φ1 H1 s1 g1 e1 r1 hf1 hp1 => ?_
  unfold oRev at hf1
  split at hf1
  · rename_i e
    cases hf1
    obtain ⟨p, xs, rfl, k, r⟩ := asL_ok g1 r1 e
    exact ⟨_, _, rfl, by rw [← hK]; exact k, fun p hn => hp1.new g1 hn (new_lst g1 hn r.reverse)⟩
  · cases hf1
end

/-! ### calls of built-in functions -/
def BlM (c : Ct) (r : List V → Hp → VK → Prop) (o : List D → Store → Out D) : Prop := ∀ (φ : Nat → Addr) (S : Store) (H : Hp) (Q : VK) (xs : List V) (ds : List D) (z : Rs D × Store),
  Good c.K c.R φ H S → Rps c.K c.R S.length φ H xs ds → o ds S = some z → Post c (RV c) φ S H Q z → r xs H Q
def eBl (o : List D → Store → Out D) (fs : Env → Store → Out (List D)) (ρ : Env) (S : Store) : Out D := bnd (fs ρ S) fun ds S1 => o ds S1
theorem m_bl_ {c : Ct} {r : List V → Hp → VK → Prop} {o : List D → Store → Out D} {fs : Env → Store → Out (List D)} (ho : BlM c r o) {σ : L2.St} {H : Hp} {Q : VK} (h : mE c (eBl o fs) σ H Q) : tCB r (mA c fs) σ H Q := by
  obtain ⟨φ, S, ρ, z, hg, he, hf, hp⟩ := h
  exact Wp.fst hg he hf hp fun ds S1 xs φ1 H1 s1 g1 e1 r1 hf1 hp1 => ho φ1 S1 H1 Q xs ds z g1 r1 hf1 hp1
theorem Rps.one {K : PySem.W.Frag} {R : Addr → Prop} {n : Nat} {φ : Nat → Addr} {H : Hp} {vs : List V} {d : D} (r : Rps K R n φ H vs [d]) : ∃ v, vs = [v] ∧ Rp K R n φ H v d := by
  cases r with
  | cons h t => cases t; exact ⟨_, rfl, h⟩
theorem Rps.two {K : PySem.W.Frag} {R : Addr → Prop} {n : Nat} {φ : Nat → Addr} {H : Hp} {vs : List V} {d e : D} (r : Rps K R n φ H vs [d, e]) : ∃ v w, vs = [v, w] ∧ Rp K R n φ H v d ∧ Rp K R n φ H w e := by
  cases r with
  | cons h t =>
    obtain ⟨w, rfl, h2⟩ := t.one
    exact ⟨_, _, rfl, h, h2⟩
def lenD (S : Store) : D → Option Nat
  | .str y => if y.length ≤ line then some y.length else none
  | .tup ds => some ds.length
  | .cell i => (match S[i]? with
    | some (.lst ds) => some ds.length
    | some (.dct kvs) => some kvs.length
    | none => none)
  | .lst ds => some ds.length
  | .frz ds => some ds.length
  | _ => none
def oLen (ds : List D) (S : Store) : Out D := match ds with
  | [d] => (match lenD S d with
    | some n => ret (.int n) S
    | none => none)
  | _ => none
def rLenM (K : PySem.W.Frag) : List V → Hp → VK → Prop := fun xs H Q => (∃ x n, xs = [x] ∧ LenV K x H n ∧ Q (.int n) H) ∨ (∃ a kvs, xs = [V.ref a] ∧ H a = some (.dK kvs) ∧ Q (.int kvs.length) H)
theorem call_lenM {X : Cx} : CallR X (.builtin "len") (rLenM X.K) := CallR.or call_len call_lenD
theorem blm_len {c : Ct} : BlM c (rLenM c.K) oLen := by
  intro φ S H Q xs ds z g r h hp
  unfold oLen at h
  split at h
  · rename_i d
    obtain ⟨v, rfl, rv⟩ := r.one
    cases e : lenD S d with
    | none => rw [e] at h; cases h
    | some n =>
      rw [e] at h
      cases h
      have fin : Q (.int n) H := hp.now g (.int _)
      cases rv with
      | str y =>
        have e : (if y.length ≤ line then some y.length else none) = some n := e
        split at e
        · rename_i hl
          cases e
          exact .inl ⟨_, _, rfl, ⟨Nat.le_trans hl (by decide), rfl⟩, fin⟩
        · cases e
      | tup k qq => cases e; rw [← qq.length] at fin; exact .inl ⟨_, _, rfl, .inr ⟨_, k, rfl⟩, fin⟩
      | lst k _ _ qq => cases e; rw [← qq.length] at fin; exact .inl ⟨_, _, rfl, .inl ⟨_, .of k, rfl⟩, fin⟩
      | klst k qq => cases e; rw [← qq.length] at fin; exact .inl ⟨_, _, rfl, .inl ⟨_, k.sq, rfl⟩, fin⟩
      | frz k qq => cases e; rw [← qq.length] at fin; exact .inl ⟨_, _, rfl, .inl ⟨_, .inl (.inr ⟨_, k⟩), rfl⟩, fin⟩
      | cell hi =>
        rename_i i
        have e : (match S[i]? with
          | some (.lst ds) => some ds.length
          | some (.dct kvs) => some kvs.length
          | none => none) = some n := e
        split at e
        · rename_i ee
          cases e
          obtain ⟨xs, e1, q⟩ := g.at_ _ _ ee
          rw [← q.length] at fin
          exact .inl ⟨_, _, rfl, .inl ⟨_, .of e1, rfl⟩, fin⟩
        · rename_i ee
          cases e
          obtain ⟨ps, e1, ek, q⟩ := g.at_ _ _ ee
          have hl := q.length
          simp only [List.length_map] at hl
          rw [← hl] at fin
          exact .inr ⟨_, _, rfl, e1, fin⟩
        · cases e
      | _ => cases e
  · cases h
def oInt (ds : List D) (S : Store) : Out D := match ds with
  | [.int i] => ret (.int i) S
  | [.bl b] => ret (.int (if b then 1 else 0)) S
  | _ => none
theorem blm_int {c : Ct} : BlM c (fun xs H Q => (∃ i, xs = [.int i] ∧ Q (.int i) H) ∨ ∃ k, xs = [.bl k] ∧ Q (.int (if k then 1 else 0)) H) oInt := by
  intro φ S H Q xs ds z g r h hp
  unfold oInt at h
  split at h
  · obtain ⟨v, rfl, rv⟩ := r.one
    cases rv; cases h; exact .inl ⟨_, rfl, hp.now g (.int _)⟩
  · obtain ⟨v, rfl, rv⟩ := r.one
    cases rv; cases h; exact .inr ⟨_, rfl, hp.now g (.int _)⟩
  · cases h
def oAbs (ds : List D) (S : Store) : Out D := match ds with
  | [.int i] => ret (.int (if i < 0 then -i else i)) S
  | _ => none
theorem blm_abs {c : Ct} : BlM c (fun xs H Q => ∃ i, xs = [.int i] ∧ Q (.int (if i < 0 then -i else i)) H) oAbs := by
  intro φ S H Q xs ds z g r h hp
  unfold oAbs at h
  split at h
  · obtain ⟨v, rfl, rv⟩ := r.one
    cases rv; cases h; exact ⟨_, rfl, hp.now g (.int _)⟩
  · cases h
def oMin (ds : List D) (S : Store) : Out D := match ds with
  | [.int i, .int j] => ret (.int (if j < i then j else i)) S
  | _ => none
theorem blm_min {c : Ct} : BlM c (fun xs H Q => ∃ i j, xs = [.int i, .int j] ∧ Q (.int (if j < i then j else i)) H) oMin := by
  intro φ S H Q xs ds z g r h hp
  unfold oMin at h
  split at h
  · obtain ⟨v, w, rfl, rv, rw'⟩ := r.two
    cases rv; cases rw'; cases h; exact ⟨_, _, rfl, hp.now g (.int _)⟩
  · cases h
def oMax (ds : List D) (S : Store) : Out D := match ds with
  | [.int i, .int j] => ret (.int (if j > i then j else i)) S
  | _ => none
theorem blm_max {c : Ct} : BlM c (fun xs H Q => ∃ i j, xs = [.int i, .int j] ∧ Q (.int (if j > i then j else i)) H) oMax := by
  intro φ S H Q xs ds z g r h hp
  unfold oMax at h
  split at h
  · obtain ⟨v, w, rfl, rv, rw'⟩ := r.two
    cases rv; cases rw'; cases h; exact ⟨_, _, rfl, hp.now g (.int _)⟩
  · cases h
def oStr (ds : List D) (S : Store) : Out D := match ds with
  | [.int i] => guard' (decide (i.natAbs.log2 < 1920)) (ret (.str (toString i)) S)
  | [.str x] => ret (.str x) S
  | _ => none
def rStrM : List V → Hp → VK → Prop := fun xs H Q => (∃ i, xs = [.int i] ∧ i.natAbs.log2 < 1920 ∧ Q (.str (toString i)) H) ∨ (∃ a, xs = [.str a] ∧ Q (.str a) H)
theorem call_strM {X : Cx} : CallR X (.type "str") rStrM := CallR.or call_str_int SkE.call_str_str
theorem blm_str {c : Ct} : BlM c rStrM oStr := by
  intro φ S H Q xs ds z g r h hp
  unfold oStr at h
  split at h
  · obtain ⟨v, rfl, rv⟩ := r.one
    obtain ⟨hl, h⟩ := guard_ok h
    cases rv; cases h; exact .inl ⟨_, rfl, of_decide_eq_true hl, hp.now g (.str _)⟩
  · obtain ⟨v, rfl, rv⟩ := r.one
    cases rv; cases h; exact .inr ⟨_, rfl, hp.now g (.str _)⟩
  · cases h
def oList (ds : List D) (S : Store) : Out D := match ds with
  | [.tup ds] => ret (.lst ds) S
  | [d] => (match asL S d with
    | some ds => ret (.lst ds) S
    | none => none)
  | _ => none
theorem blm_list {c : Ct} : BlM c (fun xs H Q => ∃ p ys, xs = [.ref p] ∧ (SqL c.K H p ys ∨ SqT c.K H p ys) ∧ ∀ l, H l = none → Q (.ref l) (upd H l (.lst ys))) oList := by
  intro φ S H Q xs ds z g r h hp
  unfold oList at h
  split at h
  · obtain ⟨v, rfl, rv⟩ := r.one
    cases rv with
    | tup k r => cases h; exact ⟨_, _, rfl, .inr k, fun l hn => hp.new g hn (new_lst g hn r)⟩
  · obtain ⟨v, rfl, rv⟩ := r.one
    split at h
    · rename_i e
      cases h
      obtain ⟨p, ys, rfl, k, r⟩ := asL_ok g rv e
      exact ⟨_, _, rfl, .inl k, fun l hn => hp.new g hn (new_lst g hn r)⟩
    · cases h
  · cases h
def oTuple (ds : List D) (S : Store) : Out D := match ds with
  | [.tup ds] => ret (.tup ds) S
  | [d] => (match asL S d with
    | some ds => ret (.tup ds) S
    | none => none)
  | _ => none
theorem blm_tuple {c : Ct} : BlM c (fun xs H Q => ∃ p ys, xs = [.ref p] ∧ ((SqL c.K H p ys ∧ ∀ l, H l = none → Q (.ref l) (upd H l (.tup ys))) ∨ (SqT c.K H p ys ∧ Q (.ref p) H))) oTuple := by
  intro φ S H Q xs ds z g r h hp
  unfold oTuple at h
  split at h
  · obtain ⟨v, rfl, rv⟩ := r.one
    cases rv with
    | tup k r => cases h; exact ⟨_, _, rfl, .inr ⟨k, hp.now g (.tup k r)⟩⟩
  · obtain ⟨v, rfl, rv⟩ := r.one
    split at h
    · rename_i e
      cases h
      obtain ⟨p, ys, rfl, k, r⟩ := asL_ok g rv e
      exact ⟨_, _, rfl, .inl ⟨k, fun l hn => hp.new g hn (new_tup hn r)⟩⟩
    · cases h
  · cases h
/-- a list of truth values -/
def blsD : List D → Option (List Bool)
  | [] => some []
  | .bl b :: r => (blsD r).map (b :: ·)
  | _ :: _ => none
theorem bls_ok {K : PySem.W.Frag} {R : Addr → Prop} {n : Nat} {φ : Nat → Addr} {H : Hp} : ∀ {vs : List V} {ds : List D} {bs : List Bool}, Rps K R n φ H vs ds → blsD ds = some bs → vs = bs.map V.bl
  | _, [], _, .nil, h => by cases h; rfl
  | _, d :: r, _, .cons rv rs, h => by
    cases rv with
    | bl b =>
      simp only [blsD] at h
      cases e : blsD r with
      | none => rw [e] at h; cases h
      | some bs =>
        rw [e] at h
        cases h
        rw [bls_ok rs e]
        rfl
    | _ => cases h
def oAll (ds : List D) (S : Store) : Out D := match ds with
  | [d] => (match asL S d with
    | some ds => (match blsD ds with
      | some bs => ret (.bl (bs.all id)) S
      | none => none)
    | none => none)
  | _ => none
theorem blm_all {c : Ct} : BlM c (rAll c.K) oAll := by
  intro φ S H Q xs ds z g r h hp
  unfold oAll at h
  split at h
  · obtain ⟨v, rfl, rv⟩ := r.one
    split at h
    · rename_i e
      split at h
      · rename_i e2
        cases h
        obtain ⟨p, ys, rfl, k, r⟩ := asL_ok g rv e
        rw [bls_ok r e2] at k
        exact ⟨_, _, rfl, k, hp.now g (.bl _)⟩
      · cases h
    · cases h
  · cases h
/-! ### repr -/
def rRepr (K : PySem.W.Frag) : List V → Hp → VK → Prop := fun xs H Q => ∃ x d, xs = [x] ∧ Dp K H x d ∧ d.showable = true ∧ d.hasDict = false ∧ d.depth ≤ 64 ∧ d.shown.length ≤ sizeLine ∧ Q (.str d.shown) H
theorem call_repr {X : Cx} (hg : X.A.guards = some []) (hu : X.A.units + 66 < cLine) : CallR X (.builtin "repr") (rRepr X.K) := by
  intro pins s σ H xs us Q I r h
  obtain ⟨x, d, rfl, hd, h1, h2, h3, h4, q⟩ := h
  obtain ⟨u, rfl, ru⟩ := vals1 r
  obtain ⟨as, rd⟩ := Dp.reads I d x u hd ru
  have fin : ∀ tk, EP X pins σ Q (.str d.shown tk) { s with toks := tk + 1 } → EP X pins σ Q (.str d.shown tk) { s with toks := tk + 1 } := fun _ z => z
  cases hd with
  | non => cases ru; exact P.repr_of_none ⟨.str _, H, I.tok _, ⟨_, rfl⟩, q⟩
  | bl b => cases ru; exact P.repr_of_bool ⟨.str _, H, I.tok _, ⟨_, rfl⟩, by cases b <;> exact q⟩
  | int i =>
    obtain ⟨t, rfl⟩ := ru
    exact P.repr_of_int (by simpa [PyData.showable] using h1) ⟨.str _, H, I.tok _, ⟨_, rfl⟩, q⟩
  | str y =>
    obtain ⟨t, rfl⟩ := ru
    exact P.repr_of_str ⟨.str _, H, I.tok _, ⟨_, rfl⟩, q⟩ h4
  | lst k _ =>
    cases ru
    exact repr_of_reads' rd h1 (PyData.noDict_hsm h2) hg (by omega) (fun b o e => e) (fun h' u tk hk => ⟨.str _, H, I.kept hk, ⟨_, rfl⟩, q⟩) h4
  | tup k _ =>
    cases ru
    exact repr_of_reads' rd h1 (PyData.noDict_hsm h2) hg (by omega) (fun b o e => e) (fun h' u tk hk => ⟨.str _, H, I.kept hk, ⟨_, rfl⟩, q⟩) h4
def oRepr (ds : List D) (S : Store) : Out D := match ds with
  | [d] => (match d.py S with
    | some p => guard' (p.showable && !p.hasDict && decide (p.depth ≤ 64) && decide (p.shown.length ≤ 16000000)) (ret (.str p.shown) S)
    | none => none)
  | _ => none
theorem blm_repr {c : Ct} : BlM c (rRepr c.K) oRepr := by
  intro φ S H Q xs ds z g r h hp
  unfold oRepr at h
  split at h
  · obtain ⟨v, rfl, rv⟩ := r.one
    split at h
    · rename_i e
      obtain ⟨hl, h⟩ := guard_ok h
      cases h
      simp only [Bool.and_eq_true, decide_eq_true_eq, Bool.not_eq_true'] at hl
      obtain ⟨⟨⟨h1, h2⟩, h3⟩, h4⟩ := hl
      exact ⟨_, _, rfl, py_ok g rv e, h1, h2, h3, Nat.le_trans h4 (by decide), hp.now g (.str _)⟩
    · cases h
  · cases h
end Pv

/-! Pv, part F: the store: things made and changed. -/
namespace Pv
open PySem PySem.Spec PyProof.Rows L2

section
variable {K : PySem.W.Frag} {R : Addr → Prop} {φ : Nat → Addr} {S : Store} {H : Hp}
/-- the store's next number -/
def ext (φ : Nat → Addr) (n : Nat) (p : Addr) : Nat → Addr := fun i => if i = n then p else φ i
theorem ext_lt {n i : Nat} {p : Addr} (h : i < n) : ext φ n p i = φ i := if_neg (Nat.ne_of_lt h)
theorem ext_at {n : Nat} {p : Addr} : ext φ n p n = p := if_pos rfl
/-- one more address that nobody knows -/
def addR (R : Addr → Prop) (p : Addr) : Addr → Prop := fun a => R a ∨ a = p
mutual
theorem Rp.weak {n : Nat} {p : Addr} : ∀ {v : V} {d : D}, Rp K (addR R p) n φ H v d → Rp K R n φ H v d
  | _, _, .non => .non
  | _, _, .bl b => .bl b
  | _, _, .int i => .int i
  | _, _, .str x => .str x
  | _, _, .tup h r => .tup h (Rps.weak r)
  | _, _, .klst h r => .klst h (Rps.weak r)
  | _, _, .frz h r => .frz h (Rps.weak r)
  | _, _, .lst h f c r => .lst h (fun z => f (.inl z)) c (Rps.weak r)
  | _, _, .cell h => .cell h
theorem Rps.weak {n : Nat} {p : Addr} : ∀ {vs : List V} {ds : List D}, Rps K (addR R p) n φ H vs ds → Rps K R n φ H vs ds
  | _, _, .nil => .nil
  | _, _, .cons h r => .cons (Rp.weak h) (Rps.weak r)
end
mutual
theorem Rp.hide {n : Nat} {p : Addr} {o : HO} (hn : H p = none) : ∀ {v : V} {d : D}, Rp K R n φ H v d → Rp K (addR R p) n φ (upd H p o) v d
  | _, _, .non => .non
  | _, _, .bl b => .bl b
  | _, _, .int i => .int i
  | _, _, .str x => .str x
  | _, _, .tup h r => .tup ((Step.new (n := n) (φ := φ) hn).sqT h) (Rps.hide hn r)
  | _, _, .klst h r => .klst h (Rps.hide hn r)
  | _, _, .frz h r => .frz (by rw [upd_ne (ne_of_none h hn)]; exact h) (Rps.hide hn r)
  | _, _, .lst h f c r => .lst (by rw [upd_ne (ne_of_none h hn)]; exact h) (fun z => z.elim f (ne_of_none h hn)) c (Rps.hide hn r)
  | _, _, .cell h => .cell h
theorem Rps.hide {n : Nat} {p : Addr} {o : HO} (hn : H p = none) : ∀ {vs : List V} {ds : List D}, Rps K R n φ H vs ds → Rps K (addR R p) n φ (upd H p o) vs ds
  | _, _, .nil => .nil
  | _, _, .cons h r => .cons (Rp.hide hn h) (Rps.hide hn r)
end
mutual
/-- what nobody knew gets the store's next number -/
theorem Rp.toCell {n : Nat} {p : Addr} : ∀ {v : V} {d : D}, Rp K (addR R p) n φ H v d → Rp K R (n + 1) (ext φ n p) H v d
  | _, _, .non => .non
  | _, _, .bl b => .bl b
  | _, _, .int i => .int i
  | _, _, .str x => .str x
  | _, _, .tup h r => .tup h (Rps.toCell r)
  | _, _, .klst h r => .klst h (Rps.toCell r)
  | _, _, .frz h r => .frz h (Rps.toCell r)
  | _, _, .lst h f c r => .lst h (fun z => f (.inl z)) (fun i hi e => by
      by_cases q : i = n
      · subst q
        rw [ext_at] at e
        exact f (.inr e)
      · rw [ext_lt (by omega)] at e
        exact c i (by omega) e) (Rps.toCell r)
  | _, _, .cell (i := i) h => by
    rw [← ext_lt (φ := φ) (p := p) h]
    exact .cell (Nat.lt_succ_of_lt h)
theorem Rps.toCell {n : Nat} {p : Addr} : ∀ {vs : List V} {ds : List D}, Rps K (addR R p) n φ H vs ds → Rps K R (n + 1) (ext φ n p) H vs ds
  | _, _, .nil => .nil
  | _, _, .cons h r => .cons (Rp.toCell h) (Rps.toCell r)
end
theorem Good.weak {p : Addr} (g : Good K (addR R p) φ H S) : Good K R φ H S := by
  refine ⟨fun i c e => ?_, g.inj, fun a h => g.off a (.inl h), fun i hi h => g.cof i hi (.inl h)⟩
  have q := g.at_ i c e
  cases c with
  | lst ds =>
    obtain ⟨xs, e1, r⟩ := q
    exact ⟨xs, e1, r.weak⟩
  | dct kvs =>
    obtain ⟨ps, e1, ek, r⟩ := q
    exact ⟨ps, e1, ek, r.weak⟩
theorem Good.hide {p : Addr} {o : HO} (g : Good K R φ H S) (hn : H p = none) : Good K (addR R p) φ (upd H p o) S := by
  refine ⟨fun i c e => ?_, g.inj, fun a h => ?_, fun i hi h => h.elim (g.cof i hi) fun q => by
    obtain ⟨o', e, _⟩ := g.there hi
    rw [q, hn] at e; cases e⟩
  · have q := g.at_ i c e
    cases c with
    | lst ds =>
      obtain ⟨xs, e1, r⟩ := q
      exact ⟨xs, by rw [upd_ne (ne_of_none e1 hn)]; exact e1, r.hide hn⟩
    | dct kvs =>
      obtain ⟨ps, e1, ek, r⟩ := q
      exact ⟨ps, by rw [upd_ne (ne_of_none e1 hn)]; exact e1, ek, r.hide hn⟩
  · rcases h with h | h
    · obtain ⟨o', e⟩ := g.off a h
      exact ⟨o', by rw [upd_ne (ne_of_none e hn)]; exact e⟩
    · exact ⟨o, by rw [h, upd_same]⟩
theorem EnvR.hide {ρ : Env} {σ : L2.St} {n : Nat} {p : Addr} {o : HO} (e : EnvR K R n φ H ρ σ) (hn : H p = none) : EnvR K (addR R p) n φ (upd H p o) ρ σ :=
  ⟨e.len, fun i d h => let ⟨v, h1, h2⟩ := e.at_ i d h; ⟨v, h1, h2.hide hn⟩⟩
theorem Good.toCell {p : Addr} {xs : List V} {ds : List D} (g : Good K (addR R p) φ H S) (hr : ¬ R p) (hp : H p = some (.lst xs)) (hne : ∀ i, i < S.length → p ≠ φ i) (r : Rps K (addR R p) S.length φ H xs ds) : Good K R (ext φ S.length p) H (S ++ [.lst ds]) := by
  have hl : (S ++ [Cell.lst ds]).length = S.length + 1 := by simp
  refine ⟨fun i c e => ?_, fun i j hi hj e => ?_, fun a h => g.off a (.inl h), fun i hi h => ?_⟩
  rotate_right
  · rw [hl] at hi
    by_cases q : i = S.length
    · subst q
      rw [ext_at] at h
      exact hr h
    · rw [ext_lt (by omega)] at h
      exact g.cof i (by omega) (.inl h)
  · rw [hl]
    by_cases hi : i < S.length
    · rw [List.getElem?_append_left hi] at e
      rw [ext_lt hi]
      have q := g.at_ i c e
      cases c with
      | lst ds =>
        obtain ⟨xs, e1, r⟩ := q
        exact ⟨xs, e1, r.toCell⟩
      | dct kvs =>
        obtain ⟨ps, e1, ek, r⟩ := q
        exact ⟨ps, e1, ek, r.toCell⟩
    · have e2 : i = S.length := by
        have := (List.getElem?_eq_some_iff.mp e).1
        rw [hl] at this
        omega
      subst e2
      rw [List.getElem?_append_right (Nat.le_refl _)] at e
      simp at e
      subst e
      rw [ext_at]
      exact ⟨xs, hp, r.toCell⟩
  · rw [hl] at hi hj
    by_cases h1 : i < S.length
    · by_cases h2 : j < S.length
      · rw [ext_lt h1, ext_lt h2] at e; exact g.inj i j h1 h2 e
      · have e2 : j = S.length := by omega
        subst e2
        rw [ext_lt h1, ext_at] at e
        exact absurd e.symm (hne i h1)
    · have e1 : i = S.length := by omega
      subst e1
      by_cases h2 : j < S.length
      · rw [ext_lt h2, ext_at] at e
        exact absurd e (hne j h2)
      · omega
theorem Step.toCell {n n' : Nat} {φ' : Nat → Addr} {H' : Hp} {p : Addr} (s : Step n φ H n' φ' H') (hn : H p = none) : Step n φ H (n' + 1) (ext φ' n' p) H' := by
  refine ⟨Nat.le_succ_of_le s.le, fun i hi => (ext_lt (Nat.lt_of_lt_of_le hi s.le)).trans (s.same i hi), s.keep, s.dom, fun i h1 h2 => ?_, s.tups, s.frzs⟩
  by_cases h : i = n'
  · subst h; rw [ext_at]; exact hn
  · rw [ext_lt (by omega)]; exact s.fresh i h1 (by omega)
theorem CellR.step {n n' : Nat} {φ' : Nat → Addr} {H' : Hp} {a : Addr} {k : Cell} (s : Step n φ H n' φ' H') (e : H' a = H a) (r : CellR K R n φ H a k) : CellR K R n' φ' H' a k := by
  cases k with
  | lst ds =>
    obtain ⟨xs, e1, r⟩ := r
    exact ⟨xs, e.trans e1, r.step s⟩
  | dct kvs =>
    obtain ⟨ps, e1, ek, r⟩ := r
    exact ⟨ps, e.trans e1, ek, r.step s⟩
/-- the store's i-th thing changed -/
theorem Step.put {i : Nat} {o : HO} (g : Good K R φ H S) (hi : i < S.length) : Step S.length φ H S.length φ (upd H (φ i) o) := by
  obtain ⟨u, hu, n1, n2⟩ := g.there hi
  refine ⟨Nat.le_refl _, fun _ _ => rfl, fun a o' e hc => by rw [upd_ne (hc i hi)]; exact e, fun a o' e => ?_, fun j h1 h2 => absurd h2 (Nat.not_lt.mpr h1), fun a xs e => ?_, fun a o' w e => ?_⟩
  · by_cases ha : a = φ i
    · subst ha; exact ⟨o, upd_same⟩
    · exact ⟨o', by rw [upd_ne ha]; exact e⟩
  · rw [upd_ne (fun q => by subst q; rw [hu] at e; exact n1 _ (Option.some.inj e))]; exact e
  · rw [upd_ne (fun q => by subst q; rw [hu] at e; exact n2 _ _ (Option.some.inj e))]; exact e
theorem Good.put {i : Nat} {o : HO} {k : Cell} (g : Good K R φ H S) (hi : i < S.length) (hk : CellR K R S.length φ (upd H (φ i) o) (φ i) k) : Good K R φ (upd H (φ i) o) (S.set i k) := by
  refine ⟨fun j c e => ?_, fun a b ha hb e => g.inj a b (by simpa using ha) (by simpa using hb) e, fun a ha => ?_, fun i hi => g.cof i (by simpa using hi)⟩
  · rw [List.length_set]
    by_cases hj : i = j
    · subst hj
      rw [List.getElem?_set_self hi] at e
      cases e
      exact hk
    · rw [List.getElem?_set_ne hj] at e
      have hj' : j < S.length := (List.getElem?_eq_some_iff.mp e).1
      exact (g.at_ j c e).step (Step.put g hi) (upd_ne fun q => hj (g.inj i j hi hj' q.symm))
  · obtain ⟨o', e⟩ := g.off a ha
    exact (Step.put g hi).dom a o' e
end

/-! ### things made on the spot -/
/-- as Post; a list is a new one, that nobody knows -/
def PostS (c : Ct) (φ : Nat → Addr) (S : Store) (H : Hp) (Q : VK) : Rs D × Store → Prop
  | (.ok (.lst ds), S') => ∀ xs p φ' H', Step S.length φ H S'.length φ' H' → H p = none → ¬ c.R p → H' p = some (.lst xs) → (∀ i, i < S'.length → p ≠ φ' i) → Good c.K (addR c.R p) φ' H' S' → Rps c.K (addR c.R p) S'.length φ' H' xs ds → Q (.ref p) H'
  | r => Post c (RV c) φ S H Q r
theorem PostS.of {c : Ct} {φ : Nat → Addr} {S : Store} {H : Hp} {Q : VK} {r : Rs D × Store} (h : Post c (RV c) φ S H Q r) : PostS c φ S H Q r := by
  obtain ⟨r, S'⟩ := r
  cases r with
  | ex x => exact h
  | ok d =>
    cases d with
    | lst ds => exact fun xs p φ' H' s _ hr hp hne g rv => h _ φ' _ s g.weak (.lst hp hr hne rv.weak)
    | _ => exact h
theorem PostS.from {c : Ct} {φ φ1 : Nat → Addr} {S S1 : Store} {H H1 : Hp} {Q : VK} {r : Rs D × Store} (s : Step S.length φ H S1.length φ1 H1) (p : PostS c φ S H Q r) : PostS c φ1 S1 H1 Q r := by
  obtain ⟨r, S'⟩ := r
  cases r with
  | ex x =>
    have p' : Post c (RV c) φ S H Q (Rs.ex x, S') := p
    exact (p'.from s : Post c (RV c) φ1 S1 H1 Q (Rs.ex x, S'))
  | ok d =>
    cases d with
    | lst ds => exact fun xs q φ' H' t hn hr hp hne g rv => p xs q φ' H' (s.trans t) (s.back hn) hr hp hne g rv
    | non => exact Post.from (rel2 := RV c) (r := (Rs.ok .non, S')) s p
    | bl b => exact Post.from (rel2 := RV c) (r := (Rs.ok (.bl b), S')) s p
    | int b => exact Post.from (rel2 := RV c) (r := (Rs.ok (.int b), S')) s p
    | str b => exact Post.from (rel2 := RV c) (r := (Rs.ok (.str b), S')) s p
    | tup b => exact Post.from (rel2 := RV c) (r := (Rs.ok (.tup b), S')) s p
    | frz b => exact Post.from (rel2 := RV c) (r := (Rs.ok (.frz b), S')) s p
    | cell b => exact Post.from (rel2 := RV c) (r := (Rs.ok (.cell b), S')) s p
def mS (c : Ct) (f : Env → Store → Out D) : TE := fun σ H Q => ∃ φ S ρ r, Good c.K c.R φ H S ∧ EnvR c.K c.R S.length φ H ρ σ ∧ f ρ S = some r ∧ PostS c φ S H Q r
/-- a list made now -/
theorem PostS.made {c : Ct} {φ : Nat → Addr} {S : Store} {H : Hp} {Q : VK} {xs : List V} {ds : List D} {p : Addr} (h : PostS c φ S H Q (.ok (.lst ds), S)) (g : Good c.K c.R φ H S) (hn : H p = none) (r : Rps c.K c.R S.length φ H xs ds) : Q (.ref p) (upd H p (.lst xs)) :=
  h xs p φ _ (Step.new hn) hn (fun hr => by
    obtain ⟨o, e⟩ := g.off p hr
    rw [hn] at e; cases e) upd_same (fun i hi e => by
    obtain ⟨o, q, _⟩ := g.there hi
    rw [← e, hn] at q; cases q) (g.hide hn) (r.hide hn)
theorem mS_of {c : Ct} {f : Env → Store → Out D} {σ : L2.St} {H : Hp} {Q : VK} (h : mE c f σ H Q) : mS c f σ H Q := by
  obtain ⟨φ, S, ρ, r, hg, he, hf, hp⟩ := h
  exact ⟨φ, S, ρ, r, hg, he, hf, .of hp⟩
/-- the first part -/
theorem mS_fst {α β : Type} {rel : RelT β α} {c : Ct} {φ : Nat → Addr} {S : Store} {ρ : Env} {σ : L2.St} {H : Hp} {Q : VK} {f : Env → Store → Out α} {k : α → Store → Out D} {R : β → Hp → Prop} {r : Rs D × Store} (hg : Good c.K c.R φ H S) (he : EnvR c.K c.R S.length φ H ρ σ) (hf : bnd (f ρ S) k = some r) (hp : PostS c φ S H Q r)
    (next : ∀ a S1 b φ1 H1, Step S.length φ H S1.length φ1 H1 → Good c.K c.R φ1 H1 S1 → EnvR c.K c.R S1.length φ1 H1 ρ σ → rel S1.length φ1 H1 b a → k a S1 = some r → PostS c φ1 S1 H1 Q r → R b H1) : Wp c rel f σ H R := by
  cases e : f ρ S with
  | none => rw [e] at hf; cases hf
  | some q =>
    obtain ⟨q, S1⟩ := q
    rw [e] at hf
    refine ⟨φ, S, ρ, _, hg, he, e, ?_⟩
    cases q with
    | ok a => exact fun b φ' H' s g' rv => next a S1 b φ' H' s g' (he.step s) rv hf (hp.from s)
    | ex x =>
      have hf : some ((Rs.ex x : Rs D), S1) = some r := hf
      cases hf
      exact hp
/-- a list made on the spot is laid into the store -/
def eMk (f : Env → Store → Out D) (ρ : Env) (S : Store) : Out D := bnd (f ρ S) fun d S1 => match d with
  | .lst ds => ret (.cell S1.length) (S1 ++ [.lst ds])
  | _ => none
theorem m_mk0 {c : Ct} {f : Env → Store → Out D} {σ : L2.St} {H : Hp} {Q : VK} (h : mE c (eMk f) σ H Q) : mS c f σ H Q := by
  obtain ⟨φ, S, ρ, r, hg, he, hf, hp⟩ := h
  cases e : f ρ S with
  | none =>
    unfold eMk at hf
    rw [e] at hf; cases hf
  | some q =>
    obtain ⟨q, S1⟩ := q
    unfold eMk at hf
    rw [e] at hf
    refine ⟨φ, S, ρ, _, hg, he, e, ?_⟩
    cases q with
    | ex x =>
      have hf : some ((Rs.ex x : Rs D), S1) = some r := hf
      cases hf
      exact hp
    | ok d =>
      cases d with
      | lst ds =>
        cases hf
        refine fun xs p φ' H' s hn hr hq hne g rv => ?_
        have hl : (S1 ++ [Cell.lst ds]).length = S1.length + 1 := by simp
        refine hp (.ref p) (ext φ' S1.length p) H' (by rw [hl]; exact s.toCell hn) (g.toCell hr hq hne rv) ?_
        show Rp _ _ _ _ _ _ _
        have e2 : (V.ref p) = V.ref (ext φ' S1.length p S1.length) := by rw [ext_at]
        rw [e2, hl]
        exact .cell (Nat.lt_succ_self _)
      | _ => cases hf
section
variable {X : Cx} {c : Ct} {e a b : Expr} {es : List Expr} {pos : Pos} {f fa fb : Env → Store → Out D} {fs : Env → Store → Out (List D)}
/-- both: by its items, and laid into the store -/
theorem m_mk (h : PE X e (mS c f)) : PE X e (mE c (eMk f)) := pe_weak h fun _ _ _ => m_mk0
theorem m_weak (h : PE X e (mS c f)) : PE X e (mE c f) := pe_weak h fun _ _ _ => mS_of
theorem s_lst (h : PA X es (mA c fs)) : PE X (.List es pos) (mS c (eLst fs)) := by
  refine pe_weak (pe_lst h) fun σ H Q ⟨φ, S, ρ, z, hg, hr, hf, hp⟩ => ?_
  refine mS_fst (rel := RL c) hg hr hf hp fun ds S1 vs φ1 H1 s1 g1 e1 r1 hf1 hp1 => ?_
  obtain ⟨hl, hf1⟩ := guard_ok hf1
  cases hf1
  exact ⟨by rw [Rps.length r1]; exact line_ok hl, fun p hn => hp1.made g1 hn r1⟩
theorem s_add (hK : c.K = X.K) (ha : PE X a (mE c fa)) (hb : PE X b (mE c fb)) : PE X (.BinOp a .Add b pos) (mS c (eBin oAdd fa fb)) := by
  refine pe_weak (pe_op op_addM ha hb) fun σ H Q ⟨φ, S, ρ, z, hg, hr, hf, hp⟩ => ?_
  refine mS_fst (rel := RV c) hg hr hf hp fun x S1 vx φ1 H1 s1 g1 e1 r1 hf1 hp1 => mS_fst (rel := RV c) g1 e1 hf1 hp1 fun y S2 vy φ2 H2 s2 g2 e2 r2 hf2 hp2 => ?_
  have r1' := Rp.step s2 r1
  rw [← hK]
  -- a list: a new one; all else: as by its items
  have whole : ∀ (ds : List D) (S' : Store), z = (.ok (.lst ds), S') → rAddM c.K vx vy H2 Q := fun ds S' ez => by
    subst ez
    unfold oAdd at hf2
    split at hf2
    · cases hf2
    · obtain ⟨_, q⟩ := guard_ok hf2; cases q
    · obtain ⟨_, q⟩ := guard_ok hf2; cases q
    · split at hf2
      · rename_i ea
        split at hf2
        · rename_i eb
          obtain ⟨hl, q⟩ := guard_ok hf2
          cases q
          obtain ⟨p, xs, rfl, k1, q1⟩ := asM_ok g2 r1' ea
          obtain ⟨p', ys, rfl, k2, q2⟩ := asM_ok g2 r2 eb
          exact .inr (.inr ⟨_, _, _, _, rfl, rfl, k1, k2, by rw [q1.length, q2.length]; exact line_ok hl, fun p hn => hp2.made g2 hn (q1.append q2)⟩)
        · cases hf2
      · cases hf2
  obtain ⟨z, S'⟩ := z
  cases z with
  | ex w => exact opm_add φ2 S2 H2 Q vx vy x y _ g2 r1' r2 hf2 hp2
  | ok d =>
    cases d with
    | lst ds => exact whole ds S' rfl
    | _ => exact opm_add φ2 S2 H2 Q vx vy x y _ g2 r1' r2 hf2 hp2
end
theorem s_bl {c : Ct} {r : List V → Hp → VK → Prop} {o : List D → Store → Out D} {fs : Env → Store → Out (List D)}
    (ho : ∀ (φ : Nat → Addr) (S : Store) (H : Hp) (Q : VK) (xs : List V) (ds : List D) (z : Rs D × Store), Good c.K c.R φ H S → Rps c.K c.R S.length φ H xs ds → o ds S = some z → PostS c φ S H Q z → r xs H Q)
    {σ : L2.St} {H : Hp} {Q : VK} (h : mS c (eBl o fs) σ H Q) : tCB r (mA c fs) σ H Q := by
  obtain ⟨φ, S, ρ, z, hg, he, hf, hp⟩ := h
  exact mS_fst (rel := RL c) hg he hf hp fun ds S1 xs φ1 H1 s1 g1 e1 r1 hf1 hp1 => ho φ1 S1 H1 Q xs ds z g1 r1 hf1 hp1
theorem slm_list {c : Ct} : ∀ (φ : Nat → Addr) (S : Store) (H : Hp) (Q : VK) (xs : List V) (ds : List D) (z : Rs D × Store), Good c.K c.R φ H S → Rps c.K c.R S.length φ H xs ds → oList ds S = some z → PostS c φ S H Q z →
    ∃ p ys, xs = [.ref p] ∧ (SqL c.K H p ys ∨ SqT c.K H p ys) ∧ ∀ l, H l = none → Q (.ref l) (upd H l (.lst ys)) := by
  intro φ S H Q xs ds z g r h hp
  unfold oList at h
  split at h
  · obtain ⟨v, rfl, rv⟩ := r.one
    cases rv with
    | tup k r => cases h; exact ⟨_, _, rfl, .inr k, fun l hn => hp.made g hn r⟩
  · obtain ⟨v, rfl, rv⟩ := r.one
    split at h
    · rename_i e
      cases h
      obtain ⟨p, ys, rfl, k, r⟩ := asL_ok g rv e
      exact ⟨_, _, rfl, .inl k, fun l hn => hp.made g hn r⟩
    · cases h
  · cases h

/-! ### append -/
def oApp (x : D) (ds : List D) (S : Store) : Out D := match x, ds with
  | .cell i, [d] => (match S[i]? with
    | some (.lst ds) => guard' (decide (ds.length < line)) (ret .non (S.set i (.lst (ds ++ [d]))))
    | _ => none)
  | _, _ => none
def isList (S : Store) (x : D) : Bool := (asL S x).isSome
theorem app_m {c : Ct} {φ : Nat → Addr} {S : Store} {H : Hp} {Q : VK} {x : V} {xs : List V} {a : D} {ds : List D} {z : Rs D × Store} (g : Good c.K c.R φ H S) (rx : Rp c.K c.R S.length φ H x a) (rs : Rps c.K c.R S.length φ H xs ds) (h : oApp a ds S = some z) (hp : Post c (RV c) φ S H Q z) : rAppend x xs H Q := by
  unfold oApp at h
  split at h
  · rename_i i d
    obtain ⟨v, rfl, rv⟩ := rs.one
    cases rx with
    | cell hi =>
      split at h
      · rename_i e
        obtain ⟨hl, h⟩ := guard_ok h
        cases h
        obtain ⟨ys, e1, q⟩ := g.at_ _ _ e
        have st : Step S.length φ H S.length φ (upd H (φ i) (.lst (ys ++ [v]))) := Step.put g hi
        refine ⟨_, _, _, rfl, rfl, e1, by rw [q.length]; exact Nat.lt_of_lt_of_le (of_decide_eq_true hl) (by decide), ?_⟩
        exact hp .non φ _ (by rw [List.length_set]; exact st) (g.put hi ⟨_, upd_same, (q.snoc rv).step st⟩) .non
      · cases h
  · cases h
def eApp (f : Env → Store → Out D) (fs : Env → Store → Out (List D)) (ρ : Env) (S : Store) : Out D := bnd (f ρ S) fun x S1 => guard' (isList S1 x) (bnd (fs ρ S1) fun ds S2 => oApp x ds S2)
theorem m_app {X : Cx} {c : Ct} {o e : Expr} {fo : Env → Store → Out D} {fs : Env → Store → Out (List D)} {apos cpos : Pos} (hK : c.K = X.K) (ho : PE X o (mE c fo)) (ha : PA X [e] (mA c fs))
    (hbase : attributeBase o "append" X.env (eval o X.env) = eval o X.env) (hfew : ((backTo cpos (starEach [e] X.env)).all (fun x => !x.1) && (backToKw cpos (keywordEach [] X.env)).all (fun x => x.1.isSome)
      && decide (([e] : List Expr).length + ([] : List Keyword).length + (if ([] : List Keyword).isEmpty then 0 else 1) < 30)) = true)
    (hline : (apos.endLine == cpos.line) = true) (hs : starEach [e] X.env = (false, eval e X.env) :: starEach [] X.env) (hplain : (backTo cpos (starEach [] X.env)).any (·.1) = false) :
    PE X (.Call (.Attribute o "append" apos) [e] [] cpos) (mE c (eApp fo fs)) := by
  refine pe_weak (pe_bm PySem.F.plainAttrs_list PySem.F.slot_list_append PySem.F.type_list_append mt_append ho ha hbase hfew hline hs hplain) fun σ H Q ⟨φ, S, ρ, z, hg, hr, hf, hp⟩ => ?_
  refine Wp.fst hg hr hf hp fun x S1 v φ1 H1 s1 g1 e1 r1 hf1 hp1 => ?_
  obtain ⟨hl, hf1⟩ := guard_ok hf1
  refine ⟨?_, Wp.fst g1 e1 hf1 hp1 fun ds S2 vs φ2 H2 s2 g2 e2 r2 hf2 hp2 => app_m g2 (Rp.step s2 r1) r2 hf2 hp2⟩
  unfold isList at hl
  obtain ⟨ds, e⟩ := Option.isSome_iff_exists.mp hl
  obtain ⟨p, xs, rfl, k, _⟩ := asL_ok g1 r1 e
  exact .inl ⟨rfl, xs, by rw [← hK]; exact k⟩
end Pv

/-! Pv, part G: statements. -/
namespace Pv
open PySem PySem.Spec PyProof.Rows L2

/-- how a statement ends -/
inductive Fl where
  | nx (ρ : Env) | rt (d : D) | bk (ρ : Env) | ct (ρ : Env)
abbrev SemS := Env → Store → Out Fl
def PostF (c : Ct) (φ : Nat → Addr) (S : Store) (H : Hp) (d : Ends) : Rs Fl × Store → Prop
  | (.ok (.nx ρ), S') => ∀ σ φ' H', Step S.length φ H S'.length φ' H' → Good c.K c.R φ' H' S' → EnvR c.K c.R S'.length φ' H' ρ σ → d.nx σ H'
  | (.ok (.bk ρ), S') => ∀ σ φ' H', Step S.length φ H S'.length φ' H' → Good c.K c.R φ' H' S' → EnvR c.K c.R S'.length φ' H' ρ σ → d.bk σ H'
  | (.ok (.ct ρ), S') => ∀ σ φ' H', Step S.length φ H S'.length φ' H' → Good c.K c.R φ' H' S' → EnvR c.K c.R S'.length φ' H' ρ σ → d.ct σ H'
  | (.ok (.rt x), S') => ∀ v φ' H', Step S.length φ H S'.length φ' H' → Good c.K c.R φ' H' S' → Rp c.K c.R S'.length φ' H' v x → d.rt v H'
  | (.ex x, S') => ∀ cl o φ' H', Step S.length φ H S'.length φ' H' → Good c.K c.R φ' H' S' → ExR c.K c.R S'.length φ' H' x cl o c.cls → c.E cl o H'
theorem PostF.from {c : Ct} {φ φ1 : Nat → Addr} {S S1 : Store} {H H1 : Hp} {d : Ends} {r : Rs Fl × Store} (s : Step S.length φ H S1.length φ1 H1) (p : PostF c φ S H d r) : PostF c φ1 S1 H1 d r := by
  obtain ⟨r, S'⟩ := r
  cases r with
  | ok a => cases a <;> exact fun b φ' H' t g q => p b φ' H' (s.trans t) g q
  | ex x => exact fun cl o φ' H' t g q => p cl o φ' H' (s.trans t) g q
def mT (c : Ct) (f : SemS) : TS := fun d σ H => ∃ φ S ρ r, Good c.K c.R φ H S ∧ EnvR c.K c.R S.length φ H ρ σ ∧ f ρ S = some r ∧ PostF c φ S H d r
theorem ps_weak {X : Cx} {st : Stmt} {t t' : TS} (h : PS X st t) (k : ∀ d σ H, t' d σ H → t d σ H) : PS X st t' := ⟨fun pins s σ H d I w => h.run pins s σ H d I (k d σ H w)⟩
theorem pss_weak {X : Cx} {st : List Stmt} {t t' : TS} (h : PSs X st t) (k : ∀ d σ H, t' d σ H → t d σ H) : PSs X st t' := ⟨fun pins s σ H d I w => h.run pins s σ H d I (k d σ H w)⟩
/-- the first part of a statement -/
theorem mT_fst {α β : Type} {rel : RelT β α} {c : Ct} {φ : Nat → Addr} {S : Store} {ρ : Env} {σ : L2.St} {H : Hp} {d : Ends} {f : Env → Store → Out α} {k : α → Store → Out Fl} {R : β → Hp → Prop} {r : Rs Fl × Store} (hg : Good c.K c.R φ H S) (he : EnvR c.K c.R S.length φ H ρ σ) (hf : bnd (f ρ S) k = some r) (hp : PostF c φ S H d r)
    (next : ∀ a S1 b φ1 H1, Step S.length φ H S1.length φ1 H1 → Good c.K c.R φ1 H1 S1 → EnvR c.K c.R S1.length φ1 H1 ρ σ → rel S1.length φ1 H1 b a → k a S1 = some r → PostF c φ1 S1 H1 d r → R b H1) : Wp c rel f σ H R := by
  cases e : f ρ S with
  | none => rw [e] at hf; cases hf
  | some q =>
    obtain ⟨q, S1⟩ := q
    rw [e] at hf
    refine ⟨φ, S, ρ, _, hg, he, e, ?_⟩
    cases q with
    | ok a => exact fun b φ' H' s g' rv => next a S1 b φ' H' s g' (he.step s) rv hf (hp.from s)
    | ex x =>
      have hf : some ((Rs.ex x : Rs Fl), S1) = some r := hf
      cases hf
      exact hp
theorem PostF.next {c : Ct} {φ : Nat → Addr} {S : Store} {H : Hp} {d : Ends} {ρ : Env} {σ : L2.St} (hp : PostF c φ S H d (.ok (.nx ρ), S)) (g : Good c.K c.R φ H S) (e : EnvR c.K c.R S.length φ H ρ σ) : d.nx σ H := hp σ φ H Step.refl g e
theorem PostF.ret {c : Ct} {φ : Nat → Addr} {S : Store} {H : Hp} {d : Ends} {x : D} {v : V} (hp : PostF c φ S H d (.ok (.rt x), S)) (g : Good c.K c.R φ H S) (e : Rp c.K c.R S.length φ H v x) : d.rt v H := hp v φ H Step.refl g e

/-! ### blocks -/
def sNil : SemS := fun ρ S => ret (.nx ρ) S
def flK (g : SemS) (fl : Fl) (S : Store) : Out Fl := match fl with
  | .nx ρ => g ρ S
  | fl => ret fl S
def sSeq (f g : SemS) : SemS := fun ρ S => bnd (f ρ S) (flK g)
section
variable {X : Cx} {c : Ct} {st : Stmt} {rest : List Stmt} {e : Expr} {f g : SemS} {pos : Pos} {fe : Env → Store → Out D}
theorem t_nil : PSs X [] (mT c sNil) := by
  refine pss_weak pss_nil fun d σ H ⟨φ, S, ρ, r, hg, he, hf, hp⟩ => ?_
  cases hf
  exact hp.next hg he
theorem seq_mono {d : Ends} {σ : L2.St} {H : Hp} (h : mT c (sSeq f g) d σ H) : tSeq (mT c f) (mT c g) d σ H := by
  obtain ⟨φ, S, ρ, r, hg, he, hf, hp⟩ := h
  cases e : f ρ S with
  | none =>
    unfold sSeq at hf
    rw [e] at hf; cases hf
  | some q =>
    obtain ⟨q, S1⟩ := q
    unfold sSeq at hf
    rw [e] at hf
    refine ⟨φ, S, ρ, _, hg, he, e, ?_⟩
    cases q with
    | ex x =>
      have hf : some ((Rs.ex x : Rs Fl), S1) = some r := hf
      cases hf
      exact hp
    | ok fl =>
      cases fl with
      | nx ρ1 => exact fun σ1 φ1 H1 s g1 e1 => ⟨φ1, S1, ρ1, r, g1, e1, hf, hp.from s⟩
      | rt x => cases hf; exact hp
      | bk ρ1 => cases hf; exact hp
      | ct ρ1 => cases hf; exact hp
theorem t_cons (h1 : PS X st (mT c f)) (h2 : PSs X rest (mT c g)) : PSs X (st :: rest) (mT c (sSeq f g)) := pss_weak (pss_cons h1 h2) fun _ _ _ => seq_mono

/-! ### small statements -/
def sDrop (fe : Env → Store → Out D) : SemS := fun ρ S => bnd (fe ρ S) fun _ S1 => ret (.nx ρ) S1
def sRet (fe : Env → Store → Out D) : SemS := fun ρ S => bnd (fe ρ S) fun d S1 => ret (.rt d) S1
def sRetN : SemS := fun _ S => ret (.rt .non) S
def sBrk : SemS := fun ρ S => ret (.bk ρ) S
def sCnt : SemS := fun ρ S => ret (.ct ρ) S
def sIf (t : Env → Store → Out Bool) (f g : SemS) : SemS := fun ρ S => bnd (t ρ S) fun b S1 => if b then f ρ S1 else g ρ S1
def sSet (i : Nat) (fe : Env → Store → Out D) : SemS := fun ρ S => bnd (fe ρ S) fun d S1 => ret (.nx (ρ.set i (some d))) S1
theorem t_drop (he : PE X e (mE c fe)) (hs : swapsWith e none pos.line X.env = pure false) : PS X (.Expr e pos) (mT c (sDrop fe)) := by
  refine ps_weak (ps_expr he hs) fun d σ H ⟨φ, S, ρ, r, hg, hr, hf, hp⟩ => ?_
  refine mT_fst (rel := RV c) hg hr hf hp fun a S1 v φ1 H1 s1 g1 e1 r1 hf1 hp1 => ?_
  cases hf1
  exact hp1.next g1 e1
theorem t_ret (he : PE X e (mE c fe)) : PS X (.Return (some e) pos) (mT c (sRet fe)) := by
  refine ps_weak (ps_ret he) fun d σ H ⟨φ, S, ρ, r, hg, hr, hf, hp⟩ => ?_
  refine mT_fst (rel := RV c) hg hr hf hp fun a S1 v φ1 H1 s1 g1 e1 r1 hf1 hp1 => ?_
  cases hf1
  exact hp1.ret g1 r1
theorem t_retN : PS X (.Return none pos) (mT c sRetN) := by
  refine ps_weak ps_retN fun d σ H ⟨φ, S, ρ, r, hg, hr, hf, hp⟩ => ?_
  cases hf
  exact hp.ret hg .non
theorem t_pass : PS X (.Pass pos) (mT c sNil) := by
  refine ps_weak ps_pass fun d σ H ⟨φ, S, ρ, r, hg, hr, hf, hp⟩ => ?_
  cases hf
  exact hp.next hg hr
theorem t_brk : PS X (.Break pos) (mT c sBrk) := by
  refine ps_weak ps_break fun d σ H ⟨φ, S, ρ, r, hg, hr, hf, hp⟩ => ?_
  cases hf
  exact hp σ φ H Step.refl hg hr
theorem t_cnt : PS X (.Continue pos) (mT c sCnt) := by
  refine ps_weak ps_continue fun d σ H ⟨φ, S, ρ, r, hg, hr, hf, hp⟩ => ?_
  cases hf
  exact hp σ φ H Step.refl hg hr
theorem t_if {cnd : Expr} {a b : List Stmt} {t : Env → Store → Out Bool} (hc : PT X cnd (mB c t)) (ha : PSs X a (mT c f)) (hb : PSs X b (mT c g)) : PS X (.If cnd a b pos) (mT c (sIf t f g)) := by
  refine ps_weak (ps_if hc ha hb) fun d σ H ⟨φ, S, ρ, r, hg, hr, hf, hp⟩ => ?_
  refine mT_fst (rel := RB) hg hr hf hp fun k S1 v φ1 H1 s1 g1 e1 r1 hf1 hp1 => ?_
  cases r1
  cases k with
  | true => exact iteT ⟨φ1, S1, ρ, r, g1, e1, hf1, hp1⟩
  | false => exact iteF ⟨φ1, S1, ρ, r, g1, e1, hf1, hp1⟩
theorem set_mono {i : Nat} {d : Ends} {σ : L2.St} {H : Hp} (h : mT c (sSet i fe) d σ H) : tAsg (mE c fe) (gName i) d σ H := by
  obtain ⟨φ, S, ρ, r, hg, hr, hf, hp⟩ := h
  refine mT_fst (rel := RV c) hg hr hf hp fun a S1 v φ1 H1 s1 g1 e1 r1 hf1 hp1 => ?_
  cases hf1
  exact hp1.next g1 (e1.set i r1)

/-! ### targets -/
/-- a target: a name's slot, or a tuple of targets -/
def gSet (i : Nat) (d : D) (ρ : Env) (S : Store) : Out Env := ret (ρ.set i (some d)) S
/-- the items of a tuple to the slots is -/
def setAll : List Nat → List D → Env → Option Env
  | [], [], ρ => some ρ
  | i :: is, d :: ds, ρ => setAll is ds (ρ.set i (some d))
  | _, _, _ => none
theorem setAll_ok {K : PySem.W.Frag} {R : Addr → Prop} {n : Nat} {φ : Nat → Addr} {H : Hp} : ∀ {is : List Nat} {ds : List D} {vs : List V} {ρ ρ' : Env} {σ : L2.St}, setAll is ds ρ = some ρ' → Rps K R n φ H vs ds → EnvR K R n φ H ρ σ →
    ∃ σ', EnvR K R n φ H ρ' σ' ∧ ∀ (Q : L2.St → Hp → Prop), Q σ' H → (is.foldr (fun i t => gCons (gName i) t) gNil) vs σ H Q
  | [], [], _, _, _, _, h, r, e => by
    cases h
    cases r
    exact ⟨_, e, fun Q q => ⟨rfl, q⟩⟩
  | i :: is, d :: ds, _, _, _, _, h, .cons rv r, e => by
    obtain ⟨σ', h1, h2⟩ := setAll_ok (is := is) h r (e.set i rv)
    exact ⟨σ', h1, fun Q q => ⟨_, _, rfl, h2 Q q⟩⟩
  | [], _ :: _, _, _, _, _, h, _, _ => by cases h
  | _ :: _, [], _, _, _, _, h, _, _ => by cases h
def sUnp (is : List Nat) (fe : Env → Store → Out D) : SemS := fun ρ S => bnd (fe ρ S) fun d S1 => match d with
  | .tup ds => (match setAll is ds ρ with
    | some ρ' => ret (.nx ρ') S1
    | none => none)
  | _ => none
theorem setAll_len : ∀ {is : List Nat} {ds : List D} {ρ ρ' : Env}, setAll is ds ρ = some ρ' → ds.length = is.length
  | [], [], _, _, _ => rfl
  | i :: is, d :: ds, _, _, h => congrArg (· + 1) (setAll_len (is := is) h)
  | [], _ :: _, _, _, h => by cases h
  | _ :: _, [], _, _, h => by cases h
theorem unp_mono {is : List Nat} {d : Ends} {σ : L2.St} {H : Hp} (h : mT c (sUnp is fe) d σ H) : tAsg (mE c fe) (gTup c.K is.length (is.foldr (fun i t => gCons (gName i) t) gNil)) d σ H := by
  obtain ⟨φ, S, ρ, r, hg, hr, hf, hp⟩ := h
  refine mT_fst (rel := RV c) hg hr hf hp fun a S1 v φ1 H1 s1 g1 e1 r1 hf1 hp1 => ?_
  split at hf1
  · rename_i ds
    split at hf1
    · rename_i es
      cases hf1
      cases r1 with
      | tup k q =>
        obtain ⟨σ', h1, h2⟩ := setAll_ok es q e1
        exact ⟨_, _, rfl, k, by rw [q.length]; exact setAll_len es, h2 _ (hp1.next g1 h1)⟩
    · cases hf1
  · cases hf1
/-- a, b = x, y without a tuple -/
def sPar (is : List Nat) (fs : Env → Store → Out (List D)) : SemS := fun ρ S => bnd (fs ρ S) fun ds S1 => match setAll is ds ρ with
  | some ρ' => ret (.nx ρ') S1
  | none => none
theorem par_mono {i j : Nat} {fs : Env → Store → Out (List D)} {d : Ends} {σ : L2.St} {H : Hp} (h : mT c (sPar [i, j] fs) d σ H) : tPar i j (mA c fs) d σ H := by
  obtain ⟨φ, S, ρ, r, hg, hr, hf, hp⟩ := h
  refine mT_fst (rel := RL c) hg hr hf hp fun ds S1 vs φ1 H1 s1 g1 e1 r1 hf1 hp1 => ?_
  split at hf1
  · rename_i es
    cases hf1
    have hl := setAll_len es
    match ds, r1, hl, es with
    | [x, y], r1, _, es =>
      obtain ⟨v, w, rfl, r2, r3⟩ := Rps.two r1
      cases es
      exact ⟨v, w, rfl, hp1.next g1 ((e1.set i r2).set j r3)⟩
  · cases hf1

/-! ### while -/
def whileL (t : Env → Store → Out Bool) (b : SemS) : Nat → SemS
  | 0, _, _ => none
  | m + 1, ρ, S => bnd (t ρ S) fun k S1 => if k then bnd (b ρ S1) fun fl S2 => (match fl with
    | .nx ρ2 => whileL t b m ρ2 S2
    | .ct ρ2 => whileL t b m ρ2 S2
    | .bk ρ2 => ret (.nx ρ2) S2
    | .rt d => ret (.rt d) S2) else ret (.nx ρ) S1
/-- a turn's body, with what follows it -/
theorem body_mono {b : SemS} {d : Ends} {ρ : Env} {σ : L2.St} {S : Store} {φ : Nat → Addr} {H : Hp} {r : Rs Fl × Store} {k : SemS} {N : L2.St → Hp → Prop} (hg : Good c.K c.R φ H S) (he : EnvR c.K c.R S.length φ H ρ σ)
    (hf : bnd (b ρ S) (fun fl S2 => (match fl with
      | .nx ρ2 => k ρ2 S2
      | .ct ρ2 => k ρ2 S2
      | .bk ρ2 => ret (.nx ρ2) S2
      | .rt d => ret (.rt d) S2)) = some r) (hp : PostF c φ S H d r)
    (next : ∀ ρ2 S2 σ2 φ2 H2, Step S.length φ H S2.length φ2 H2 → Good c.K c.R φ2 H2 S2 → EnvR c.K c.R S2.length φ2 H2 ρ2 σ2 → k ρ2 S2 = some r → PostF c φ2 S2 H2 d r → N σ2 H2) : mT c b { d with nx := N, ct := N, bk := d.nx } σ H := by
  cases e : b ρ S with
  | none => rw [e] at hf; cases hf
  | some q =>
    obtain ⟨q, S2⟩ := q
    rw [e] at hf
    refine ⟨φ, S, ρ, _, hg, he, e, ?_⟩
    cases q with
    | ex x =>
      have hf : some ((Rs.ex x : Rs Fl), S2) = some r := hf
      cases hf
      exact hp
    | ok fl =>
      cases fl with
      | nx ρ2 => exact fun σ2 φ2 H2 s g2 e2 => next ρ2 S2 σ2 φ2 H2 s g2 e2 hf (hp.from s)
      | ct ρ2 => exact fun σ2 φ2 H2 s g2 e2 => next ρ2 S2 σ2 φ2 H2 s g2 e2 hf (hp.from s)
      | bk ρ2 => cases hf; exact hp
      | rt x => cases hf; exact hp
theorem t_while {cnd : Expr} {body : List Stmt} {t : Env → Store → Out Bool} {b : SemS} {m : Nat} (hpo : PassesOwn (model X.prog X.w) X.A X.env X.xe) (hc : PT X cnd (mB c t)) (hb : PSs X body (mT c b)) : PS X (.While cnd body [] pos) (mT c (whileL t b m)) := by
  refine ps_weak (ps_while hpo hc hb) fun d σ H h => ?_
  refine ⟨fun m σ H => mT c (whileL t b m) d σ H, ⟨m, h⟩, fun m σ H h => ?_⟩
  obtain ⟨φ, S, ρ, r, hg, hr, hf, hp⟩ := h
  cases m with
  | zero => cases hf
  | succ m =>
    refine mT_fst (rel := RB) hg hr hf hp fun k S1 v φ1 H1 s1 g1 e1 r1 hf1 hp1 => ?_
    cases r1
    cases k with
    | false =>
      cases hf1
      exact iteF (hp1.next g1 e1)
    | true =>
      refine iteT ⟨mT c (whileL t b m) d, fun σ' H' h => ⟨m, Nat.lt_succ_self m, h⟩, ?_⟩
      exact body_mono g1 e1 hf1 hp1 fun ρ2 S2 σ2 φ2 H2 s g2 e2 hf2 hp2 => ⟨φ2, S2, ρ2, r, g2, e2, hf2, hp2⟩
end
end Pv

/-! Pv, part H: loops and comprehensions. -/
namespace Pv
open PySem PySem.Spec PyProof.Rows L2

/-! ### targets -/
inductive Tg where
  | nm (i : Nat) | tp (ts : List Tg)
mutual
def setT : Tg → D → Env → Option Env
  | .nm i, d, ρ => some (ρ.set i (some d))
  | .tp ts, d, ρ => (match d with
    | .tup ds => setTs ts ds ρ
    | _ => none)
def setTs : List Tg → List D → Env → Option Env
  | [], ds, ρ => (match ds with
    | [] => some ρ
    | _ => none)
  | t :: ts, ds, ρ => (match ds with
    | d :: ds => (match setT t d ρ with
      | some ρ' => setTs ts ds ρ'
      | none => none)
    | [] => none)
end
mutual
def gT (K : PySem.W.Frag) : Tg → TG
  | .nm i => gName i
  | .tp ts => gTup K ts.length (gTs K ts)
def gTs (K : PySem.W.Frag) : List Tg → TGs
  | [] => gNil
  | t :: ts => gCons (gT K t) (gTs K ts)
end
mutual
def Tg.slots : Tg → List Nat
  | .nm i => [i]
  | .tp ts => Tg.slotss ts
def Tg.slotss : List Tg → List Nat
  | [] => []
  | t :: ts => Tg.slots t ++ Tg.slotss ts
end
section
variable {K : PySem.W.Frag} {R : Addr → Prop} {n : Nat} {φ : Nat → Addr} {H : Hp}
theorem setTs_len : ∀ {ts : List Tg} {ds : List D} {ρ ρ' : Env}, setTs ts ds ρ = some ρ' → ds.length = ts.length
  | [], [], _, _, _ => rfl
  | [], _ :: _, _, _, h => by simp [setTs] at h
  | _ :: _, [], _, _, h => by simp [setTs] at h
  | t :: ts, d :: ds, ρ, _, h => by
    simp only [setTs] at h
    split at h
    · exact congrArg (· + 1) (setTs_len (ts := ts) h)
    · cases h
mutual
theorem setT_ok : ∀ {t : Tg} {d : D} {v : V} {ρ ρ' : Env} {σ : L2.St}, setT t d ρ = some ρ' → Rp K R n φ H v d → EnvR K R n φ H ρ σ → ∃ σ', EnvR K R n φ H ρ' σ' ∧ (∀ j, j ∉ t.slots → σ'[j]? = σ[j]?) ∧ ∀ (Q : L2.St → Hp → Prop), Q σ' H → gT K t v σ H Q
  | .nm i, d, v, ρ, _, σ, h, r, e => by
    simp only [setT] at h
    cases h
    exact ⟨_, e.set i r, fun j hj => by
      rw [List.getElem?_set_ne]
      intro q
      exact hj (by simp [Tg.slots, q]), fun Q q => by simpa only [gT, gName] using q⟩
  | .tp ts, d, v, ρ, _, σ, h, r, e => by
    simp only [setT] at h
    split at h
    · cases r with
      | tup k q =>
        obtain ⟨σ', h1, h2, h3⟩ := setTs_ok (ts := ts) h q e
        exact ⟨σ', h1, fun j hj => h2 j (by simpa [Tg.slots] using hj), fun Q z => by
          simp only [gT]
          exact ⟨_, _, rfl, k, by rw [q.length]; exact setTs_len h, h3 Q z⟩⟩
    · cases h
theorem setTs_ok : ∀ {ts : List Tg} {ds : List D} {vs : List V} {ρ ρ' : Env} {σ : L2.St}, setTs ts ds ρ = some ρ' → Rps K R n φ H vs ds → EnvR K R n φ H ρ σ → ∃ σ', EnvR K R n φ H ρ' σ' ∧ (∀ j, j ∉ Tg.slotss ts → σ'[j]? = σ[j]?) ∧ ∀ (Q : L2.St → Hp → Prop), Q σ' H → gTs K ts vs σ H Q
  | [], ds, _, _, _, _, h, r, e => by
    simp only [setTs] at h
    split at h
    · cases h
      cases r
      exact ⟨_, e, fun _ _ => rfl, fun Q q => by simp only [gTs]; exact ⟨rfl, q⟩⟩
    · cases h
  | t :: ts, ds, vs, ρ, _, σ, h, r, e => by
    simp only [setTs] at h
    split at h
    · split at h
      · rename_i e1
        cases r with
        | cons r1 rs =>
          obtain ⟨σ1, h1, h2, h3⟩ := setT_ok e1 r1 e
          obtain ⟨σ2, k1, k2, k3⟩ := setTs_ok (ts := ts) h rs h1
          refine ⟨σ2, k1, fun j hj => ?_, fun Q q => ?_⟩
          · simp only [Tg.slotss, List.mem_append, not_or] at hj
            rw [k2 j hj.2, h2 j hj.1]
          · simp only [gTs]
            exact ⟨_, _, rfl, h3 _ (k3 Q q)⟩
      · cases h
    · cases h
end
end

/-! ### what is walked -/
/-- a thing that is walked as it stands at each turn: a list, a tuple, a text; a range -/
inductive Src where
  | seq (x : D) | rng (lo : Int) (n : Nat) | enm (x : D) | zip (x y : D)
/-- the k-th pair -/
def pairAt (a b : List D) (k : Nat) : Option D := match a[k]?, b[k]? with
  | some d, some e => some (.tup [d, e])
  | _, _ => none
/-- the k-th item: nothing known, no item left, an item -/
def Src.at_ (S : Store) : Src → Nat → Option (Option D)
  | .rng lo n, k => some (if k < n then some (.int (lo + k)) else none)
  | .enm x, k => (match asL S x with
    | some ds => some ((ds[k]?).map fun d => .tup [.int k, d])
    | none => none)
  | .zip x y, k => (match x, y with
    | .tup a, .tup b => some (pairAt a b k)
    | x, y => (match asL S x, asL S y with
      | some a, some b => some (pairAt a b k)
      | _, _ => none))
  | .seq x, k => (match x with
    | .tup ds => some ds[k]?
    | .str z => some ((z.cps[k]?).map fun c => .str ⟨#[c]⟩)
    | x => (match asL S x with
      | some ds => some ds[k]?
      | none => none))
/-- how it lies, and the layer's iterator -/
inductive SrcR (K : PySem.W.Frag) (R : Addr → Prop) (n : Nat) (φ : Nat → Addr) (H : Hp) : Src → It → Prop
  | rng (lo : Int) (m : Nat) : SrcR K R n φ H (.rng lo m) (Itr lo m)
  | str (z : Str) : SrcR K R n φ H (.seq (.str z)) (Its z)
  | tup {a : Addr} {ds : List D} : Rp K R n φ H (.ref a) (.tup ds) → SrcR K R n φ H (.seq (.tup ds)) (Itt K a)
  | lst {a : Addr} {x : D} : Rp K R n φ H (.ref a) x → (∀ ds, x ≠ .tup ds) → SrcR K R n φ H (.seq x) (Itl K a)
  | enm {a : Addr} {x : D} : Rp K R n φ H (.ref a) x → SrcR K R n φ H (.enm x) (Ite K a)
  | zipT {a b : Addr} {ds es : List D} : Rp K R n φ H (.ref a) (.tup ds) → Rp K R n φ H (.ref b) (.tup es) → SrcR K R n φ H (.zip (.tup ds) (.tup es)) (RZ.ItzT K a b)
  | zip {a b : Addr} {x y : D} : Rp K R n φ H (.ref a) x → Rp K R n φ H (.ref b) y → (∀ ds, x ≠ .tup ds) → SrcR K R n φ H (.zip x y) (Itz K a b)
section
variable {K : PySem.W.Frag} {R : Addr → Prop} {n n' : Nat} {φ φ' : Nat → Addr} {H H' : Hp}
theorem SrcR.step {s : Src} {J : It} (st : Step n φ H n' φ' H') (r : SrcR K R n φ H s J) : SrcR K R n' φ' H' s J := by
  cases r with
  | rng lo m => exact .rng lo m
  | str z => exact .str z
  | tup r => exact .tup (r.step st)
  | lst r h => exact .lst (r.step st) h
  | enm r => exact .enm (r.step st)
  | zipT r q => exact .zipT (r.step st) (q.step st)
  | zip r q h => exact .zip (r.step st) (q.step st) h
theorem pair_none {a b : List D} {k : Nat} (h : pairAt a b k = none) : a.length ≤ k ∨ b.length ≤ k := by
  unfold pairAt at h
  cases e1 : a[k]? with
  | none => exact .inl (List.getElem?_eq_none_iff.mp e1)
  | some d =>
    cases e2 : b[k]? with
    | none => exact .inr (List.getElem?_eq_none_iff.mp e2)
    | some e => rw [e1, e2] at h; cases h
theorem pair_some {a b : List D} {k : Nat} {d : D} (h : pairAt a b k = some d) : ∃ x y, a[k]? = some x ∧ b[k]? = some y ∧ d = .tup [x, y] := by
  unfold pairAt at h
  cases e1 : a[k]? with
  | none => rw [e1] at h; cases h
  | some x =>
    cases e2 : b[k]? with
    | none => rw [e1, e2] at h; cases h
    | some y => rw [e1, e2] at h; cases h; exact ⟨x, y, rfl, rfl, rfl⟩
theorem SrcR.stop {S : Store} {s : Src} {J : It} {k : Nat} (g : Good K R φ H S) (r : SrcR K R S.length φ H s J) (h : s.at_ S k = some none) : J.stop k H := by
  cases r with
  | rng lo m =>
    have h : some (if k < m then some (D.int (lo + k)) else none) = some none := h
    simp only [Option.some.injEq] at h
    split at h
    · cases h
    · exact Nat.le_of_not_lt (by assumption)
  | str z =>
    have h : some ((z.cps[k]?).map fun c => D.str ⟨#[c]⟩) = some none := h
    simp only [Option.some.injEq, Option.map_eq_none_iff] at h
    exact Array.getElem?_eq_none_iff.mp h
  | tup r =>
    cases r with
    | tup kk q =>
      rename_i ds xs
      have h : some ds[k]? = some none := h
      simp only [Option.some.injEq] at h
      exact ⟨xs, kk, by rw [q.length]; exact List.getElem?_eq_none_iff.mp h⟩
  | lst r hx =>
    rename_i a x
    have h : (match asL S x with
      | some ds => some ds[k]?
      | none => none) = some none := by
      cases x with
      | tup ds => exact absurd rfl (hx ds)
      | str z => cases r
      | _ => exact h
    split at h
    · rename_i ds e
      simp only [Option.some.injEq] at h
      obtain ⟨p, xs, ep, kk, q⟩ := asL_ok (c := ⟨K, R, fun _ => none, E0⟩) g r e
      cases ep
      exact ⟨xs, kk, by rw [q.length]; exact List.getElem?_eq_none_iff.mp h⟩
    · cases h
  | enm r =>
    rename_i a x
    have h : (match asL S x with
      | some ds => some ((ds[k]?).map fun d => D.tup [.int k, d])
      | none => none) = some none := h
    split at h
    · rename_i ds e
      simp only [Option.some.injEq, Option.map_eq_none_iff] at h
      obtain ⟨p, xs, ep, kk, q⟩ := asL_ok (c := ⟨K, R, fun _ => none, E0⟩) g r e
      cases ep
      exact ⟨xs, kk, by rw [q.length]; exact List.getElem?_eq_none_iff.mp h⟩
    · cases h
  | zipT r q =>
    cases r with
    | tup kk r =>
      cases q with
      | tup kk2 q =>
        rename_i ds es xs ys
        have h : some (pairAt ds es k) = some none := h
        simp only [Option.some.injEq] at h
        exact ⟨xs, ys, kk, kk2, by rw [r.length, q.length]; exact pair_none h⟩
  | zip r q hx =>
    rename_i a b x y
    have h : (match asL S x, asL S y with
      | some a, some b => some (pairAt a b k)
      | _, _ => none) = some none := by
      cases x with
      | tup ds => exact absurd rfl (hx ds)
      | _ => exact h
    split at h
    · rename_i ds es e1 e2
      simp only [Option.some.injEq] at h
      obtain ⟨p, xs, ep, kk, r⟩ := asL_ok (c := ⟨K, R, fun _ => none, E0⟩) g r e1
      obtain ⟨p2, ys, ep2, kk2, q⟩ := asL_ok (c := ⟨K, R, fun _ => none, E0⟩) g q e2
      cases ep
      cases ep2
      exact ⟨xs, ys, kk, kk2, by rw [r.length, q.length]; exact pair_none h⟩
    · cases h
theorem SrcR.item {S : Store} {s : Src} {J : It} {k : Nat} {d : D} (g : Good K R φ H S) (r : SrcR K R S.length φ H s J) (h : s.at_ S k = some (some d)) : J.go k H ∧ ∀ x H', J.yld k H x H' → Step S.length φ H S.length φ H' ∧ Good K R φ H' S ∧ Rp K R S.length φ H' x d := by
  have stay : ∀ {H' : Hp} {x : V}, H' = H → Rp K R S.length φ H x d → Step S.length φ H S.length φ H' ∧ Good K R φ H' S ∧ Rp K R S.length φ H' x d := fun e r => by
    subst e
    exact ⟨.refl, g, r⟩
  have made : ∀ {T : Addr} {H' : Hp} {a b : V} {u v : D}, H T = none → H' = upd H T (.tup [a, b]) → Rp K R S.length φ H a u → Rp K R S.length φ H b v → Step S.length φ H S.length φ H' ∧ Good K R φ H' S ∧ Rp K R S.length φ H' (.ref T) (.tup [u, v]) := fun hn e ra rb => by
    subst e
    exact ⟨Step.new hn, g.step_new hn, new_tup hn (.cons ra (.cons rb .nil))⟩
  have of : ∀ {xs : List V} {ds : List D} {x : V}, Rps K R S.length φ H xs ds → ds[k]? = some d → xs[k]? = some x → Rp K R S.length φ H x d := fun q h1 h2 => by
    obtain ⟨d', e1, e2⟩ := q.get' h2
    rw [h1] at e1
    cases e1
    exact e2
  cases r with
  | rng lo m =>
    have h : some (if k < m then some (D.int (lo + k)) else none) = some (some d) := h
    simp only [Option.some.injEq] at h
    split at h
    · cases h
      refine ⟨by assumption, fun x H' y => ?_⟩
      obtain ⟨e1, e2⟩ := y
      subst e2
      exact stay e1 (.int _)
    · cases h
  | str z =>
    have h : some ((z.cps[k]?).map fun c => D.str ⟨#[c]⟩) = some (some d) := h
    simp only [Option.some.injEq] at h
    cases e : z.cps[k]? with
    | none => rw [e] at h; cases h
    | some c =>
      rw [e] at h
      cases h
      refine ⟨(Array.getElem?_eq_some_iff.mp e).1, fun x H' y => ?_⟩
      obtain ⟨e1, c', e2, e3⟩ := y
      rw [e] at e2
      cases e2
      subst e3
      exact stay e1 (.str _)
  | tup r =>
    cases r with
    | tup kk q =>
      rename_i ds xs
      have h : some ds[k]? = some (some d) := h
      simp only [Option.some.injEq] at h
      obtain ⟨v, h1, h2⟩ := q.get h
      exact ⟨⟨xs, v, kk, h1⟩, fun x H' y => stay y.1 (of q h (y.2 xs kk))⟩
  | lst r hx =>
    rename_i a x
    have h : (match asL S x with
      | some ds => some ds[k]?
      | none => none) = some (some d) := by
      cases x with
      | tup ds => exact absurd rfl (hx ds)
      | str z => cases r
      | _ => exact h
    split at h
    · rename_i ds e
      simp only [Option.some.injEq] at h
      obtain ⟨p, xs, ep, kk, q⟩ := asL_ok (c := ⟨K, R, fun _ => none, E0⟩) g r e
      cases ep
      obtain ⟨v, h1, h2⟩ := q.get h
      exact ⟨⟨xs, v, kk, h1⟩, fun x H' y => stay y.1 (of q h (y.2 xs kk))⟩
    · cases h
  | enm r =>
    rename_i a x
    have h : (match asL S x with
      | some ds => some ((ds[k]?).map fun d => D.tup [.int k, d])
      | none => none) = some (some d) := h
    split at h
    · rename_i ds e
      simp only [Option.some.injEq, Option.map_eq_some_iff] at h
      obtain ⟨u, hu, rfl⟩ := h
      obtain ⟨p, xs, ep, kk, q⟩ := asL_ok (c := ⟨K, R, fun _ => none, E0⟩) g r e
      cases ep
      obtain ⟨v, h1, h2⟩ := q.get hu
      refine ⟨⟨xs, v, kk, h1⟩, fun x H' ⟨T, z, e1, e2, e3, e4⟩ => ?_⟩
      subst e1
      have ez := e4 xs kk
      rw [h1] at ez
      cases ez
      exact made e2 e3 (.int _) h2
    · cases h
  | zipT r q =>
    cases r with
    | tup kk r =>
      cases q with
      | tup kk2 q =>
        rename_i ds es xs ys
        have h : some (pairAt ds es k) = some (some d) := h
        simp only [Option.some.injEq] at h
        obtain ⟨u, v, h1, h2, rfl⟩ := pair_some h
        obtain ⟨x1, g1, r1⟩ := r.get h1
        obtain ⟨y1, g2, r2⟩ := q.get h2
        refine ⟨⟨xs, ys, x1, y1, kk, kk2, g1, g2⟩, fun x H' ⟨T, z, w, e1, e2, e3, e4, e5⟩ => ?_⟩
        subst e1
        have ez := e4 xs kk
        have ew := e5 ys kk2
        rw [g1] at ez
        rw [g2] at ew
        cases ez
        cases ew
        exact made e2 e3 r1 r2
  | zip r q hx =>
    rename_i a b x y
    have h : (match asL S x, asL S y with
      | some a, some b => some (pairAt a b k)
      | _, _ => none) = some (some d) := by
      cases x with
      | tup ds => exact absurd rfl (hx ds)
      | _ => exact h
    split at h
    · rename_i ds es e1 e2
      simp only [Option.some.injEq] at h
      obtain ⟨u, v, h1, h2, rfl⟩ := pair_some h
      obtain ⟨p, xs, ep, kk, r⟩ := asL_ok (c := ⟨K, R, fun _ => none, E0⟩) g r e1
      obtain ⟨p2, ys, ep2, kk2, q⟩ := asL_ok (c := ⟨K, R, fun _ => none, E0⟩) g q e2
      cases ep
      cases ep2
      obtain ⟨x1, g1, r1⟩ := r.get h1
      obtain ⟨y1, g2, r2⟩ := q.get h2
      refine ⟨⟨xs, ys, x1, y1, kk, kk2, g1, g2⟩, fun x H' ⟨T, z, w, e1, e2, e3, e4, e5⟩ => ?_⟩
      subst e1
      have ez := e4 xs kk
      have ew := e5 ys kk2
      rw [g1] at ez
      rw [g2] at ew
      cases ez
      cases ew
      exact made e2 e3 r1 r2
    · cases h
end

/-! ### for -/
def forL (tg : Tg) (b : SemS) (s : Src) : Nat → Nat → SemS
  | 0, _, _, _ => none
  | m + 1, k, ρ, S => (match s.at_ S k with
    | some none => ret (.nx ρ) S
    | some (some d) => (match setT tg d ρ with
      | some ρ1 => bnd (b ρ1 S) fun fl S2 => (match fl with
        | .nx ρ2 => forL tg b s m (k + 1) ρ2 S2
        | .ct ρ2 => forL tg b s m (k + 1) ρ2 S2
        | .bk ρ2 => ret (.nx ρ2) S2
        | .rt d => ret (.rt d) S2)
      | none => none)
    | none => none)
/-- what is to be walked -/
abbrev SemI := Env → Store → Out Src
def RI (c : Ct) : RelT It Src := fun n φ H J s => SrcR c.K c.R n φ H s J
abbrev mI (c : Ct) (f : SemI) : TI := fun σ H R => Wp c (RI c) f σ H R
def sFor (tg : Tg) (fi : SemI) (b : SemS) (m : Nat) : SemS := fun ρ S => bnd (fi ρ S) fun s S1 => forL tg b s m 0 ρ S1
theorem pi_weak {X : Cx} {tg e : Expr} {t t' : TI} (h : PI X tg e t) (k : ∀ σ H Q, t' σ H Q → t σ H Q) : PI X tg e t' := ⟨fun pins s σ H R I w => h.run pins s σ H R I (k σ H R w)⟩
section
variable {X : Cx} {c : Ct} {e : Expr} {body : List Stmt} {tg : Tg} {tge : Expr} {b : SemS} {fi : SemI} {fe : Env → Store → Out D} {pos : Pos}
theorem for_mono {m : Nat} {d : Ends} {σ : L2.St} {H : Hp} (h : mT c (sFor tg fi b m) d σ H) : tFor (mI c fi) (gT c.K tg) (mT c b) d σ H := by
  obtain ⟨φ, S, ρ, r, hg, hr, hf, hp⟩ := h
  refine mT_fst (rel := RI c) hg hr hf hp fun s S1 J φ1 H1 s1 g1 e1 r1 hf1 hp1 => ?_
  refine ⟨fun k m σ H => ∃ φ S ρ r, Good c.K c.R φ H S ∧ EnvR c.K c.R S.length φ H ρ σ ∧ SrcR c.K c.R S.length φ H s J ∧ forL tg b s m k ρ S = some r ∧ PostF c φ S H d r, ⟨m, φ1, S1, ρ, r, g1, e1, r1, hf1, hp1⟩, ?_⟩
  rintro k m σ2 H2 ⟨φ2, S2, ρ2, r2, g2, e2, q2, hf2, hp2⟩
  cases m with
  | zero => cases hf2
  | succ m =>
    have hf2 : (match s.at_ S2 k with
      | some none => ret (.nx ρ2) S2
      | some (some d) => (match setT tg d ρ2 with
        | some ρ1 => bnd (b ρ1 S2) fun fl S2 => (match fl with
          | .nx ρ2 => forL tg b s m (k + 1) ρ2 S2
          | .ct ρ2 => forL tg b s m (k + 1) ρ2 S2
          | .bk ρ2 => ret (.nx ρ2) S2
          | .rt d => ret (.rt d) S2)
        | none => none)
      | none => none) = some r2 := hf2
    split at hf2
    · rename_i ei
      cases hf2
      exact .inl ⟨q2.stop g2 ei, hp2.next g2 e2⟩
    · rename_i dd ei
      split at hf2
      · rename_i ρ3 es
        obtain ⟨go, yl⟩ := q2.item g2 ei
        refine .inr ⟨go, fun σ H => ∃ m', m' < m + 1 ∧ ∃ φ S ρ r, Good c.K c.R φ H S ∧ EnvR c.K c.R S.length φ H ρ σ ∧ SrcR c.K c.R S.length φ H s J ∧ forL tg b s m' (k + 1) ρ S = some r ∧ PostF c φ S H d r, fun _ _ z => z, fun x H' y => ?_⟩
        obtain ⟨st, g3, rx⟩ := yl x H' y
        obtain ⟨σ3, h1, _, h3⟩ := setT_ok es rx (e2.step st)
        refine h3 _ ?_
        exact body_mono g3 h1 hf2 (hp2.from st) fun ρ4 S4 σ4 φ4 H4 s4 g4 e4 hf4 hp4 => ⟨m, Nat.lt_succ_self m, φ4, S4, ρ4, r2, g4, e4, q2.step (st.trans s4), hf4, hp4⟩
      · cases hf2
    · cases hf2
theorem t_for {m : Nat} (hK : c.K = X.K) (hpo : PassesOwn (model X.prog X.w) X.A X.env X.xe) (hcalm : X.calm = true) (hi : PI X tge e (mI c fi)) (hg : PG X tge (gT c.K tg)) (hb : PSs X body (mT c b)) (hs : ∀ x, foldedSetIterable e X.env x = pure x) : PS X (.For tge e body [] pos) (mT c (sFor tg fi b m)) :=
  ps_weak (ps_for hpo hcalm hi hg hb hs) fun _ _ _ => for_mono

/-! ### what may stand behind in -/
/-- a list, a tuple or a text by its value -/
theorem pi_any {tl : TE} (hl : PE X e tl) : PI X tge e (fun σ H R => tl σ H fun x H1 => ((∃ a, x = .ref a ∧ (∃ xs, SqL X.K H1 a xs) ∧ R (Itl X.K a) H1) ∨ (∃ a, x = .ref a ∧ (∃ xs, SqT X.K H1 a xs) ∧ R (Itt X.K a) H1)) ∨ (∃ z, x = .str z ∧ R (Its z) H1)) := by
  refine ⟨fun pins s σ H R I h => ?_⟩
  -- the value first, then its iterator by the three rules, each over a slot that holds the value
  have lift : ∀ (v : Value) (s1 : Shared) (x : V) (H1 : Hp), Inv X pins σ H1 s1 → RelV x v → ((∃ a, x = .ref a ∧ (∃ xs, SqL X.K H1 a xs) ∧ R (Itl X.K a) H1) ∨ (∃ a, x = .ref a ∧ (∃ xs, SqT X.K H1 a xs) ∧ R (Itt X.K a) H1)) ∨ (∃ z, x = .str z ∧ R (Its z) H1) →
      wpAny (model X.prog X.w) X.A (pyIter v) (PIE X pins σ tge R) X.xe s1 := fun v s1 x H1 I1 r1 q => by
    rcases q with (⟨a, rfl, ⟨xs, hq⟩, q⟩ | ⟨a, rfl, ⟨xs, hq⟩, q⟩) | ⟨z, rfl, q⟩
    · cases r1
      obtain ⟨its, _, pl, _⟩ := I1.list hq
      refine wpAny_pyIter_list pl.isList ⟨s1.heap.objs.size, [s1.heap.objs.size], _, Itl X.K a, H1, rfl, I1.kept (t' := s1.toks) fun b o e => Heap.get?_push_of_some _ e, turn_list a _, ⟨_, Heap.get?_push_size _ rfl, rfl, rfl⟩, fun b hb => ?_, q⟩
      rw [show b = s1.heap.objs.size by simpa using hb]
      exact I1.fpOk (Nat.le_refl _) (I1.hok.fresh (Nat.le_refl _))
    · cases r1
      obtain ⟨its, _, pl, _⟩ := I1.tuple hq
      refine wpAny_pyIter_tuple (items := its.toArray) pl ⟨s1.heap.objs.size, [s1.heap.objs.size], _, Itt X.K a, H1, rfl, I1.kept (t' := s1.toks) fun b o e => Heap.get?_push_of_some _ e, turn_tuple a _, ⟨_, Heap.get?_push_size _ rfl, rfl, rfl⟩, fun b hb => ?_, q⟩
      rw [show b = s1.heap.objs.size by simpa using hb]
      exact I1.fpOk (Nat.le_refl _) (I1.hok.fresh (Nat.le_refl _))
    · obtain ⟨t, rfl⟩ := r1
      have both : ∀ (it : Addr) (ty : String), ty = "str_ascii_iterator" ∨ ty = "str_iterator" → Turn X.prog X.w X.K tge (Its z) [it] it (fun i h => h.IsStrIter it ty z t i) := fun it ty h => turn_str it z t ty h
      cases ha : z.cps.all (· < 128) with
      | false => exact wpAny_pyIter_wide ha (pi_one (tk := s1.toks) I1 _ (both _ _ (.inr rfl)) ⟨_, Heap.get?_push_size _ rfl, rfl, rfl⟩ q)
      | true => exact wpAny_pyIter_ascii ha (pi_one (tk := s1.toks) I1 _ (both _ _ (.inl rfl)) ⟨_, Heap.get?_push_size _ rfl, rfl, rfl⟩ q)
  exact thn (hl.run pins s σ H _ I h) fun v s1 ⟨x, H1, I1, r1, q1⟩ => lift v s1 x H1 I1 r1 q1
def iSeq (fe : Env → Store → Out D) : SemI := fun ρ S => bnd (fe ρ S) fun d S1 => match d with
  | .tup ds => ret (.seq (.tup ds)) S1
  | .str z => ret (.seq (.str z)) S1
  | d => (match asL S1 d with
    | some _ => ret (.seq d) S1
    | none => none)
theorem i_seq (hK : c.K = X.K) (he : PE X e (mE c fe)) : PI X tge e (mI c (iSeq fe)) := by
  refine pi_weak (pi_any he) fun σ H R ⟨φ, S, ρ, z, hg, hr, hf, hp⟩ => ?_
  refine Wp.fst hg hr hf hp fun d S1 v φ1 H1 s1 g1 e1 r1 hf1 hp1 => ?_
  rw [← hK]
  have r1 : Rp c.K c.R S1.length φ1 H1 v d := r1
  split at hf1
  · cases hf1
    cases r1 with
    | tup k q => exact .inl (.inr ⟨_, rfl, ⟨_, k⟩, hp1.now g1 (.tup (.tup k q))⟩)
  · cases hf1
    cases r1
    exact .inr ⟨_, rfl, hp1.now g1 (.str _)⟩
  · rename_i hx _
    split at hf1
    · rename_i ea
      cases hf1
      obtain ⟨p, xs, rfl, k, q⟩ := asL_ok g1 r1 ea
      exact .inl (.inl ⟨_, rfl, ⟨_, k⟩, hp1.now g1 (.lst r1 fun ds => hx ds)⟩)
    · cases hf1
def iRg1 (fs : Env → Store → Out (List D)) : SemI := fun ρ S => bnd (fs ρ S) fun ds S1 => match ds with
  | [.int j] => guard' (decide (-(2 ^ 62) ≤ j) && decide (j < 2 ^ 62)) (ret (.rng 0 j.toNat) S1)
  | _ => none
def iRg2 (fs : Env → Store → Out (List D)) : SemI := fun ρ S => bnd (fs ρ S) fun ds S1 => match ds with
  | [.int i, .int j] => guard' (decide (-(2 ^ 62) ≤ i) && decide (i < 2 ^ 62) && decide (-(2 ^ 62) ≤ j) && decide (j < 2 ^ 62)) (ret (.rng i (j - i).toNat) S1)
  | _ => none
theorem i_rg1 {a : Expr} {p pos : Pos} {fs : Env → Store → Out (List D)} (hg : Gl X "range") (hm : X.mg "range" = none) (ha : PA X [a] (mA c fs)) (hs : starEach [a] X.env = [(false, eval a X.env)]) : PI X tge (.Call (.Name "range" p) [a] [] pos) (mI c (iRg1 fs)) := by
  refine pi_weak (pi_range1 hg hm ha hs) fun σ H R ⟨φ, S, ρ, z, hg, hr, hf, hp⟩ => ?_
  refine Wp.fst hg hr hf hp fun ds S1 vs φ1 H1 s1 g1 e1 r1 hf1 hp1 => ?_
  split at hf1
  · obtain ⟨v, rfl, rv⟩ := Rps.one r1
    cases rv
    obtain ⟨hl, hf1⟩ := guard_ok hf1
    cases hf1
    simp only [Bool.and_eq_true, decide_eq_true_eq] at hl
    exact ⟨_, rfl, hl.1, hl.2, hp1.now g1 (.rng _ _)⟩
  · cases hf1
theorem i_rg2 {a a2 : Expr} {p pos : Pos} {fs : Env → Store → Out (List D)} (hg : Gl X "range") (hm : X.mg "range" = none) (ha : PA X [a, a2] (mA c fs)) (hs : starEach [a, a2] X.env = [(false, eval a X.env), (false, eval a2 X.env)]) (hs2 : starEach [a2] X.env = [(false, eval a2 X.env)]) :
    PI X tge (.Call (.Name "range" p) [a, a2] [] pos) (mI c (iRg2 fs)) := by
  refine pi_weak (pi_range2 hg hm ha hs hs2) fun σ H R ⟨φ, S, ρ, z, hg, hr, hf, hp⟩ => ?_
  refine Wp.fst hg hr hf hp fun ds S1 vs φ1 H1 s1 g1 e1 r1 hf1 hp1 => ?_
  split at hf1
  · obtain ⟨v, w, rfl, rv, rw'⟩ := Rps.two r1
    cases rv
    cases rw'
    obtain ⟨hl, hf1⟩ := guard_ok hf1
    cases hf1
    simp only [Bool.and_eq_true, decide_eq_true_eq] at hl
    exact ⟨_, _, rfl, ⟨hl.1.1.1, hl.1.1.2, hl.1.2, hl.2⟩, hp1.now g1 (.rng _ _)⟩
  · cases hf1
end
end Pv

/-! Pv, part I: list comprehensions. -/
namespace Pv
open PySem PySem.Spec PyProof.Rows L2

def wipeD (ρ : Env) : List Nat → Env
  | [] => ρ
  | v :: vs => (wipeD ρ vs).set v none
theorem wipeD_length (ρ : Env) : ∀ vs : List Nat, (wipeD ρ vs).length = ρ.length
  | [] => rfl
  | v :: vs => by unfold wipeD; rw [List.length_set, wipeD_length ρ vs]
theorem wipeD_some {ρ : Env} {i : Nat} {x : D} : ∀ {vs : List Nat}, (wipeD ρ vs)[i]? = some (some x) → ρ[i]? = some (some x) ∧ i ∉ vs
  | [], h => ⟨h, by simp⟩
  | v :: vs, h => by
    unfold wipeD at h
    by_cases hi : v = i
    · subst hi
      by_cases hv : v < (wipeD ρ vs).length
      · rw [List.getElem?_set_self hv] at h; cases h
      · rw [List.getElem?_eq_none (by simpa using hv)] at h; cases h
    · rw [List.getElem?_set_ne hi] at h
      obtain ⟨h1, h2⟩ := wipeD_some h
      exact ⟨h1, by simp only [List.mem_cons, not_or]; exact ⟨fun e => hi e.symm, h2⟩⟩
theorem wipe_in {σ : L2.St} {i : Nat} : ∀ {vs : List Nat}, i ∈ vs → i < σ.length → (wipe σ vs)[i]? = some none
  | [], h, _ => by cases h
  | v :: vs, h, hl => by
    unfold wipe
    by_cases hi : v = i
    · subst hi
      rw [List.getElem?_set_self (by rw [wipe_length]; exact hl)]
    · rw [List.getElem?_set_ne hi]
      rcases List.mem_cons.mp h with e | e
      · exact absurd e.symm hi
      · exact wipe_in e hl
theorem wipe_eq {σ σ2 : L2.St} {vs : List Nat} (hl : σ2.length = σ.length) (h : ∀ j, j ∉ vs → σ2[j]? = (wipe σ vs)[j]?) : wipe σ2 vs = wipe σ vs := by
  refine List.ext_getElem? fun j => ?_
  by_cases hj : j ∈ vs
  · by_cases hb : j < σ.length
    · rw [wipe_in hj hb, wipe_in hj (by omega)]
    · rw [List.getElem?_eq_none (by rw [wipe_length]; omega), List.getElem?_eq_none (by rw [wipe_length]; omega)]
  · rw [wipe_out hj, h j hj]
section
variable {K : PySem.W.Frag} {R : Addr → Prop} {n : Nat} {φ : Nat → Addr} {H : Hp}
theorem EnvR.wipe {ρ : Env} {σ : L2.St} (e : EnvR K R n φ H ρ σ) (vs : List Nat) : EnvR K R n φ H (wipeD ρ vs) (wipe σ vs) :=
  ⟨by rw [wipeD_length, wipe_length]; exact e.len, fun i d h => by
    obtain ⟨h1, h2⟩ := wipeD_some h
    obtain ⟨v, h3, h4⟩ := e.at_ i d h1
    exact ⟨v, by rw [wipe_out h2]; exact h3, h4⟩⟩
theorem SrcR.hide {s : Src} {J : It} {p : Addr} {o : HO} (r : SrcR K R n φ H s J) (hn : H p = none) : SrcR K (addR R p) n φ (upd H p o) s J := by
  cases r with
  | rng lo m => exact .rng lo m
  | str z => exact .str z
  | tup r => exact .tup (r.hide hn)
  | lst r h => exact .lst (r.hide hn) h
  | enm r => exact .enm (r.hide hn)
  | zipT r q => exact .zipT (r.hide hn) (q.hide hn)
  | zip r q h => exact .zip (r.hide hn) (q.hide hn) h
end

/-- no exception is let out -/
def bndN {α β : Type} (m : Out α) (k : α → Store → Out β) : Out β := match m with
  | some (.ok a, S) => k a S
  | _ => none
@[simp] theorem bndN_ok {α β : Type} (a : α) (S : Store) (k : α → Store → Out β) : bndN (some (.ok a, S)) k = k a S := rfl
@[simp] theorem bndN_ret {α β : Type} (a : α) (S : Store) (k : α → Store → Out β) : bndN (ret a S) k = k a S := rfl
@[simp] theorem bndN_none {α β : Type} (k : α → Store → Out β) : bndN none k = none := rfl
@[simp] theorem bndN_ex {α β : Type} (x : Xd) (S : Store) (k : α → Store → Out β) : bndN (some (.ex x, S)) k = none := rfl
def cndE (cnd : Option (Env → Store → Out Bool)) (ρ : Env) (S : Store) : Out Bool := match cnd with
  | none => ret true S
  | some t => t ρ S
def compL (tg : Tg) (cnd : Option (Env → Store → Out Bool)) (fe : Env → Store → Out D) (s : Src) (ρ : Env) : Nat → Nat → List D → Store → Out (List D)
  | 0, _, _, _ => none
  | m + 1, k, acc, S => (match s.at_ S k with
    | some none => ret acc S
    | some (some d) => (match setT tg d ρ with
      | some ρ1 => bndN (cndE cnd ρ1 S) fun b S1 => if b then bndN (fe ρ1 S1) fun x S2 => guard' (decide (acc.length < line)) (compL tg cnd fe s ρ m (k + 1) (acc ++ [x]) S2) else compL tg cnd fe s ρ m (k + 1) acc S1
      | none => none)
    | none => none)
def eComp (tg : Tg) (fi : SemI) (cnd : Option (Env → Store → Out Bool)) (fe : Env → Store → Out D) (vs : List Nat) (m : Nat) (ρ : Env) (S : Store) : Out D :=
  bnd (fi ρ S) fun s S1 => bnd (compL tg cnd fe s (wipeD ρ vs) m 0 [] S1) fun ds S2 => ret (.lst ds) S2
/-- within a comprehension: nothing is raised; any addresses may be unknown -/
abbrev Ct.inn (c : Ct) (R : Addr → Prop) : Ct := { c with R := R, E := E0 }
def xE (c : Ct) (fe : Env → Store → Out D) : TE := fun σ H Q => ∃ R, mE (c.inn R) fe σ H Q
def xB (c : Ct) (t : Env → Store → Out Bool) : TT := fun σ H Q => ∃ R, mB (c.inn R) t σ H Q
def xT (c : Ct) : Option (Env → Store → Out Bool) → TT
  | none => tYes
  | some t => xB c t
theorem Wp.fstN {α β γ δ : Type} {rel : RelT β α} {rel2 : RelT δ γ} {c : Ct} {φ : Nat → Addr} {S : Store} {ρ : Env} {σ : L2.St} {H : Hp} {f : Env → Store → Out α} {k : α → Store → Out γ} {R : β → Hp → Prop} {r : Rs γ × Store} (hg : Good c.K c.R φ H S) (he : EnvR c.K c.R S.length φ H ρ σ) (hf : bndN (f ρ S) k = some r)
    (next : ∀ a S1 b φ1 H1, Step S.length φ H S1.length φ1 H1 → Good c.K c.R φ1 H1 S1 → EnvR c.K c.R S1.length φ1 H1 ρ σ → rel S1.length φ1 H1 b a → k a S1 = some r → R b H1) : Wp c rel f σ H R := by
  cases e : f ρ S with
  | none => rw [e] at hf; cases hf
  | some q =>
    obtain ⟨q, S1⟩ := q
    rw [e] at hf
    cases q with
    | ex x => cases hf
    | ok a => exact ⟨φ, S, ρ, _, hg, he, e, fun b φ' H' s g' rv => next a S1 b φ' H' s g' (he.step s) rv hf⟩
theorem setT_length {t : Tg} {d : D} {ρ ρ' : Env} (h : setT t d ρ = some ρ') : ρ'.length = ρ.length := by
  have both : (∀ (t : Tg) (d : D) (ρ ρ' : Env), setT t d ρ = some ρ' → ρ'.length = ρ.length) := by
    intro t
    refine Tg.rec (motive_1 := fun t => ∀ (d : D) (ρ ρ' : Env), setT t d ρ = some ρ' → ρ'.length = ρ.length) (motive_2 := fun ts => ∀ (ds : List D) (ρ ρ' : Env), setTs ts ds ρ = some ρ' → ρ'.length = ρ.length) ?_ ?_ ?_ ?_ t
    · intro i d ρ ρ' h
      simp only [setT] at h
      cases h
      exact List.length_set
    · intro ts ih d ρ ρ' h
      simp only [setT] at h
      split at h
      · exact ih _ _ _ h
      · cases h
    · intro ds ρ ρ' h
      simp only [setTs] at h
      split at h
      · cases h; rfl
      · cases h
    · intro t ts ih1 ih2 ds ρ ρ' h
      simp only [setTs] at h
      split at h
      · split at h
        · rename_i e
          exact (ih2 _ _ _ h).trans (ih1 _ _ _ e)
        · cases h
      · cases h
  exact both t d ρ ρ' h
section
variable {X : Cx} {c : Ct} {elt tge iter : Expr} {ifs : List Expr} {scope : Scope} {own : List (Str × Nat)} {pos : Pos} {tg : Tg} {fi : SemI} {cnd : Option (Env → Store → Out Bool)} {fe : Env → Store → Out D}
/-- what holds between two turns of a comprehension: the new list at A, that nobody knows -/
def CW (c : Ct) (tg : Tg) (cnd : Option (Env → Store → Out Bool)) (fe : Env → Store → Out D) (s : Src) (J : It) (ρw : Env) (σw : L2.St) (S1 : Store) (φ1 : Nat → Addr) (H1 : Hp) (A : Addr) (r : Rs D × Store) (k m : Nat) (H : Hp) : Prop :=
  ∃ φ S acc xs, Step S1.length φ1 H1 S.length φ H ∧ Good c.K (addR c.R A) φ H S ∧ EnvR c.K (addR c.R A) S.length φ H ρw σw ∧ SrcR c.K (addR c.R A) S.length φ H s J ∧
    H A = some (.lst xs) ∧ (∀ i, i < S.length → A ≠ φ i) ∧ Rps c.K (addR c.R A) S.length φ H xs acc ∧ bnd (compL tg cnd fe s ρw m k acc S) (fun ds S2 => ret (.lst ds) S2) = some r
section
variable {K : PySem.W.Frag} {R : Addr → Prop} {n n' : Nat} {φ φ' : Nat → Addr} {H H' : Hp} {A : Addr} {o : HO}
theorem Step.hid (s : Step n φ H n' φ' H') (h : H A = none) : Step n φ H n' φ' (upd H' A o) :=
  ⟨s.le, s.same, fun a o' e hc => by rw [upd_ne (ne_of_none e h)]; exact s.keep a o' e hc, fun a o' e => by rw [upd_ne (ne_of_none e h)]; exact s.dom a o' e, s.fresh, fun a xs e => by rw [upd_ne (ne_of_none e h)]; exact s.tups a xs e,
    fun a o' u e => by rw [upd_ne (ne_of_none e h)]; exact s.frzs a o' u e⟩
theorem sqT_swap {a : Addr} {xs ys : List V} (hA : H A = some (.lst ys)) (h : SqT K H a xs) : SqT K (upd H A o) a xs := by
  rcases h with (h | ⟨ob, h⟩) | h
  · exact .inl (.inl (by rw [upd_ne (ne_of h hA (by intro z; cases z))]; exact h))
  · exact .inl (.inr ⟨ob, by rw [upd_ne (ne_of h hA (by intro z; cases z))]; exact h⟩)
  · exact .inr h
mutual
theorem Rp.swap {ys : List V} (hA : H A = some (.lst ys)) : ∀ {v : V} {d : D}, Rp K (addR R A) n φ H v d → Rp K (addR R A) n φ (upd H A o) v d
  | _, _, .non => .non
  | _, _, .bl b => .bl b
  | _, _, .int i => .int i
  | _, _, .str x => .str x
  | _, _, .tup h r => .tup (sqT_swap hA h) (Rps.swap hA r)
  | _, _, .klst h r => .klst h (Rps.swap hA r)
  | _, _, .frz h r => .frz (by rw [upd_ne (ne_of h hA (by intro z; cases z))]; exact h) (Rps.swap hA r)
  | _, _, .lst h f c r => .lst (by rw [upd_ne fun e => f (.inr e)]; exact h) f c (Rps.swap hA r)
  | _, _, .cell h => .cell h
theorem Rps.swap {ys : List V} (hA : H A = some (.lst ys)) : ∀ {vs : List V} {ds : List D}, Rps K (addR R A) n φ H vs ds → Rps K (addR R A) n φ (upd H A o) vs ds
  | _, _, .nil => .nil
  | _, _, .cons h r => .cons (Rp.swap hA h) (Rps.swap hA r)
end
theorem EnvR.swap {ys : List V} {ρ : Env} {σ : L2.St} (hA : H A = some (.lst ys)) (e : EnvR K (addR R A) n φ H ρ σ) : EnvR K (addR R A) n φ (upd H A o) ρ σ :=
  ⟨e.len, fun i d h => let ⟨v, h1, h2⟩ := e.at_ i d h; ⟨v, h1, h2.swap hA⟩⟩
theorem SrcR.swap {ys : List V} {s : Src} {J : It} (hA : H A = some (.lst ys)) (r : SrcR K (addR R A) n φ H s J) : SrcR K (addR R A) n φ (upd H A o) s J := by
  cases r with
  | rng lo m => exact .rng lo m
  | str z => exact .str z
  | tup r => exact .tup (r.swap hA)
  | lst r h => exact .lst (r.swap hA) h
  | enm r => exact .enm (r.swap hA)
  | zipT r q => exact .zipT (r.swap hA) (q.swap hA)
  | zip r q h => exact .zip (r.swap hA) (q.swap hA) h
theorem Good.swap {ys : List V} {S : Store} (hA : H A = some (.lst ys)) (hne : ∀ i, i < S.length → A ≠ φ i) (g : Good K (addR R A) φ H S) : Good K (addR R A) φ (upd H A o) S := by
  refine ⟨fun i c e => ?_, g.inj, fun a h => ?_, g.cof⟩
  · have hi : i < S.length := (List.getElem?_eq_some_iff.mp e).1
    have q := g.at_ i c e
    have ne : φ i ≠ A := fun z => hne i hi z.symm
    cases c with
    | lst ds =>
      obtain ⟨xs, e1, r⟩ := q
      exact ⟨xs, by rw [upd_ne ne]; exact e1, r.swap hA⟩
    | dct kvs =>
      obtain ⟨ps, e1, ek, r⟩ := q
      exact ⟨ps, by rw [upd_ne ne]; exact e1, ek, r.swap hA⟩
  · by_cases q : a = A
    · subst q; exact ⟨o, upd_same⟩
    · obtain ⟨o', e⟩ := g.off a h
      exact ⟨o', by rw [upd_ne q]; exact e⟩
end
theorem comp_mono {m : Nat} (hsl : ∀ j ∈ tg.slots, j ∈ own.map (·.2)) {σ : L2.St} {H : Hp} {Q : VK} (h : mS c (eComp tg fi cnd fe (own.map (·.2)) m) σ H Q) : tLc (mI c fi) (gT c.K tg) (xT c cnd) (xE c fe) (own.map (·.2)) σ H Q := by
  obtain ⟨φ, S, ρ, r, hg, hr, hf, hp⟩ := h
  refine mS_fst (rel := RI c) hg hr hf hp fun s S1 J φ1 H1 s1 g1 e1 r1 hf1 hp1 => ?_
  intro A hA
  have hRA : ¬ c.R A := fun hr => by
    obtain ⟨o, e⟩ := g1.off A hr
    rw [hA] at e; cases e
  generalize hρ : wipeD ρ (own.map (·.2)) = ρw at hf1
  generalize hσ : wipe σ (own.map (·.2)) = σw
  have ew : EnvR c.K c.R S1.length φ1 H1 ρw σw := by
    rw [← hρ, ← hσ]
    exact e1.wipe _
  refine ⟨CW c tg cnd fe s J ρw σw S1 φ1 H1 A r, ⟨m, φ1, S1, [], [], Step.new hA, g1.hide hA, ew.hide hA, SrcR.hide r1 hA, upd_same, fun i hi e => ?_, .nil, hf1⟩, ?_⟩
  · obtain ⟨o, q, _⟩ := g1.there hi
    rw [← e, hA] at q; cases q
  rintro k m H2 ⟨φ2, S2, acc, xs, s2, g2, e2, q2, hA2, hne, rA, hf2⟩
  cases m with
  | zero => cases hf2
  | succ m =>
    cases ea : s.at_ S2 k with
    | none =>
      simp only [compL, ea, bnd_none] at hf2
      cases hf2
    | some oi =>
      cases oi with
      | none =>
        simp only [compL, ea, bnd_ret] at hf2
        cases hf2
        exact .inl ⟨q2.stop g2 ea, hp1 xs A φ2 H2 s2 hA hRA hA2 hne g2 rA⟩
      | some dd =>
        simp only [compL, ea] at hf2
        cases es : setT tg dd ρw with
        | none =>
          simp only [es, bnd_none] at hf2
          cases hf2
        | some ρ1 =>
          simp only [es] at hf2
          obtain ⟨go, yl⟩ := q2.item g2 ea
          refine .inr ⟨go, fun H => ∃ m', m' < m + 1 ∧ CW c tg cnd fe s J ρw σw S1 φ1 H1 A r (k + 1) m' H, fun _ z => z, fun x H' y => ?_⟩
          obtain ⟨st, g2, rx⟩ := yl x H' y
          have s2 := s2.trans st
          have hA2 : H' A = some (.lst xs) := st.keep A _ hA2 hne
          have e2 := e2.step st
          have q2 := q2.step st
          have rA := rA.step st
          obtain ⟨σ3, h1, h2, h3⟩ := setT_ok es rx e2
          have hw : wipe σ3 (own.map (·.2)) = σw := by
            rw [← hσ]
            refine wipe_eq ?_ fun j hj => by rw [h2 j fun hm => hj (hsl j hm), hσ]
            have l1 := h1.len
            have l2 := setT_length es
            have l3 := e2.len
            rw [← hσ, wipe_length] at l3
            omega
          refine h3 _ ⟨hw, ?_⟩
          -- behind the test
          have go : ∀ (b : Bool) (S3 : Store) (φ3 : Nat → Addr) (H3 : Hp), Step S2.length φ2 H' S3.length φ3 H3 → Good c.K (addR c.R A) φ3 H3 S3 → EnvR c.K (addR c.R A) S3.length φ3 H3 ρ1 σ3 →
              bnd (if b then bndN (fe ρ1 S3) fun x S2 => guard' (decide (acc.length < line)) (compL tg cnd fe s ρw m (k + 1) (acc ++ [x]) S2) else compL tg cnd fe s ρw m (k + 1) acc S3) (fun ds S2 => ret (.lst ds) S2) = some r →
              if b = true then xE c fe σ3 H3 fun y H4 => ∃ acc', H4 A = some (.lst acc') ∧ acc'.length < sizeLine ∧ ∃ m', m' < m + 1 ∧ CW c tg cnd fe s J ρw σw S1 φ1 H1 A r (k + 1) m' (upd H4 A (.lst (acc' ++ [y])))
              else ∃ m', m' < m + 1 ∧ CW c tg cnd fe s J ρw σw S1 φ1 H1 A r (k + 1) m' H3 := by
            intro b S3 φ3 H3 s3 g3 e3 hf3
            have hA3 : H3 A = some (.lst xs) := s3.keep A _ hA2 hne
            have hne3 := s3.apart hA2 hne
            cases b with
            | false => exact iteF ⟨m, Nat.lt_succ_self m, φ3, S3, acc, xs, s2.trans s3, g3, e2.step s3, q2.step s3, hA3, hne3, rA.step s3, hf3⟩
            | true =>
              refine iteT ⟨addR c.R A, ?_⟩
              have hf3 : bnd (bndN (fe ρ1 S3) fun x S2 => guard' (decide (acc.length < line)) (compL tg cnd fe s ρw m (k + 1) (acc ++ [x]) S2)) (fun ds S2 => ret (.lst ds) S2) = some r := hf3
              cases ef : fe ρ1 S3 with
              | none => rw [ef] at hf3; cases hf3
              | some q =>
                obtain ⟨q, S4⟩ := q
                rw [ef] at hf3
                cases q with
                | ex x => cases hf3
                | ok x =>
                  refine ⟨φ3, S3, ρ1, _, g3, e3, ef, fun y φ4 H4 s4 g4 r4 => ?_⟩
                  have hA4 : H4 A = some (.lst xs) := s4.keep A _ hA3 hne3
                  have hne4 := s4.apart hA3 hne3
                  have st : Step S2.length φ2 H' S4.length φ4 H4 := s3.trans s4
                  by_cases hl : acc.length < line
                  · simp only [bndN_ok, decide_eq_true hl, guard_true] at hf3
                    refine ⟨xs, hA4, ?_, m, Nat.lt_succ_self m, φ4, S4, acc ++ [x], xs ++ [y], (s2.trans st).hid hA, g4.swap hA4 hne4, (e2.step st).swap hA4, (q2.step st).swap hA4, upd_same, hne4, ((rA.step st).snoc r4).swap hA4, hf3⟩
                    rw [rA.length]
                    exact Nat.lt_of_lt_of_le hl (by decide)
                  · simp only [bndN_ok, decide_eq_false hl, guard', Bool.false_eq_true, if_false, bnd_none] at hf3
                    cases hf3
          cases cnd with
          | none => exact go true S2 φ2 H' Step.refl g2 h1 hf2
          | some t =>
            refine ⟨addR c.R A, ?_⟩
            cases et : t ρ1 S2 with
            | none => simp only [cndE, et, bndN_none, bnd_none] at hf2; cases hf2
            | some q =>
              obtain ⟨q, S3⟩ := q
              cases q with
              | ex x => simp only [cndE, et, bndN_ex, bnd_none] at hf2; cases hf2
              | ok b =>
                simp only [cndE, et, bndN_ok] at hf2
                refine ⟨φ2, S2, ρ1, _, g2, h1, et, fun b' φ3 H3 s3 g3 rb => ?_⟩
                cases rb
                exact go b S3 φ3 H3 s3 g3 (h1.step s3) hf2
theorem x_E {X : Cx} {e : Expr} (h : ∀ R, PE X e (mE (c.inn R) fe)) : PE X e (xE c fe) := ⟨fun pins s σ H Q I ⟨R, w⟩ => (h R).run pins s σ H Q I w⟩
theorem x_B {X : Cx} {e : Expr} {t : Env → Store → Out Bool} (h : ∀ R, PT X e (mB (c.inn R) t)) : PT X e (xB c t) := ⟨fun pins s σ H Q I ⟨R, w⟩ => (h R).run pins s σ H Q I w⟩
theorem s_lc {m : Nat} (hK : c.K = X.K) (hc : X.calm = true) (hN : X.N.Nodup) (hsl : ∀ j ∈ tg.slots, j ∈ own.map (·.2)) (hi : PI X tge iter (mI c fi)) (ok : BlkOk X.N X.env.scope scope own)
    (hg : ∀ (s : Shared) (H : Hp) (C : Addr) (cl : List (Str × Addr)) (fp : List Addr), PG (X.blk s H scope (compEnvC scope cl C X.env) fp) tge (gT c.K tg)) (ht : ∀ (s : Shared) (H : Hp) (C : Addr) (cl : List (Str × Addr)) (fp : List Addr), PTs (X.blk s H scope (compEnvC scope cl C X.env) fp) ifs (xT c cnd))
    (he : ∀ (s : Shared) (H : Hp) (C : Addr) (cl : List (Str × Addr)) (fp : List Addr), PE (X.blk s H scope (compEnvC scope cl C X.env) fp) elt (xE c fe)) (hs : ∀ x, foldedSetIterable iter X.env x = pure x) : PE X (.ListComp elt [⟨tge, iter, ifs, 0⟩] scope pos) (mS c (eComp tg fi cnd fe (own.map (·.2)) m)) :=
  pe_weak (pe_lc hc hN hi ok hg ht he hs) fun _ _ _ => comp_mono hsl
end
end Pv

/-! Pv, part J: defs and their calls, where nothing is being shown (no guard of a repr stands). -/
namespace Pv
open PySem PySem.Spec PyProof.Rows L2

/-- the def at f keeps the promise sp wherever no repr is under way -/
structure FnG (P : Program) (w : World) (K : PySem.W.Frag) (mg : Str → Option Value) (base : Heap) (CX : CXT) (k : Nat) (f : Addr) (fd : FuncData) (ps : List Str) (sp : Sp) : Prop where
  len : ∀ vs H Q E, sp vs H Q E → vs.length = ps.length
  run : ∀ (A : Around) (outer : List PySem.Env) (s : Shared) (H : Hp) (args : Args) (us : List Value) (vs : List V) (Q : VK) (E : XK), Room k A → A.guards = some [] → Env0 P w K mg base A outer s H → BindsTo s fd args (ps.zip us) → Vals vs us → sp vs H Q E →
    codeAny (model P w) A (.call (.ref f) args) (CR CX outer P w H s Q E) s
theorem FnG.mono {P : Program} {w : World} {K : PySem.W.Frag} {mg : Str → Option Value} {base : Heap} {CX : CXT} {j k : Nat} {f : Addr} {fd : FuncData} {ps : List Str} {sp : Sp} (F : FnG P w K mg base CX j f fd ps sp) (h : j ≤ k) : FnG P w K mg base CX k f fd ps sp :=
  { len := F.len, run := fun A outer s H args us vs Q E room => F.run A outer s H args us vs Q E (room.mono h) }
section
variable {X : Cx} {CX : CXT} {k : Nat} {f : Addr} {fd : FuncData} {ps : List Str} {sp : Sp} {E : XK} {x : Str} {p pos : Pos} {e : Expr} {es : List Expr} {t : TA} {ds : List Value} {dvs : List V}
theorem run_g {pins : List (Addr × Obj)} {σ : L2.St} {H : Hp} {s : Shared} {Q : VK} {us : List Value} {vs : List V} (F : FnG X.prog X.w X.K X.mg X.base CX k f fd ps sp) (room : Room k X.A) (hgd : X.A.guards = some []) (bind : Binds X.K fd ps ds) (hdv : Vals dvs ds) (pass : Passes CX X E)
    (I : Inv X pins σ H s) (rel : Vals vs us) (hw : sp (vs ++ dvs) H Q E) : wpAny (model X.prog X.w) X.A (call (.ref f) us) (EP X pins σ Q) X.xe s := by
  have both : Vals (vs ++ dvs) (us ++ ds) := Vals.append rel hdv
  have size : (us ++ ds).length = ps.length := (Vals.length both).symm.trans (F.len _ _ _ _ hw)
  have here := F.run X.A X.stack s H ⟨us, []⟩ (us ++ ds) (vs ++ dvs) Q E room hgd I.env0 (bind s us I.kIn size) both hw
  refine wpAny_call (codeAny_mono here fun res s' end_ => ?_)
  match res, end_ with
  | .error e, end_ => exact pass pins σ H s e s' I end_
  | .ok (.ret u), end_ => exact I.after end_
theorem pe_callG (F : FnG X.prog X.w X.K X.mg X.base CX k f fd ps sp) (room : Room k X.A) (hgd : X.A.guards = some []) (glob : Gl X x) (at_ : X.mg x = some (.ref f)) (kp : PySem.W.keepIn X.K (.ref f) = true) (bind : Binds X.K fd ps ds) (hdv : Vals dvs ds) (pass : Passes CX X E) (args : PA X (e :: es) t)
    (hdb : (x == ("__debug__" : Str)) = false) (he : starEach (e :: es) X.env = (false, eval e X.env) :: starEach es X.env) (hpl : (backTo pos (starEach es X.env)).any (·.1) = false) : PE X (.Call (.Name x p) (e :: es) [] pos) (tCall sp dvs E t) :=
  { run := fun pins s σ H Q I w => wpAny_Call_Name_kw (ld_glob I glob at_ (PySem.W.callWith_K (h₀ := X.base) I.ok.mod.kin kp
      (thn (args.run pos pins s σ H _ I w) fun us s1 ⟨vs, H1, I1, rel, q⟩ => ⟨I1.kIn, run_g F room hgd bind hdv pass I1 rel q⟩) he hpl) hdb) }
theorem pe_callG0 (F : FnG X.prog X.w X.K X.mg X.base CX k f fd ps sp) (room : Room k X.A) (hgd : X.A.guards = some []) (glob : Gl X x) (at_ : X.mg x = some (.ref f)) (kp : PySem.W.keepIn X.K (.ref f) = true) (bind : Binds X.K fd ps ds) (hdv : Vals dvs ds) (pass : Passes CX X E)
    (hdb : (x == ("__debug__" : Str)) = false) : PE X (.Call (.Name x p) [] [] pos) (tCall sp dvs E tNil) :=
  { run := fun pins s σ H Q I w => wpAny_Call_Name_kw (ld_glob I glob at_ (PySem.W.callWith_K0 I.kIn kp (run_g (us := []) F room hgd bind hdv pass I .nil w)) hdb) }
end
/-- a def by its body -/
theorem FnG.of {CX : CXT} {P : Program} {w : World} {K : PySem.W.Frag} {mg : Str → Option Value} {base : Heap} {k : Nat} {f : Addr} {x qual : Str} {params : Arguments} {body : List Stmt} {scope : Scope} {dvs : List V} {kws : List (Str × V)} {fd : FuncData} {N ps : List Str} {sp : Sp}
    (D : FunD K x qual params body scope dvs kws f fd) (S : FnScope N ps scope) (len : ∀ vs H Q E, sp vs H Q E → vs.length = ps.length)
    (hbody : ∀ (cdv : Value) (A : Around) (outer : List PySem.Env) (s : Shared) (H : Hp) (vs : List V) (Q : VK) (E : XK), Room k (A.deeper (envOfC qual scope s.heap.objs.size f cdv)) → A.guards = some [] → sp vs H Q E →
      ∃ t, PSs (cxOf CX P w K mg base N qual scope f cdv A outer s H E) body t ∧ t { nx := fun _ H' => Q .non H', rt := Q } (start N vs) H) : FnG P w K mg base CX (k + 1) f fd ps sp := by
  obtain ⟨oc, od, dV, kV, doc, pm, an, cdv, ct, osl, rfl, lk, code, _, _⟩ := D.ex
  refine ⟨len, fun A outer s H args us vs Q E room gd e0 bind rel hw => ?_⟩
  have size := len _ _ _ _ hw
  have inK : K.In s.heap := e0.mod.kin.keeps fun b o q => (e0.bs b o q).1
  have lim : s.heap.NoLimit := e0.mod.nolimit.keeps fun b o q => (e0.bs b o q).1
  have kinds : ∀ y ∈ ps.zip us, scope.names.lookup y.1 = some .local ∨ (scope.names.lookup y.1 = some .cell ∧ ((cellsFrom (s.heap.objs.size + 1) scope.names []).lookup y.1).isSome = true) := by
    rintro ⟨y, u⟩ hy
    exact (S.par y (List.of_mem_zip hy).1).imp id fun q => ⟨q, PySem.W.cellsFrom_some _ _ _ (.inl q)⟩
  refine codeAny_call_function room.depth (inK _ _ lk) rfl S.co S.gen rfl (PySem.W.codeRec_of inK code) (bind _ _ _ _ (wpAny_newFunctionEnv_cells S.kind kinds fun env henv s1 entry => ?_))
  subst henv
  refine ⟨lim.keeps entry.toInCall.keep, codeAny_func ?_⟩
  obtain ⟨t, term, w'⟩ := hbody cdv A outer s H vs Q E (room.deeper _) gd hw
  have I := inv_start (CX := CX) (E := E) S room.hd e0 size rel entry
  refine wpAny_mono (term.run [] s1 (start N vs) H _ I w') (fun fl s' last => ?_) fun _ _ q => q
  match fl, last with
  | .ret u, ⟨v, σ', H', J, rv, q⟩ => exact ⟨v, H', J.os, J.bare, J.base, J.hok, rv, q⟩
  | .next, ⟨σ', H', J, q⟩ => exact ⟨V.non, H', J.os, J.bare, J.base, J.hok, rfl, q⟩
  | .brk, ⟨_, _, _, q⟩ => exact q.elim
  | .cont, ⟨_, _, _, q⟩ => exact q.elim

/-! ### what leaves a def -/
mutual
/-- no number of the store's from n on -/
def D.clos (n : Nat) : D → Bool
  | .tup ds => D.closs n ds
  | .lst ds => D.closs n ds
  | .frz ds => D.closs n ds
  | .cell i => decide (i < n)
  | _ => true
def D.closs (n : Nat) : List D → Bool
  | [] => true
  | d :: ds => D.clos n d && D.closs n ds
end
def Cell.clos (n : Nat) : Cell → Bool
  | .lst ds => D.closs n ds
  | .dct kvs => D.closs n (kvs.map (·.2))

mutual
/-- a value as the caller sees it: the lists that the def made by their items; x: the one that is not copied -/
def D.exp (n x : Nat) (S : Store) : D → Option D
  | .tup ds => (match D.exps n x S ds with | some es => some (.tup es) | none => none)
  | .lst ds => (match D.exps n x S ds with | some es => some (.lst es) | none => none)
  | .frz ds => if D.closs n ds then some (.frz ds) else none
  | .cell i => if i < n then some (.cell i) else if i = x then none else (match S[i]? with
    | some (.lst ds) => if D.closs n ds then some (.lst ds) else none
    | _ => none)
  | d => some d
def D.exps (n x : Nat) (S : Store) : List D → Option (List D)
  | [] => some []
  | d :: ds => (match D.exp n x S d with
    | some e => (match D.exps n x S ds with | some es => some (e :: es) | none => none)
    | none => none)
end
/-- the numbers are told anew: of those from n on at most the x-th stays -/
structure Mv (n' n x m : Nat) (φ ψ : Nat → Addr) : Prop where
  hn : n ≤ n'
  le : n ≤ m
  same : ∀ i, i < n → ψ i = φ i
  old : ∀ i, i < m → ∃ j, j < n' ∧ ψ i = φ j
  off : ∀ j, n ≤ j → j < n' → j ≠ x → ∀ i, i < m → φ j ≠ ψ i
section
variable {K : PySem.W.Frag} {R : Addr → Prop} {φ ψ : Nat → Addr} {S : Store} {H : Hp} {n n' x m : Nat}
mutual
theorem Rp.low (M : Mv n' n x m φ ψ) : ∀ {v : V} {d : D}, Rp K R n' φ H v d → d.clos n = true → Rp K R m ψ H v d
  | _, _, .non, _ => .non
  | _, _, .bl b, _ => .bl b
  | _, _, .int i, _ => .int i
  | _, _, .str x, _ => .str x
  | _, _, .tup h r, c => .tup h (Rps.low M r (by simpa only [D.clos] using c))
  | _, _, .klst h r, c => .klst h (Rps.low M r (by simpa only [D.clos] using c))
  | _, _, .frz h r, c => .frz h (Rps.low M r (by simpa only [D.clos] using c))
  | _, _, .lst h f k r, c => .lst h f (fun i hi e => by
      obtain ⟨j, hj, q⟩ := M.old i hi
      exact k j hj (e.trans q)) (Rps.low M r (by simpa only [D.clos] using c))
  | _, _, .cell (i := i) h, c => by
    have hi : i < n := by simpa only [D.clos, decide_eq_true_eq] using c
    rw [← M.same i hi]
    exact .cell (Nat.lt_of_lt_of_le hi M.le)
theorem Rps.low (M : Mv n' n x m φ ψ) : ∀ {vs : List V} {ds : List D}, Rps K R n' φ H vs ds → D.closs n ds = true → Rps K R m ψ H vs ds
  | _, _, .nil, _ => .nil
  | _, _, .cons h r, c => by
    simp only [D.closs, Bool.and_eq_true] at c
    exact .cons (Rp.low M h c.1) (Rps.low M r c.2)
end
mutual
theorem Rp.exp (g : Good K R φ H S) (M : Mv S.length n x m φ ψ) : ∀ {v : V} {d e : D}, Rp K R S.length φ H v d → d.exp n x S = some e → Rp K R m ψ H v e
  | _, _, _, .non, h => by cases h; exact .non
  | _, _, _, .bl b, h => by cases h; exact .bl b
  | _, _, _, .int i, h => by cases h; exact .int i
  | _, _, _, .str x, h => by cases h; exact .str x
  | _, _, _, .tup k r, h => by
    simp only [D.exp] at h
    split at h
    · rename_i e
      cases h
      exact .tup k (Rps.exp g M r e)
    · cases h
  | _, _, _, .klst k r, h => by
    simp only [D.exp] at h
    split at h
    · rename_i e
      cases h
      exact .klst k (Rps.low M r e)
    · cases h
  | _, _, _, .frz k r, h => by
    simp only [D.exp] at h
    split at h
    · rename_i e
      cases h
      exact .frz k (Rps.low M r e)
    · cases h
  | _, _, _, .lst k f c r, h => by
    simp only [D.exp] at h
    split at h
    · rename_i e
      cases h
      exact .lst k f (fun i hi e => by
        obtain ⟨j, hj, q⟩ := M.old i hi
        exact c j hj (e.trans q)) (Rps.exp g M r e)
    · cases h
  | _, _, _, .cell (i := i) hi, h => by
    simp only [D.exp] at h
    split at h
    · rename_i hin
      cases h
      rw [← M.same i hin]
      exact .cell (Nat.lt_of_lt_of_le hin M.le)
    · rename_i hin
      split at h
      · cases h
      · rename_i hx
        split at h
        · rename_i ee
          split at h
          · rename_i ec
            cases h
            obtain ⟨xs, e1, q⟩ := g.at_ _ _ ee
            exact .lst e1 (g.cof i hi) (M.off i (Nat.le_of_not_lt hin) hi hx) (Rps.low M q ec)
          · cases h
        · cases h
theorem Rps.exp (g : Good K R φ H S) (M : Mv S.length n x m φ ψ) : ∀ {vs : List V} {ds es : List D}, Rps K R S.length φ H vs ds → D.exps n x S ds = some es → Rps K R m ψ H vs es
  | _, _, _, .nil, h => by cases h; exact .nil
  | _, _, _, .cons r t, h => by
    simp only [D.exps] at h
    split at h
    · rename_i e1
      split at h
      · rename_i e2
        cases h
        exact .cons (Rp.exp g M r e1) (Rps.exp g M t e2)
      · cases h
    · cases h
end
theorem CellR.low (M : Mv n' n x m φ ψ) {a : Addr} {c : Cell} (q : CellR K R n' φ H a c) (h : Cell.clos n c = true) : CellR K R m ψ H a c := by
  cases c with
  | lst ds =>
    obtain ⟨xs, e1, r⟩ := q
    exact ⟨xs, e1, r.low M h⟩
  | dct kvs =>
    obtain ⟨ps, e1, ek, r⟩ := q
    exact ⟨ps, e1, ek, r.low M h⟩
/-- what the caller keeps: its own things -/
theorem Mv.none (g : Good K R φ H S) (hn : n ≤ S.length) (hx : S.length ≤ x) : Mv S.length n x n φ φ :=
  ⟨hn, Nat.le_refl _, fun _ _ => rfl, fun i hi => ⟨i, Nat.lt_of_lt_of_le hi hn, rfl⟩, fun j h1 h2 _ i hi e => by
    have := g.inj j i h2 (Nat.lt_of_lt_of_le hi hn) e
    omega⟩
/-- its own things, and one new one -/
theorem Mv.one (g : Good K R φ H S) (hn : n ≤ x) (hx : x < S.length) : Mv S.length n x (n + 1) φ (ext φ n (φ x)) := by
  refine ⟨by omega, Nat.le_succ _, fun i hi => ext_lt hi, fun i hi => ?_, fun j h1 h2 h3 i hi e => ?_⟩
  · by_cases h : i = n
    · subst h; exact ⟨x, hx, ext_at⟩
    · exact ⟨i, by omega, ext_lt (by omega)⟩
  · by_cases h : i = n
    · subst h
      rw [ext_at] at e
      exact h3 (g.inj j x h2 hx e)
    · rw [ext_lt (by omega)] at e
      have := g.inj j i h2 (by omega) e
      omega
theorem take_len (hn : n ≤ S.length) : (S.take n).length = n := by rw [List.length_take]; omega
/-- the store's first n things alone -/
theorem Good.cut (g : Good K R φ H S) (hn : n ≤ S.length) (hc : (S.take n).all (Cell.clos n) = true) : Good K R φ H (S.take n) := by
  have hl := take_len hn
  have M : Mv S.length n S.length n φ φ := .none g hn (Nat.le_refl _)
  refine ⟨fun i c e => ?_, fun i j hi hj e => g.inj i j (by omega) (by omega) e, g.off, fun i hi => g.cof i (by omega)⟩
  rw [hl]
  have hi : i < n := by
    have := (List.getElem?_eq_some_iff.mp e).1
    omega
  have ec := List.all_eq_true.mp hc c (List.mem_of_getElem? e)
  rw [List.getElem?_take_of_lt hi] at e
  exact (g.at_ i c e).low M ec
/-- and one new thing -/
theorem Good.cut1 {k : Cell} (g : Good K R φ H S) (hn : n ≤ x) (hx : x < S.length) (hc : (S.take n).all (Cell.clos n) = true) (hk : CellR K R (n + 1) (ext φ n (φ x)) H (φ x) k) : Good K R (ext φ n (φ x)) H (S.take n ++ [k]) := by
  have hl := take_len (show n ≤ S.length by omega)
  have hl2 : (S.take n ++ [k]).length = n + 1 := by simp [hl]
  have M := Mv.one g hn hx
  refine ⟨fun i c e => ?_, fun i j hi hj e => ?_, g.off, fun i hi => ?_⟩
  · rw [hl2]
    by_cases hi : i < n
    · rw [List.getElem?_append_left (by omega)] at e
      have ec := List.all_eq_true.mp hc c (List.mem_of_getElem? e)
      rw [List.getElem?_take_of_lt hi] at e
      rw [ext_lt hi]
      exact (g.at_ i c e).low M ec
    · have hi2 : i = n := by
        have := (List.getElem?_eq_some_iff.mp e).1
        omega
      subst hi2
      rw [List.getElem?_append_right (by omega), hl, Nat.sub_self] at e
      cases e
      rw [ext_at]
      exact hk
  · rw [hl2] at hi hj
    by_cases h1 : i = n
    · by_cases h2 : j = n
      · omega
      · subst h1
        rw [ext_at, ext_lt (by omega)] at e
        have := g.inj x j hx (by omega) e
        omega
    · by_cases h2 : j = n
      · subst h2
        rw [ext_at, ext_lt (by omega)] at e
        have := g.inj i x (by omega) hx e
        omega
      · rw [ext_lt (by omega), ext_lt (by omega)] at e
        exact g.inj i j (by omega) (by omega) e
  · rw [hl2] at hi
    by_cases h1 : i = n
    · subst h1; rw [ext_at]; exact g.cof x hx
    · rw [ext_lt (by omega)]; exact g.cof i (by omega)
end
/-- what the caller gets, and its store; b: a new list stays one that is changed -/
def expD (b : Bool) (n : Nat) (d : D) (S : Store) : Out D := guard' ((S.take n).all (Cell.clos n)) (match d with
  | .cell i => if i < n then ret (.cell i) (S.take n) else (match S[i]? with
    | some (.lst ds) => (match D.exps n i S ds with
      | some es => if b then ret (.cell n) (S.take n ++ [.lst es]) else if D.closs n ds then ret (.lst ds) (S.take n) else none
      | none => none)
    | some (.dct kvs) => (match D.exps n i S (kvs.map (·.2)) with
      | some es => ret (.cell n) (S.take n ++ [.dct ((kvs.map (·.1)).zip es)])
      | none => none)
    | none => none)
  | d => (match D.exp n S.length S d with
    | some e => ret e (S.take n)
    | none => none))
theorem zip_fst {α β : Type} : ∀ {a : List α} {b : List β}, a.length = b.length → (a.zip b).map (·.1) = a
  | [], [], _ => rfl
  | x :: a, y :: b, h => by
    rw [List.zip_cons_cons, List.map_cons, zip_fst (by simpa using h)]
  | [], _ :: _, h => by simp at h
  | _ :: _, [], h => by simp at h
theorem zip_snd {α β : Type} : ∀ {a : List α} {b : List β}, a.length = b.length → (a.zip b).map (·.2) = b
  | [], [], _ => rfl
  | x :: a, y :: b, h => by
    rw [List.zip_cons_cons, List.map_cons, zip_snd (by simpa using h)]
  | [], _ :: _, h => by simp at h
  | _ :: _, [], h => by simp at h
theorem exps_len {n x : Nat} {S : Store} : ∀ {ds es : List D}, D.exps n x S ds = some es → ds.length = es.length
  | [], _, h => by cases h; rfl
  | d :: ds, _, h => by
    simp only [D.exps] at h
    split at h
    · split at h
      · rename_i e
        cases h
        exact congrArg (· + 1) (exps_len e)
      · cases h
    · cases h
/-- the answer is handed over: from the def's end to the caller -/
theorem exp_ok {b : Bool} {c : Ct} {φ φ1 : Nat → Addr} {S S1 : Store} {H H1 : Hp} {Q : VK} {v : V} {d : D} {z : Rs D × Store} (h : expD b S.length d S1 = some z) (hp : Post c (RV c) φ S H Q z) (s : Step S.length φ H S1.length φ1 H1) (g : Good c.K c.R φ1 H1 S1) (r : Rp c.K c.R S1.length φ1 H1 v d) : Q v H1 := by
  unfold expD at h
  obtain ⟨hc, h⟩ := guard_ok h
  have hn : S.length ≤ S1.length := s.le
  have gc := g.cut hn hc
  have hl := take_len (S := S1) hn
  have M0 := Mv.none (x := S1.length) g hn (Nat.le_refl _)
  have s0 : Step S.length φ H S.length φ1 H1 := ⟨Nat.le_refl _, s.same, s.keep, s.dom, fun i h1 h2 => absurd h2 (Nat.not_lt.mpr h1), s.tups, s.frzs⟩
  have plain : ∀ e, d.exp S.length S1.length S1 = some e → z = (.ok e, S1.take S.length) → Q v H1 := fun e he ez => by
    subst ez
    refine hp v φ1 H1 (by rw [hl]; exact s0) gc ?_
    show Rp _ _ _ _ _ _ _
    rw [hl]
    exact r.exp g M0 he
  have ones : ∀ (i : Nat) (k : Cell), d = .cell i → S.length ≤ i → z = (.ok (.cell S.length), S1.take S.length ++ [k]) → (∀ (hi : i < S1.length), CellR c.K c.R (S.length + 1) (ext φ1 S.length (φ1 i)) H1 (φ1 i) k) → Q v H1 := fun i k ed hi ez hk => by
    subst ed
    subst ez
    cases r with
    | cell hx =>
      have hl2 : (S1.take S.length ++ [k]).length = S.length + 1 := by simp [hl]
      refine hp (.ref (φ1 i)) (ext φ1 S.length (φ1 i)) H1 ?_ (g.cut1 hi hx hc (hk hx)) ?_
      · rw [hl2]
        exact s0.toCell (s.fresh i hi hx)
      · show Rp _ _ _ _ _ _ _
        rw [hl2]
        have q : Rp c.K c.R (S.length + 1) (ext φ1 S.length (φ1 i)) H1 (.ref (ext φ1 S.length (φ1 i) S.length)) (.cell S.length) := .cell (Nat.lt_succ_self _)
        rwa [ext_at] at q
  cases d with
  | cell i =>
    simp only at h
    split at h
    · rename_i hin
      cases h
      exact plain _ (by simp only [D.exp, if_pos hin]) rfl
    · rename_i hin
      split at h
      · rename_i ds ee
        split at h
        · rename_i es ex
          split at h
          · cases h
            refine ones i _ rfl (Nat.le_of_not_lt hin) rfl fun hi => ?_
            obtain ⟨xs, e1, q⟩ := g.at_ _ _ ee
            exact ⟨xs, e1, q.exp g (Mv.one g (Nat.le_of_not_lt hin) hi) ex⟩
          · split at h
            · rename_i ec
              cases h
              have hx : i ≠ S1.length := fun e => by
                have := (List.getElem?_eq_some_iff.mp ee).1
                omega
              exact plain _ (by simp only [D.exp, if_neg hin, if_neg hx, ee, ec, if_true]) rfl
            · cases h
        · cases h
      · rename_i kvs ee
        split at h
        · rename_i es ex
          cases h
          refine ones i _ rfl (Nat.le_of_not_lt hin) rfl fun hi => ?_
          obtain ⟨ps, e1, ek, q⟩ := g.at_ _ _ ee
          have le : (kvs.map (·.1)).length = es.length := by rw [List.length_map, ← exps_len ex, List.length_map]
          refine ⟨ps, e1, by rw [zip_fst le]; exact ek, ?_⟩
          rw [zip_snd le]
          exact q.exp g (Mv.one g (Nat.le_of_not_lt hin) hi) ex
        · cases h
      · cases h
  | non => exact (by
      simp only [D.exp] at h
      cases h
      exact plain _ rfl rfl)
  | bl b => exact (by
      simp only [D.exp] at h
      cases h
      exact plain _ rfl rfl)
  | int b => exact (by
      simp only [D.exp] at h
      cases h
      exact plain _ rfl rfl)
  | str b => exact (by
      simp only [D.exp] at h
      cases h
      exact plain _ rfl rfl)
  | tup b =>
    simp only at h
    split at h
    · rename_i he
      cases h
      exact plain _ he rfl
    · cases h
  | lst b =>
    simp only at h
    split at h
    · rename_i he
      cases h
      exact plain _ he rfl
    · cases h
  | frz b =>
    simp only at h
    split at h
    · rename_i he
      cases h
      exact plain _ he rfl
    · cases h

/-! ### what a def answers, for our machine -/
/-- a def as our machine runs it: from its arguments and a store -/
abbrev Fn := List D → Store → Out D
/-- its promise -/
def spM (K : PySem.W.Frag) (cls : Str → Option Addr) (m : Nat) (f : Fn) : Sp := fun vs H Q E => ∃ R φ S ds r, Good K R φ H S ∧ Rps K R S.length φ H vs ds ∧ ds.length = m ∧ f ds S = some r ∧ Post ⟨K, R, cls, E⟩ (RV ⟨K, R, cls, E⟩) φ S H Q r
end Pv

/-! Pv, part K: defs and calls. -/
namespace Pv
open PySem PySem.Spec PyProof.Rows L2

/-- what leaves a body -/
def endF (b : Bool) (n : Nat) : Rs Fl × Store → Out D
  | (.ok (.rt d), S1) => expD b n d S1
  | (.ok (.nx _), S1) => expD b n .non S1
  | (.ex x, S1) => guard' ((S1.take n).all (Cell.clos n)) (match D.exps n S1.length S1 (x.fs.map (·.2)) with
    | some es => some (.ex ⟨x.cls, (x.fs.map (·.1)).zip es⟩, S1.take n)
    | none => none)
  | _ => none
/-- a body as a def; nl: how many names; b: the new list that it returns stays one that is changed -/
def defF (b : Bool) (nl : Nat) (body : SemS) : Fn := fun ds S => match body (ds.map some ++ List.replicate (nl - ds.length) none) S with
  | some r => endF b S.length r
  | none => none
theorem start_rep {K : PySem.W.Frag} {R : Addr → Prop} {n : Nat} {φ : Nat → Addr} {H : Hp} {vs : List V} {ds : List D} {N : List Str} (r : Rps K R n φ H vs ds) : EnvR K R n φ H (ds.map some ++ List.replicate (N.length - ds.length) none) (L2.start N vs) := by
  have hl := r.length
  refine ⟨by simp [L2.start, hl], fun i d h => ?_⟩
  by_cases hi : i < ds.length
  · rw [List.getElem?_append_left (by simpa using hi), List.getElem?_map] at h
    cases e : ds[i]? with
    | none => rw [e] at h; cases h
    | some d' =>
      rw [e] at h
      cases h
      obtain ⟨v, h1, h2⟩ := r.get e
      refine ⟨v, ?_, h2⟩
      unfold L2.start
      rw [List.getElem?_append_left (by simp; omega), List.getElem?_map, h1]
      rfl
  · rw [List.getElem?_append_right (by simpa using hi), List.getElem?_replicate] at h
    split at h <;> cases h
/-- from a body's end to the def's -/
theorem end_ok {b : Bool} {c : Ct} {φ : Nat → Addr} {S : Store} {H : Hp} {Q : VK} {r : Rs Fl × Store} {z : Rs D × Store} (h : endF b S.length r = some z) (hp : Post c (RV c) φ S H Q z) : PostF c φ S H { nx := fun _ H' => Q .non H', rt := Q } r := by
  obtain ⟨r, S1⟩ := r
  cases r with
  | ex x =>
    unfold endF at h
    obtain ⟨hc, h⟩ := guard_ok h
    split at h
    · rename_i es ex
      cases h
      intro cl o φ' H' s g hx
      have hn : S.length ≤ S1.length := s.le
      have hl := take_len (S := S1) hn
      have M0 := Mv.none (x := S1.length) g hn (Nat.le_refl _)
      refine hp cl o φ' H' ?_ (g.cut hn hc) ?_
      · rw [hl]
        exact ⟨Nat.le_refl _, s.same, s.keep, s.dom, fun i h1 h2 => absurd h2 (Nat.not_lt.mpr h1), s.tups, s.frzs⟩
      · obtain ⟨C, d, fs, e1, e2, e3, e4, e5, q⟩ := hx
        have le : (x.fs.map (·.1)).length = es.length := by rw [List.length_map, ← exps_len ex, List.length_map]
        rw [hl]
        exact ⟨C, d, fs, e1, e2, e3, e4, by rw [zip_fst le]; exact e5, by rw [zip_snd le]; exact q.exp g M0 ex⟩
    · cases h
  | ok fl =>
    cases fl with
    | rt d => exact fun v φ' H' s g rv => exp_ok h hp s g rv
    | nx ρ =>
      have h : expD b S.length .non S1 = some z := h
      exact fun σ φ' H' s g _ => exp_ok (v := .non) h hp s g .non
    | bk ρ => cases h
    | ct ρ => cases h
/-- a def of the text keeps its promise, by its body -/
theorem FnG.ofM {P : Program} {w : World} {K : PySem.W.Frag} {mg : Str → Option Value} {base : Heap} {k : Nat} {f : Addr} {x qual : Str} {params : Arguments} {body : List Stmt} {scope : Scope} {dvs : List V} {kws : List (Str × V)} {fd : FuncData} {N ps : List Str} {cls : Str → Option Addr} {b : Bool} {fb : SemS}
    (D : FunD K x qual params body scope dvs kws f fd) (S : FnScope N ps scope)
    (hbody : ∀ (cdv : Value) (A : Around) (outer : List PySem.Env) (s : Shared) (H : Hp) (R : Addr → Prop) (E : XK), Room k (A.deeper (envOfC qual scope s.heap.objs.size f cdv)) → A.guards = some [] →
      PSs (cxOf (L2.CX P w) P w K mg base N qual scope f cdv A outer s H E) body (mT ⟨K, R, cls, E⟩ fb)) : FnG P w K mg base (L2.CX P w) (k + 1) f fd ps (spM K cls ps.length (defF b N.length fb)) := by
  refine FnG.of D S (fun vs H Q E ⟨R, φ, S0, ds, r, _, rp, hl, _, _⟩ => rp.length.trans hl) fun cdv A outer s H vs Q E room gd ⟨R, φ, S0, ds, r, g, rp, hl, hf, hp⟩ => ?_
  unfold defF at hf
  split at hf
  · rename_i z e
    exact ⟨_, hbody cdv A outer s H R E room gd, φ, S0, _, z, g, start_rep rp, e, end_ok (c := ⟨K, R, cls, E⟩) hf hp⟩
  · cases hf

/-! ### calls -/
def eCall (F : Fn) (dd : List D) (fs : Env → Store → Out (List D)) (ρ : Env) (S : Store) : Out D := bnd (fs ρ S) fun ds S1 => F (ds ++ dd) S1
/-- values that lie everywhere alike -/
def Pure' (K : PySem.W.Frag) (vs : List V) (ds : List D) : Prop := ∀ (R : Addr → Prop) (n : Nat) (φ : Nat → Addr) (H : Hp), Rps K R n φ H vs ds
theorem Pure'.nil {K : PySem.W.Frag} : Pure' K [] [] := fun _ _ _ _ => .nil
section
variable {X : Cx} {c : Ct} {m k : Nat} {F : Fn} {f : Addr} {fd : FuncData} {ps : List Str} {dvs : List V} {dd : List D} {ds : List Value} {x : Str} {p pos : Pos} {e : Expr} {es : List Expr} {fs : Env → Store → Out (List D)}
theorem call_mono (hd : Pure' c.K dvs dd) (hm : ∀ (ds : List D) S z, F ds S = some z → ds.length = m) {σ : L2.St} {H : Hp} {Q : VK} (h : mE c (eCall F dd fs) σ H Q) : tCall (spM c.K c.cls m F) dvs c.E (mA c fs) σ H Q := by
  obtain ⟨φ, S, ρ, z, hg, hr, hf, hp⟩ := h
  exact Wp.fst (rel := RL c) hg hr hf hp fun ds S1 vs φ1 H1 s1 g1 e1 r1 hf1 hp1 => ⟨c.R, φ1, S1, ds ++ dd, z, g1, r1.append (hd c.R S1.length φ1 H1), hm _ _ _ hf1, hf1, hp1⟩
theorem call0_mono (hd : Pure' c.K dvs dd) (hm : ∀ (ds : List D) S z, F ds S = some z → ds.length = m) {σ : L2.St} {H : Hp} {Q : VK} (h : mE c (eCall F dd fs) σ H Q) (hfs : fs = eNil) : tCall (spM c.K c.cls m F) dvs c.E tNil σ H Q := by
  subst hfs
  obtain ⟨φ, S, ρ, z, hg, hr, hf, hp⟩ := h
  exact ⟨c.R, φ, S, dd, z, hg, hd c.R S.length φ H, hm _ _ _ hf, hf, hp⟩
end
/-- with the count of its arguments -/
def ar (m : Nat) (F : Fn) : Fn := fun ds S => guard' (ds.length == m) (F ds S)
theorem ar_len {m : Nat} {F : Fn} {ds : List D} {S : Store} {z : Rs D × Store} (h : ar m F ds S = some z) : ds.length = m := by
  obtain ⟨h, _⟩ := guard_ok h
  exact by simpa using h
/-- a def that is there: where it lies, its promise, its defaults -/
structure FnC (P : Program) (w : World) (K : PySem.W.Frag) (mg : Str → Option Value) (base : Heap) (cls : Str → Option Addr) (k : Nat) (x : Str) (m : Nat) (F : Fn) (dd : List D) : Prop where
  ex : ∃ (f : Addr) (fd : FuncData) (ps : List Str) (dvs : List V) (ds : List Value), FnG P w K mg base (L2.CX P w) k f fd ps (spM K cls m F) ∧ mg x = some (.ref f) ∧ PySem.W.keepIn K (.ref f) = true ∧ Binds K fd ps ds ∧ Vals dvs ds ∧ Pure' K dvs dd
section
variable {X : Cx} {c : Ct} {m k : Nat} {F : Fn} {dd : List D} {x : Str} {p pos : Pos} {e : Expr} {es : List Expr} {fs : Env → Store → Out (List D)} {P : Program} {w : World} {K : PySem.W.Frag} {mg : Str → Option Value} {base : Heap} {cls : Str → Option Addr}
theorem spM_ar {vs : List V} {H : Hp} {Q : VK} {E : XK} (h : spM K cls m (ar m F) vs H Q E) : spM K cls m F vs H Q E := by
  obtain ⟨R, φ, S, ds, r, g, rp, hl, hf, hp⟩ := h
  exact ⟨R, φ, S, ds, r, g, rp, hl, (guard_ok hf).2, hp⟩
theorem m_call (C : FnC X.prog X.w X.K X.mg X.base c.cls k x m F dd) (hK : c.K = X.K) (room : Room k X.A) (hgd : X.A.guards = some []) (glob : Gl X x) (pass : Passes (L2.CX X.prog X.w) X c.E) (args : PA X (e :: es) (mA c fs))
    (hdb : (x == ("__debug__" : Str)) = false) (he : starEach (e :: es) X.env = (false, eval e X.env) :: starEach es X.env) (hpl : (backTo pos (starEach es X.env)).any (·.1) = false) : PE X (.Call (.Name x p) (e :: es) [] pos) (mE c (eCall (ar m F) dd fs)) := by
  obtain ⟨f, fd, ps, dvs, ds, G, at_, kp, bind, hdv, hpu⟩ := C.ex
  refine pe_weak (pe_callG G room hgd glob at_ kp bind hdv pass args hdb he hpl) fun σ H Q h => ?_
  have q := call_mono (m := m) (by rw [hK]; exact hpu) (fun ds S z h => ar_len h) h
  rw [hK] at q
  obtain ⟨φ, S, ρ, r, a1, a2, a3, a4⟩ := q
  refine ⟨φ, S, ρ, r, a1, a2, a3, ?_⟩
  obtain ⟨r, S'⟩ := r
  cases r with
  | ok ds => exact fun vs φ' H' s g rv => spM_ar (a4 vs φ' H' s g rv)
  | ex z => exact a4
theorem m_call0 (C : FnC X.prog X.w X.K X.mg X.base c.cls k x m F dd) (hK : c.K = X.K) (room : Room k X.A) (hgd : X.A.guards = some []) (glob : Gl X x) (pass : Passes (L2.CX X.prog X.w) X c.E)
    (hdb : (x == ("__debug__" : Str)) = false) : PE X (.Call (.Name x p) [] [] pos) (mE c (eCall (ar m F) dd eNil)) := by
  obtain ⟨f, fd, ps, dvs, ds, G, at_, kp, bind, hdv, hpu⟩ := C.ex
  refine pe_weak (pe_callG0 G room hgd glob at_ kp bind hdv pass hdb) fun σ H Q h => ?_
  have q := call0_mono (m := m) (by rw [hK]; exact hpu) (fun ds S z h => ar_len h) h rfl
  rw [hK] at q
  exact spM_ar q
/-- what a callee lets out, in a def's own body -/
theorem pass_def {N : List Str} {qual : Str} {scope : Scope} {f : Addr} {cd : Value} {A : Around} {outer : List PySem.Env} {s : Shared} {H : Hp} {E : XK} : Passes (L2.CX P w) (cxOf (L2.CX P w) P w K mg base N qual scope f cd A outer s H E) E :=
  passes_call (takes_of (X := cxOf (L2.CX P w) P w K mg base N qual scope f cd A outer s H E) rfl rfl rfl rfl) fun _ _ _ _ h => h
/-- in a comprehension: nothing -/
theorem pass_none : Passes (L2.CX X.prog X.w) X E0 := fun pins σ H s e s' I h => by
  obtain ⟨_, _, _, _, _, _, _, _, _, _, _, _, z⟩ := h
  exact z.elim
end
end Pv

/-! Pv, part L: built-in calls by name, texts, isinstance, dicts. -/
namespace Pv
open PySem PySem.Spec PyProof.Rows L2 PySem.Calls

section
variable {X : Cx} {c : Ct} {x : Str} {p pos : Pos} {e : Expr} {es : List Expr} {id T : String} {r : List V → Hp → VK → Prop} {o : List D → Store → Out D} {fs : Env → Store → Out (List D)}
theorem m_callB (hm' : BlM c r o) (hc : CallR X (.builtin id) r) (hg : Gl X x) (hm : X.mg x = none) (hv : bootBuiltins x = some (.builtin id)) (ha : PA X (e :: es) (mA c fs)) (hn : x ≠ "__name__") (hdb : (x == ("__debug__" : Str)) = false)
    (he : starEach (e :: es) X.env = (false, eval e X.env) :: starEach es X.env) (hpl : (backTo pos (starEach es X.env)).any (·.1) = false) : PE X (.Call (.Name x p) (e :: es) [] pos) (mE c (eBl o fs)) :=
  pe_weak (pe_callB hc hg hm hv ha hn hdb he hpl) fun _ _ _ => m_bl_ hm'
theorem m_callTy (hm' : BlM c r o) (hc : CallR X (.type T) r) (hg : Gl X x) (hm : X.mg x = none) (hv : bootBuiltins x = some (.type T)) (ha : PA X (e :: es) (mA c fs)) (hn : x ≠ "__name__") (hdb : (x == ("__debug__" : Str)) = false)
    (he : starEach (e :: es) X.env = (false, eval e X.env) :: starEach es X.env) (hpl : (backTo pos (starEach es X.env)).any (·.1) = false) : PE X (.Call (.Name x p) (e :: es) [] pos) (mE c (eBl o fs)) :=
  pe_weak (pe_callTy hc hg hm hv ha hn hdb he hpl) fun _ _ _ => m_bl_ hm'
/-- the same, a list that comes out is a new one -/
theorem s_callTy (hm' : ∀ (φ : Nat → Addr) (S : Store) (H : Hp) (Q : VK) (xs : List V) (ds : List D) (z : Rs D × Store), Good c.K c.R φ H S → Rps c.K c.R S.length φ H xs ds → o ds S = some z → PostS c φ S H Q z → r xs H Q) (hc : CallR X (.type T) r) (hg : Gl X x) (hm : X.mg x = none) (hv : bootBuiltins x = some (.type T)) (ha : PA X (e :: es) (mA c fs)) (hn : x ≠ "__name__") (hdb : (x == ("__debug__" : Str)) = false)
    (he : starEach (e :: es) X.env = (false, eval e X.env) :: starEach es X.env) (hpl : (backTo pos (starEach es X.env)).any (·.1) = false) : PE X (.Call (.Name x p) (e :: es) [] pos) (mS c (eBl o fs)) :=
  pe_weak (pe_callTy hc hg hm hv ha hn hdb he hpl) fun _ _ _ => s_bl hm'
/-- a constant of the module -/
theorem m_glob {v : V} {d : D} {u : Value} (hd : ∀ n φ H, Rp c.K c.R n φ H v d) (hg : Gl X x) (hm : X.mg x = some u) (hr : RelV v u) (hdb : (x == ("__debug__" : Str)) = false) : PE X (.Name x pos) (mE c (eC d)) :=
  pe_weak (pe_glob hg hm hr hdb) fun σ H Q h => Wp.con (b := v) h fun n φ => hd n φ H
theorem m_globI {i : Int} {t : Tok} (hg : Gl X x) (hm : X.mg x = some (.int i t)) (hdb : (x == ("__debug__" : Str)) = false) : PE X (.Name x pos) (mE c (eC (.int i))) := m_glob (v := .int i) (fun _ _ _ => .int i) hg hm ⟨t, rfl⟩ hdb
theorem m_globS {i : Str} {t : Tok} (hg : Gl X x) (hm : X.mg x = some (.str i t)) (hdb : (x == ("__debug__" : Str)) = false) : PE X (.Name x pos) (mE c (eC (.str i))) := m_glob (v := .str i) (fun _ _ _ => .str i) hg hm ⟨t, rfl⟩ hdb
end

/-! ### methods of a text with one argument -/
/-- texts -/
def strsD : List D → Option (List Str)
  | [] => some []
  | .str y :: r => (strsD r).map (y :: ·)
  | _ :: _ => none
theorem strs_ok {K : PySem.W.Frag} {R : Addr → Prop} {n : Nat} {φ : Nat → Addr} {H : Hp} : ∀ {vs : List V} {ds : List D} {ys : List Str}, Rps K R n φ H vs ds → strsD ds = some ys → vs = ys.map V.str
  | _, [], _, .nil, h => by cases h; rfl
  | _, d :: r, _, .cons rv rs, h => by
    cases rv with
    | str b =>
      simp only [strsD] at h
      cases e : strsD r with
      | none => rw [e] at h; cases h
      | some bs =>
        rw [e] at h
        cases h
        rw [strs_ok rs e]
        rfl
    | _ => cases h
theorem strs_len {ds : List D} : ∀ {ys : List Str}, strsD ds = some ys → ds.length = ys.length := by
  induction ds with
  | nil => intro ys h; cases h; rfl
  | cons d r ih =>
    intro ys h
    cases d with
    | str y =>
      simp only [strsD] at h
      cases e : strsD r with
      | none => rw [e] at h; cases h
      | some bs =>
        rw [e] at h
        cases h
        exact congrArg (· + 1) (ih e)
    | _ => cases h
def isStr : D → Bool
  | .str _ => true
  | _ => false
theorem isStr_ok {K : PySem.W.Frag} {R : Addr → Prop} {n : Nat} {φ : Nat → Addr} {H : Hp} {v : V} {d : D} (r : Rp K R n φ H v d) (h : isStr d = true) : ∃ a, v = .str a := by
  cases r with
  | str a => exact ⟨a, rfl⟩
  | _ => cases h
def eM1 (o : D → D → Store → Out D) (f g : Env → Store → Out D) (ρ : Env) (S : Store) : Out D := bnd (f ρ S) fun x S1 => guard' (isStr x) (bnd (g ρ S1) fun y S2 => o x y S2)
def M1M (c : Ct) (r : V → List V → Hp → VK → Prop) (o : D → D → Store → Out D) : Prop := ∀ (φ : Nat → Addr) (S : Store) (H : Hp) (Q : VK) (x y : V) (a b : D) (z : Rs D × Store),
  Good c.K c.R φ H S → Rp c.K c.R S.length φ H x a → Rp c.K c.R S.length φ H y b → o a b S = some z → Post c (RV c) φ S H Q z → r x [y] H Q
theorem m1_mono {c : Ct} {r : V → List V → Hp → VK → Prop} {o : D → D → Store → Out D} {f g : Env → Store → Out D} (hm : M1M c r o) {σ : L2.St} {H : Hp} {Q : VK} (h : mE c (eM1 o f g) σ H Q) : tM1 r (mE c f) (mE c g) σ H Q := by
  obtain ⟨φ, S, ρ, z, hg, he, hf, hp⟩ := h
  refine Wp.fst hg he hf hp fun x S1 v φ1 H1 s1 g1 e1 r1 hf1 hp1 => ?_
  obtain ⟨hs, hf1⟩ := guard_ok hf1
  exact ⟨isStr_ok r1 hs, Wp.fst g1 e1 hf1 hp1 fun y S2 w φ2 H2 s2 g2 e2 r2 hf2 hp2 => hm φ2 S2 H2 Q v w x y z g2 (Rp.step s2 r1) r2 hf2 hp2⟩
theorem m_m1 {X : Cx} {c : Ct} {r : V → List V → Hp → VK → Prop} {oo : D → D → Store → Out D} {f g : Env → Store → Out D} {o e : Expr} {id : String} {name : Str} {apos pos : Pos} (hm : M1M c r oo) (slot : Slot "str" name id) (ty : typeOf (.builtin id) = pure (.type "method_descriptor")) (rule : MtR X id r) (ho : PE X o (mE c f)) (he : PE X e (mE c g))
    (hs : starEach [e] X.env = [(false, eval e X.env)]) (hbase : attributeBase o name X.env (eval o X.env) = eval o X.env) (hline : (apos.endLine == pos.line) = true) :
    PE X (.Call (.Attribute o name apos) [e] [] pos) (mE c (eM1 oo f g)) := pe_weak (pe_m1 slot ty rule ho he hs hbase hline) fun _ _ _ => m1_mono hm
/-- a sequence's items -/
def asQ (S : Store) : D → Option (List D)
  | .tup ds => some ds
  | d => asL S d
theorem asQ_ok {c : Ct} {φ : Nat → Addr} {S : Store} {H : Hp} {x : V} {a : D} {ds : List D} (g : Good c.K c.R φ H S) (r : Rp c.K c.R S.length φ H x a) (h : asQ S a = some ds) : ∃ p xs, x = .ref p ∧ (SqL c.K H p xs ∨ SqT c.K H p xs) ∧ Rps c.K c.R S.length φ H xs ds := by
  have main : asL S a = some ds → ∃ p xs, x = .ref p ∧ (SqL c.K H p xs ∨ SqT c.K H p xs) ∧ Rps c.K c.R S.length φ H xs ds := fun h => by
    obtain ⟨p, xs, e, k, q⟩ := asL_ok g r h
    exact ⟨p, xs, e, .inl k, q⟩
  cases r with
  | tup k q => cases h; exact ⟨_, _, rfl, .inr k, q⟩
  | non => exact main h
  | bl _ => exact main h
  | int _ => exact main h
  | str _ => exact main h
  | klst k q => exact main h
  | frz k q => exact main h
  | lst k f w q => exact main h
  | cell hi => exact main h
def oJoin (a b : D) (S : Store) : Out D := match a with
  | .str s => (match asQ S b with
    | some ds => (match strsD ds with
      | some ys => guard' (decide ((ys.map (·.length)).sum + ys.length * s.length ≤ line)) (ret (.str (Txt.join s ys)) S)
      | none => none)
    | none => none)
  | _ => none
def rJoinM (K : PySem.W.Frag) : V → List V → Hp → VK → Prop := fun x xs H Q => ∃ a p, ∃ ys : List Str, x = .str a ∧ xs = [.ref p] ∧ (SqL K H p (ys.map V.str) ∨ SqT K H p (ys.map V.str)) ∧ (ys.map (·.length)).sum + ys.length * a.length ≤ 16777216 ∧ Q (.str (Txt.join a ys)) H
theorem m1_join {c : Ct} : M1M c (rJoinM c.K) oJoin := by
  intro φ S H Q x y a b z g rx ry h hp
  unfold oJoin at h
  split at h
  · cases rx
    split at h
    · rename_i e
      split at h
      · rename_i e2
        obtain ⟨hl, h⟩ := guard_ok h
        cases h
        obtain ⟨p, xs, rfl, k, q⟩ := asQ_ok g ry e
        have ex := strs_ok q e2
        subst ex
        exact ⟨_, _, _, rfl, rfl, k, Nat.le_trans (of_decide_eq_true hl) (by decide), hp.now g (.str _)⟩
      · cases h
    · cases h
  · cases h
theorem m_join {X : Cx} {c : Ct} {f g : Env → Store → Out D} {o e : Expr} {apos pos : Pos} (hK : c.K = X.K) (ho : PE X o (mE c f)) (he : PE X e (mE c g)) (hs : starEach [e] X.env = [(false, eval e X.env)]) (hbase : attributeBase o "join" X.env (eval o X.env) = eval o X.env) (hline : (apos.endLine == pos.line) = true) :
    PE X (.Call (.Attribute o "join" apos) [e] [] pos) (mE c (eM1 oJoin f g)) := pe_weak (pe_join ho he hs hbase hline) fun _ _ _ h => by
  rw [← hK]
  exact m1_mono m1_join h
def oZfill (a b : D) (S : Store) : Out D := match a, b with
  | .str s, .int i => guard' (PadOk i) (ret (.str (Txt.zfill s i)) S)
  | _, _ => none
theorem m1_zfill {c : Ct} : M1M c (fun x xs H Q => ∃ (a : Str) (i : Int), x = .str a ∧ xs = [.int i] ∧ PadOk i = true ∧ Q (.str (Txt.zfill a i)) H) oZfill := by
  intro φ S H Q x y a b z g rx ry h hp
  unfold oZfill at h
  split at h
  · cases rx
    cases ry
    obtain ⟨hl, h⟩ := guard_ok h
    cases h
    exact ⟨_, _, rfl, rfl, hl, hp.now g (.str _)⟩
  · cases h
theorem m_zfill {X : Cx} {c : Ct} {f g : Env → Store → Out D} {o e : Expr} {apos pos : Pos} (ho : PE X o (mE c f)) (he : PE X e (mE c g)) (hs : starEach [e] X.env = [(false, eval e X.env)]) (hbase : attributeBase o "zfill" X.env (eval o X.env) = eval o X.env) (hline : (apos.endLine == pos.line) = true) :
    PE X (.Call (.Attribute o "zfill" apos) [e] [] pos) (mE c (eM1 oZfill f g)) := m_m1 m1_zfill PySem.F.slot_str_zfill PySem.F.type_str_zfill mt_zfill ho he hs hbase hline

/-! ### f-strings -/
def oFmt (d : D) (S : Store) : Out D := match d with
  | .str y => guard' (decide (y.length ≤ line)) (ret (.str y) S)
  | .int i => guard' (decide (i.natAbs.log2 < 1920)) (ret (.str (toString i)) S)
  | _ => none
theorem m_fmt {X : Cx} {c : Ct} {f : Env → Store → Out D} {e : Expr} {pos : Pos} (he : PE X e (mE c f)) : PE X (.FormattedValue e (-1) none pos) (mE c (eUn oFmt f)) := by
  refine pe_weak (pe_fmt he) fun σ H Q ⟨φ, S, ρ, z, hg, hr, hf, hp⟩ => ?_
  refine Wp.fst hg hr hf hp fun d S1 v φ1 H1 s1 g1 e1 r1 hf1 hp1 => ?_
  unfold oFmt at hf1
  split at hf1
  · cases r1
    obtain ⟨hl, hf1⟩ := guard_ok hf1
    cases hf1
    exact .inl ⟨_, rfl, line_ok hl, hp1.now g1 (.str _)⟩
  · cases r1
    obtain ⟨hl, hf1⟩ := guard_ok hf1
    cases hf1
    exact .inr ⟨_, rfl, of_decide_eq_true hl, hp1.now g1 (.str _)⟩
  · cases hf1
def jsK (y : D) (acc : Str) (S : Store) (k : Str → Store → Out D) : Out D := match y with
  | .str y => guard' (decide ((acc ++ y).length ≤ line)) (k (acc ++ y) S)
  | _ => none
def eJs : List (Env → Store → Out D) → Str → Env → Store → Out D
  | [], acc, _, S => ret (.str acc) S
  | f :: fs, acc, ρ, S => bnd (f ρ S) fun d S1 => jsK d acc S1 fun a S2 => eJs fs a ρ S2
theorem js_mono {c : Ct} : ∀ (fs : List (Env → Store → Out D)) (acc : Str) {σ : L2.St} {H : Hp} {Q : VK}, mE c (eJs fs acc) σ H Q → tJs (fs.map (mE c)) acc σ H fun out H1 => Q (.str out) H1
  | [], acc, σ, H, Q, h => by
    obtain ⟨φ, S, ρ, z, hg, he, hf, hp⟩ := h
    cases hf
    exact hp.now hg (.str _)
  | f :: fs, acc, σ, H, Q, h => by
    obtain ⟨φ, S, ρ, z, hg, he, hf, hp⟩ := h
    refine Wp.fst hg he hf hp fun d S1 v φ1 H1 s1 g1 e1 r1 hf1 hp1 => ?_
    unfold jsK at hf1
    split at hf1
    · cases r1
      obtain ⟨hl, hf1⟩ := guard_ok hf1
      exact ⟨_, rfl, line_ok hl, js_mono fs _ ⟨φ1, S1, ρ, z, g1, e1, hf1, hp1⟩⟩
    · cases hf1
theorem m_joined {X : Cx} {c : Ct} {v1 v2 : Expr} {rest : List Expr} {f1 f2 : Env → Store → Out D} {fs : List (Env → Store → Out D)} {pos : Pos} (h : PJ X (v1 :: v2 :: rest) ((f1 :: f2 :: fs).map (mE c))) : PE X (.JoinedStr (v1 :: v2 :: rest) pos) (mE c (eJs (f1 :: f2 :: fs) Str.empty)) :=
  pe_weak (pe_joined h) fun _ _ _ h => js_mono _ _ h
theorem m_joined1 {X : Cx} {c : Ct} {e : Expr} {f : Env → Store → Out D} {pos : Pos} (he : PE X e (mE c f)) : PE X (.JoinedStr [e] pos) (mE c f) := pe_joined1 he

/-! ### isinstance of built-in types -/
/-- the name of a value's type -/
def tyD (S : Store) : D → Option String
  | .non => some "NoneType"
  | .bl _ => some "bool"
  | .int _ => some "int"
  | .str _ => some "str"
  | .tup _ => some "tuple"
  | .lst _ => some "list"
  | .frz _ => some "list"
  | .cell i => (match S[i]? with
    | some (.lst _) => some "list"
    | some (.dct _) => some "dict"
    | none => none)
theorem ty_ok {c : Ct} {φ : Nat → Addr} {S : Store} {H : Hp} {x : V} {a : D} {n : String} (g : Good c.K c.R φ H S) (r : Rp c.K c.R S.length φ H x a) (h : tyD S a = some n) : TyX c.K H x (.type n) := by
  cases r with
  | non => cases h; exact .base .non
  | bl b => cases h; exact .base (.bl b)
  | int b => cases h; exact .base (.int b)
  | str b => cases h; exact .base (.str b)
  | tup k q =>
    cases h
    rcases k with (k | ⟨o, k⟩) | ⟨o, its, m, k, hc, _⟩
    · exact .base (.tup k)
    · exact .fTuple k
    · exact .kTuple k hc
  | lst k f w q => cases h; exact .base (.lst k)
  | frz k q => cases h; exact .base (.frz k)
  | klst k q =>
    cases h
    obtain ⟨o, its, m, k, hc, _⟩ := k
    exact .kList k hc
  | cell hi =>
    simp only [tyD] at h
    split at h
    · rename_i e
      cases h
      obtain ⟨xs, e1, _⟩ := g.at_ _ _ e
      exact .base (.lst e1)
    · rename_i e
      cases h
      obtain ⟨xs, e1, _⟩ := g.at_ _ _ e
      exact .base (.dK e1)
    · cases h
def oIsi (T : String) (d : D) (S : Store) : Out D := match tyD S d with
  | some n => (match kitB n T with
    | some b => ret (.bl b) S
    | none => none)
  | none => none
theorem m_isi {X : Cx} {c : Ct} {f : Env → Store → Out D} {e : Expr} {T : String} {t : Str} {p p2 pos : Pos} (hK : c.K = X.K) (he : PE X e (mE c f)) (hg : Gl X "isinstance") (hm : X.mg "isinstance" = none) (hgT : Gl X t) (hmT : X.mg t = none) (hv : bootBuiltins t = some (.type T)) (hn : t ≠ "__name__") (hdb : (t == ("__debug__" : Str)) = false)
    (hs : starEach (e :: [.Name t p2]) X.env = (false, eval e X.env) :: starEach [.Name t p2] X.env) (hpl : (backTo pos (starEach [.Name t p2] X.env)).any (·.1) = false) : PE X (.Call (.Name "isinstance" p) [e, .Name t p2] [] pos) (mE c (eUn (oIsi T) f)) := by
  have hT : PE X (.Name t p2) (tC (.ty T)) := pe_bltn hgT hmT hv rfl hn hdb
  have ha : PA X [e, .Name t p2] (tCons (mE c f) (tCons (tC (.ty T)) tNil)) := pa_cons he (pa_cons hT pa_nil) (hs := hs)
  refine pe_weak (pe_callB (id := "isinstance") call_isi hg hm PyProof.Rows.boot_isinstance ha (by decide) (by decide) (he := hs) (hpl := hpl)) fun σ H Q ⟨φ, S, ρ, z, hg, hr, hf, hp⟩ => ?_
  refine Wp.fst hg hr hf hp fun d S1 v φ1 H1 s1 g1 e1 r1 hf1 hp1 => ?_
  unfold oIsi at hf1
  split at hf1
  · rename_i n en
    split at hf1
    · rename_i b eb
      cases hf1
      exact ⟨v, .ty T, .type n, .type T, b, rfl, .ty T, by rw [← hK]; exact ty_ok g1 r1 en, kit_ty eb, hp1.now g1 (.bl _)⟩
    · cases hf1
  · cases hf1

/-! ### sorted texts -/
def leS (a b : Str) : Bool := decide (a.cps.toList ≤ b.cps.toList)
/-- in order -/
def srtS (ys : List Str) : List Str := ys.mergeSort leS
theorem leS_trans (a b c : Str) (h1 : leS a b = true) (h2 : leS b c = true) : leS a c = true := by
  unfold leS at *
  rw [decide_eq_true_eq] at *
  exact List.le_trans h1 h2
theorem leS_total (a b : Str) : (leS a b || leS b a) = true := by
  unfold leS
  rw [Bool.or_eq_true, decide_eq_true_eq, decide_eq_true_eq]
  exact List.le_total _ _
theorem leS_anti {a b : Str} (h1 : leS a b = true) (h2 : leS b a = true) : a = b := by
  unfold leS at *
  rw [decide_eq_true_eq] at *
  obtain ⟨⟨l1⟩⟩ := a
  obtain ⟨⟨l2⟩⟩ := b
  have : l1 = l2 := List.le_antisymm h1 h2
  rw [this]
theorem rising_pair : ∀ {l : List Str} {p : Str}, risingS p l = true → (p :: l).Pairwise (fun a b => leS a b = true)
  | [], p, _ => by simp
  | x :: r, p, h => by
    simp only [risingS, Bool.and_eq_true, Bool.not_eq_true', ltCps_eq, decide_eq_false_iff_not] at h
    obtain ⟨h1, h2⟩ := h
    have q := rising_pair h2
    have hpx : leS p x = true := by
      unfold leS
      rw [decide_eq_true_eq]
      exact h1
    refine List.pairwise_cons.mpr ⟨fun y hy => ?_, q⟩
    rcases List.mem_cons.mp hy with e | hy
    · rw [e]; exact hpx
    · exact leS_trans _ _ _ hpx ((List.pairwise_cons.mp q).1 y hy)
theorem srt_uniq {ys zs : List Str} (hp : zs.Perm ys) (hs : sortedS zs = true) : zs = srtS ys := by
  have h1 : zs.Pairwise (fun a b => leS a b = true) := by
    cases zs with
    | nil => exact .nil
    | cons x r => exact rising_pair hs
  have h2 : (srtS ys).Pairwise (fun a b => leS a b = true) := List.pairwise_mergeSort leS_trans leS_total ys
  exact List.Perm.eq_of_pairwise (fun a b _ _ => leS_anti) h1 h2 (hp.trans (List.mergeSort_perm ys leS).symm)
def oSorted (ds : List D) (S : Store) : Out D := match ds with
  | [d] => (match asL S d with
    | some ds => (match strsD ds with
      | some ys => guard' (decide (ys.length < 64)) (ret (.lst ((srtS ys).map D.str)) S)
      | none => none)
    | none => none)
  | _ => none
theorem rps_strs {K : PySem.W.Frag} {R : Addr → Prop} {n : Nat} {φ : Nat → Addr} {H : Hp} : ∀ (ys : List Str), Rps K R n φ H (ys.map V.str) (ys.map D.str)
  | [] => .nil
  | y :: ys => .cons (.str y) (rps_strs ys)
theorem blm_sorted {c : Ct} : BlM c (rSortedS c.K) oSorted := by
  intro φ S H Q xs ds z g r h hp
  unfold oSorted at h
  split at h
  · obtain ⟨v, rfl, rv⟩ := r.one
    split at h
    · rename_i e
      split at h
      · rename_i e2
        obtain ⟨hl, h⟩ := guard_ok h
        cases h
        obtain ⟨p, zs, rfl, k, q⟩ := asL_ok g rv e
        have ex := strs_ok q e2
        subst ex
        refine ⟨_, _, rfl, k, of_decide_eq_true hl, fun ys' p' hp' hs' hn => ?_⟩
        rw [srt_uniq hp' hs']
        exact hp.new g hn (new_lst g hn (rps_strs _))
      · cases h
    · cases h
  · cases h

/-! ### dicts -/
def putD (kvs : List (Key × D)) (k : Key) (v : D) : List (Key × D) :=
  if (kvs.any fun kv => decide (kv.1 = k)) = true then kvs.map (fun kv => if kv.1 = k then (kv.1, v) else kv) else kvs ++ [(k, v)]
section
variable {K : PySem.W.Frag} {R : Addr → Prop} {n : Nat} {φ : Nat → Addr} {H : Hp}
theorem any_keys {α β : Type} {ps : List (Key × α)} {kvs : List (Key × β)} {k : Key} (e : ps.map (·.1) = kvs.map (·.1)) : (ps.any fun kv => decide (kv.1 = k)) = (kvs.any fun kv => decide (kv.1 = k)) := by
  have h1 : ∀ {γ : Type} (l : List (Key × γ)), (l.any fun kv => decide (kv.1 = k)) = ((l.map (·.1)).any fun x => decide (x = k)) := fun l => by
    rw [List.any_map]
    rfl
  rw [h1, h1, e]
theorem put_keys {α β : Type} : ∀ {ps : List (Key × α)} {kvs : List (Key × β)} {k : Key} {a : α} {b : β}, ps.map (·.1) = kvs.map (·.1) →
    (ps.map fun kv => if kv.1 = k then (kv.1, a) else kv).map (·.1) = (kvs.map fun kv => if kv.1 = k then (kv.1, b) else kv).map (·.1) := by
  intro ps kvs k a b e
  have h1 : ∀ {γ : Type} (l : List (Key × γ)) (c : γ), (l.map fun kv => if kv.1 = k then (kv.1, c) else kv).map (·.1) = l.map (·.1) := fun l c => by
    rw [List.map_map]
    refine List.map_congr_left fun x _ => ?_
    simp only [Function.comp]
    split <;> rfl
  rw [h1, h1, e]
theorem put_vals {v : V} {d : D} (rv : Rp K R n φ H v d) : ∀ {ps : List (Key × V)} {kvs : List (Key × D)} {k : Key}, ps.map (·.1) = kvs.map (·.1) → Rps K R n φ H (ps.map (·.2)) (kvs.map (·.2)) →
    Rps K R n φ H ((ps.map fun kv => if kv.1 = k then (kv.1, v) else kv).map (·.2)) ((kvs.map fun kv => if kv.1 = k then (kv.1, d) else kv).map (·.2))
  | [], [], _, _, _ => .nil
  | [], _ :: _, _, e, _ => by simp at e
  | _ :: _, [], _, e, _ => by simp at e
  | (k1, v1) :: ps, (k2, d2) :: kvs, k, e, r => by
    simp only [List.map_cons, List.cons.injEq] at e
    obtain ⟨rfl, e⟩ := e
    simp only [List.map_cons] at r
    cases r with
    | cons r1 r2 =>
      have q := put_vals rv (k := k) e r2
      by_cases hk : k1 = k
      · simp only [List.map_cons, hk, if_true]
        exact .cons rv q
      · simp only [List.map_cons, if_neg hk]
        exact .cons r1 q
theorem put_ok {v : V} {d : D} {ps : List (Key × V)} {kvs : List (Key × D)} {k : Key} (rv : Rp K R n φ H v d) (e : ps.map (·.1) = kvs.map (·.1)) (r : Rps K R n φ H (ps.map (·.2)) (kvs.map (·.2))) :
    (putK ps k v).map (·.1) = (putD kvs k d).map (·.1) ∧ Rps K R n φ H ((putK ps k v).map (·.2)) ((putD kvs k d).map (·.2)) := by
  unfold putK putD
  rw [any_keys (k := k) e]
  split
  · exact ⟨put_keys e, put_vals rv e r⟩
  · refine ⟨by simp [e], ?_⟩
    simp only [List.map_append, List.map_cons, List.map_nil]
    exact r.snoc rv
end
/-- a thing of the store after a store into it: x[i] = v -/
def oPut (x i v : D) (S : Store) : Option Store := match x with
  | .cell j => (match S[j]? with
    | some (.dct kvs) => (match dKey i with
      | some k => if kvs.length < line then some (S.set j (.dct (putD kvs k v))) else none
      | none => none)
    | some (.lst ds) => (match i with
      | .int m => (match ixN ds.length m with
        | some q => some (S.set j (.lst (ds.set q v)))
        | none => none)
      | _ => none)
    | none => none)
  | _ => none
def rSetM : TSet := fun o i v H Q => rSetD o i v H Q ∨ rSetL o i v H Q
theorem set_M {X : Cx} (hu : X.A.units + 1 < cLine) : PSet X rSetM := by
  intro pins s σ H o i v ov iv u Q I ro ri rv h
  rcases h with h | h
  · exact set_dict hu pins s σ H o i v ov iv u Q I ro ri rv h
  · exact set_list pins s σ H o i v ov iv u Q I ro ri rv h
theorem put_m {c : Ct} {φ : Nat → Addr} {S S' : Store} {H : Hp} {x i v : V} {a b d : D} (g : Good c.K c.R φ H S) (rx : Rp c.K c.R S.length φ H x a) (ri : Rp c.K c.R S.length φ H i b) (rv : Rp c.K c.R S.length φ H v d) (h : oPut a b d S = some S') {Q : Hp → Prop}
    (hq : ∀ H', Step S.length φ H S'.length φ H' → Good c.K c.R φ H' S' → Q H') : rSetM x i v H Q := by
  unfold oPut at h
  split at h
  · cases rx with
    | cell hi =>
      rename_i j
      split at h
      · rename_i kvs es
        split at h
        · rename_i k ek
          split at h
          · rename_i hl
            cases h
            obtain ⟨ps, e1, eks, q⟩ := g.at_ _ _ es
            have ey := key_ok ri ek
            subst ey
            have hlen : ps.length = kvs.length := by have := congrArg List.length eks; simpa using this
            obtain ⟨p1, p2⟩ := put_ok (k := k) rv eks q
            have st : Step S.length φ H S.length φ (upd H (φ j) (.dK (putK ps k v))) := Step.put g hi
            exact .inl ⟨_, _, rfl, .k e1 (Nat.lt_of_lt_of_le (by rw [hlen]; exact hl) (by decide)), hq _ (by rw [List.length_set]; exact st) (g.put hi ⟨_, upd_same, p1, p2.step st⟩)⟩
          · cases h
        · cases h
      · rename_i ds es
        split at h
        · rename_i m
          split at h
          · rename_i q eq
            cases h
            obtain ⟨xs, e1, qq⟩ := g.at_ _ _ es
            cases ri
            have st : Step S.length φ H S.length φ (upd H (φ j) (.lst (xs.set q v))) := Step.put g hi
            exact .inr ⟨_, _, _, q, rfl, rfl, e1, by rw [qq.length]; exact eq, hq _ (by rw [List.length_set]; exact st) (g.put hi ⟨_, upd_same, (qq.set q rv).step st⟩)⟩
          · cases h
        · cases h
      · cases h
  · cases h
/-- o[i] = e -/
def sPut (fo fi fe : Env → Store → Out D) : SemS := fun ρ S => bnd (fe ρ S) fun v S1 => bnd (fo ρ S1) fun x S2 => bnd (fi ρ S2) fun i S3 => match oPut x i v S3 with
  | some S4 => ret (.nx ρ) S4
  | none => none
theorem t_put {X : Cx} {c : Ct} {o i e : Expr} {fo fi fe : Env → Store → Out D} {tpos pos : Pos} (hu : X.A.units + 1 < cLine) (ho : PE X o (mE c fo)) (hi : PE X i (mE c fi)) (he : PE X e (mE c fe))
    (ha : ∀ v, assign (.Subscript o i tpos) X.env v = (do
      let ov ← holding [v] (eval o X.env)
      let iv ← holding [v, ov] (eval i X.env)
      standAt tpos
      holding [v, ov, iv] (setItem ov iv v)
      release [v, ov, iv] []))
    (hs : swapsWithSole [.Subscript o i tpos] e pos.line X.env = pure false) (hw : swappedStores [.Subscript o i tpos] e X.env = pure none) (h1 : (assignEach [.Subscript o i tpos] X.env).map (·.2) = [assign (.Subscript o i tpos) X.env]) :
    PS X (.Assign [.Subscript o i tpos] e pos) (mT c (sPut fo fi fe)) := by
  refine ps_weak (ps_asg he (pg_sub ho hi (set_M hu) ha) hs hw h1) fun d σ H ⟨φ, S, ρ, r, hg, hr, hf, hp⟩ => ?_
  refine mT_fst (rel := RV c) hg hr hf hp fun v S1 xv φ1 H1 s1 g1 e1 r1 hf1 hp1 => ?_
  refine mT_fst (rel := RV c) g1 e1 hf1 hp1 fun x S2 xx φ2 H2 s2 g2 e2 r2 hf2 hp2 => ?_
  refine mT_fst (rel := RV c) g2 e2 hf2 hp2 fun i S3 xi φ3 H3 s3 g3 e3 r3 hf3 hp3 => ?_
  split at hf3
  · rename_i S4 e4
    cases hf3
    exact put_m g3 (Rp.step s3 r2) r3 (Rp.step s3 (Rp.step s2 r1)) e4 fun H' st g' => hp3 σ φ3 H' st g' (e3.step st)
  · cases hf3
end Pv

/-! Pv, part M: dicts made on the spot. -/
namespace Pv
open PySem PySem.Spec PyProof.Rows L2 PySem.Calls

section
variable {K : PySem.W.Frag} {R : Addr → Prop} {n : Nat} {φ : Nat → Addr} {H : Hp} {A : Addr} {o oA : HO}
theorem sqT_sw {a : Addr} {xs : List V} (hA : H A = some oA) (n1 : ∀ xs, oA ≠ .tup xs) (n2 : ∀ ob u, oA ≠ .frz ob u) (h : SqT K H a xs) : SqT K (upd H A o) a xs := by
  have ne : ∀ {u}, H a = some u → u ≠ oA → a ≠ A := fun e z q => by
    subst q
    rw [hA] at e
    exact z (Option.some.inj e).symm
  rcases h with (h | ⟨ob, h⟩) | h
  · exact .inl (.inl (by rw [upd_ne (ne h fun z => n1 _ z.symm)]; exact h))
  · exact .inl (.inr ⟨ob, by rw [upd_ne (ne h fun z => n2 _ _ z.symm)]; exact h⟩)
  · exact .inr h
mutual
theorem Rp.sw (hA : H A = some oA) (n1 : ∀ xs, oA ≠ .tup xs) (n2 : ∀ ob u, oA ≠ .frz ob u) : ∀ {v : V} {d : D}, Rp K (addR R A) n φ H v d → Rp K (addR R A) n φ (upd H A o) v d
  | _, _, .non => .non
  | _, _, .bl b => .bl b
  | _, _, .int i => .int i
  | _, _, .str x => .str x
  | _, _, .tup h r => .tup (sqT_sw hA n1 n2 h) (Rps.sw hA n1 n2 r)
  | _, _, .klst h r => .klst h (Rps.sw hA n1 n2 r)
  | _, _, .frz h r => .frz (by
      rw [upd_ne fun q => ?_]
      · exact h
      · subst q
        rw [hA] at h
        exact n2 _ _ (Option.some.inj h)) (Rps.sw hA n1 n2 r)
  | _, _, .lst h f c r => .lst (by rw [upd_ne fun e => f (.inr e)]; exact h) f c (Rps.sw hA n1 n2 r)
  | _, _, .cell h => .cell h
theorem Rps.sw (hA : H A = some oA) (n1 : ∀ xs, oA ≠ .tup xs) (n2 : ∀ ob u, oA ≠ .frz ob u) : ∀ {vs : List V} {ds : List D}, Rps K (addR R A) n φ H vs ds → Rps K (addR R A) n φ (upd H A o) vs ds
  | _, _, .nil => .nil
  | _, _, .cons h r => .cons (Rp.sw hA n1 n2 h) (Rps.sw hA n1 n2 r)
end
theorem Good.sw {S : Store} (hA : H A = some oA) (n1 : ∀ xs, oA ≠ .tup xs) (n2 : ∀ ob u, oA ≠ .frz ob u) (hne : ∀ i, i < S.length → A ≠ φ i) (g : Good K (addR R A) φ H S) : Good K (addR R A) φ (upd H A o) S := by
  refine ⟨fun i c e => ?_, g.inj, fun a h => ?_, g.cof⟩
  · have hi : i < S.length := (List.getElem?_eq_some_iff.mp e).1
    have q := g.at_ i c e
    have ne : φ i ≠ A := fun z => hne i hi z.symm
    cases c with
    | lst ds =>
      obtain ⟨xs, e1, r⟩ := q
      exact ⟨xs, by rw [upd_ne ne]; exact e1, r.sw hA n1 n2⟩
    | dct kvs =>
      obtain ⟨ps, e1, ek, r⟩ := q
      exact ⟨ps, by rw [upd_ne ne]; exact e1, ek, r.sw hA n1 n2⟩
  · by_cases q : a = A
    · subst q; exact ⟨o, upd_same⟩
    · obtain ⟨o', e⟩ := g.off a h
      exact ⟨o', by rw [upd_ne q]; exact e⟩
/-- what nobody knew becomes a dict of the store -/
theorem Good.toDct {S : Store} {p : Addr} {ps : List (Key × V)} {kvs : List (Key × D)} (g : Good K (addR R p) φ H S) (hr : ¬ R p) (hp : H p = some (.dK ps)) (hk : ps.map (·.1) = kvs.map (·.1)) (hne : ∀ i, i < S.length → p ≠ φ i) (r : Rps K (addR R p) S.length φ H (ps.map (·.2)) (kvs.map (·.2))) : Good K R (ext φ S.length p) H (S ++ [.dct kvs]) := by
  have hl : (S ++ [Cell.dct kvs]).length = S.length + 1 := by simp
  refine ⟨fun i c e => ?_, fun i j hi hj e => ?_, fun a h => g.off a (.inl h), fun i hi h => ?_⟩
  · rw [hl]
    by_cases hi : i < S.length
    · rw [List.getElem?_append_left hi] at e
      rw [ext_lt hi]
      have q := g.at_ i c e
      cases c with
      | lst ds =>
        obtain ⟨xs, e1, r⟩ := q
        exact ⟨xs, e1, r.toCell⟩
      | dct kvs =>
        obtain ⟨ps, e1, ek, r⟩ := q
        exact ⟨ps, e1, ek, r.toCell⟩
    · have e2 : i = S.length := by
        have := (List.getElem?_eq_some_iff.mp e).1
        rw [hl] at this
        omega
      subst e2
      rw [List.getElem?_append_right (Nat.le_refl _), Nat.sub_self] at e
      cases e
      rw [ext_at]
      exact ⟨ps, hp, hk, r.toCell⟩
  · rw [hl] at hi hj
    by_cases h1 : i < S.length
    · by_cases h2 : j < S.length
      · rw [ext_lt h1, ext_lt h2] at e; exact g.inj i j h1 h2 e
      · have e2 : j = S.length := by omega
        subst e2
        rw [ext_lt h1, ext_at] at e
        exact absurd e.symm (hne i h1)
    · have e1 : i = S.length := by omega
      subst e1
      by_cases h2 : j < S.length
      · rw [ext_lt h2, ext_at] at e
        exact absurd e (hne j h2)
      · omega
  · rw [hl] at hi
    by_cases q : i = S.length
    · subst q
      rw [ext_at] at h
      exact hr h
    · rw [ext_lt (by omega)] at h
      exact g.cof i (by omega) (.inl h)
theorem merge_ok : ∀ {more : List (Key × V)} {moreD : List (Key × D)} {ps : List (Key × V)} {kvs : List (Key × D)}, more.map (·.1) = moreD.map (·.1) → Rps K R n φ H (more.map (·.2)) (moreD.map (·.2)) → ps.map (·.1) = kvs.map (·.1) → Rps K R n φ H (ps.map (·.2)) (kvs.map (·.2)) →
    (mergeK ps more).map (·.1) = (moreD.foldl (fun acc kv => putD acc kv.1 kv.2) kvs).map (·.1) ∧ Rps K R n φ H ((mergeK ps more).map (·.2)) ((moreD.foldl (fun acc kv => putD acc kv.1 kv.2) kvs).map (·.2))
  | [], [], _, _, _, _, e, r => ⟨e, r⟩
  | [], _ :: _, _, _, e, _, _, _ => by simp at e
  | _ :: _, [], _, _, e, _, _, _ => by simp at e
  | (k1, v1) :: more, (k2, d2) :: moreD, ps, kvs, e, r, e', r' => by
    simp only [List.map_cons, List.cons.injEq] at e
    obtain ⟨rfl, e⟩ := e
    simp only [List.map_cons] at r
    cases r with
    | cons r1 r2 =>
      obtain ⟨h1, h2⟩ := put_ok (k := k1) r1 e' r'
      exact merge_ok (more := more) (moreD := moreD) e r2 h1 h2
end
def mergeD (kvs more : List (Key × D)) : List (Key × D) := more.foldl (fun acc kv => putD acc kv.1 kv.2) kvs
def eDisp (ks : List Key) (fs : Env → Store → Out (List D)) (ρ : Env) (S : Store) : Out D := bnd (fs ρ S) fun ds S1 => guard' (ds.length == ks.length) (ret (.cell S1.length) (S1 ++ [.dct (mergeD [] (ks.zip ds))]))
/-- the pairs of a display, the keys written -/
inductive PD (X : Cx) (c : Ct) : List (Option Expr) → List Expr → List Key → (Env → Store → Out (List D)) → Prop
  | nil : PD X c [] [] [] eNil
  | cons {k : Str} {j : Nat} {pos : Pos} {v : Expr} {f : Env → Store → Out D} {keys : List (Option Expr)} {vals : List Expr} {ks : List Key} {fs : Env → Store → Out (List D)} (h : ∀ R, PE X v (mE { c with R := R } f)) (r : PD X c keys vals ks fs) :
    PD X c (some (.Constant (.str k) j pos) :: keys) (v :: vals) (.inr k :: ks) (eCons f fs)
def pairsOf (ks : List Key) (vs : List V) : List (V × V) := (ks.zip vs).map fun kv => (kV kv.1, kv.2)
theorem pd_run {X : Cx} {c : Ct} {pos : Pos} {keys : List (Option Expr)} {vals : List Expr} {ks : List Key} {fs : Env → Store → Out (List D)} (h : PD X c keys vals ks fs) :
    ∃ trs, PPs X pos keys vals trs ∧ ∀ R σ H (Q : List (V × V) → Hp → Prop), Wp { c with R := R } (RL { c with R := R }) fs σ H (fun vs H1 => Q (pairsOf ks vs) H1) → tPairs trs σ H Q := by
  induction h with
  | nil =>
    refine ⟨[], pps_nil, fun R σ H Q ⟨φ, S, ρ, z, hg, hr, hf, hp⟩ => ?_⟩
    cases hf
    exact hp.now hg .nil
  | @cons k j kpos v f keys vals ks fs hv r ih =>
    obtain ⟨trs, p, q⟩ := ih
    have hv' : PE X v (fun σ H Q => ∃ R, mE { c with R := R } f σ H Q) := ⟨fun pins s σ H Q I ⟨R, w⟩ => (hv R).run pins s σ H Q I w⟩
    refine ⟨_, pps_cons pe_str hv' p, fun R σ H Q ⟨φ, S, ρ, z, hg, hr, hf, hp⟩ => ⟨R, ?_⟩⟩
    refine Wp.fst (rel := RV { c with R := R }) hg hr hf hp fun d S1 y φ1 H1 s1 g1 e1 r1 hf1 hp1 => q R σ H1 _ ?_
    refine Wp.fst (rel := RL { c with R := R }) g1 e1 hf1 hp1 fun ds S2 ys φ2 H2 s2 g2 e2 r2 hf2 hp2 => ?_
    cases hf2
    exact hp2.now g2 (.cons (Rp.step s2 r1) r2)
theorem hide_step {n : Nat} {φ : Nat → Addr} {H : Hp} {p : Addr} {o : HO} {n' : Nat} {φ' : Nat → Addr} {H' : Hp} (hn : H p = none) (s : Step n φ (upd H p o) n' φ' H') : Step n φ H n' φ' H' := (Step.new hn).trans s
theorem m_disp {X : Cx} {c : Ct} {keys : List (Option Expr)} {vals : List Expr} {ks : List Key} {fs : Env → Store → Out (List D)} {pos : Pos} (h : PD X c keys vals ks fs) (hall : keys.all (·.isSome) = true) (hl : keys.length = vals.length) (h0 : keys ≠ []) (h15 : keys.length ≤ 15) (hks : ks.length ≤ 15) :
    PE X (.Dict keys vals pos) (mE c (eDisp ks fs)) := by
  obtain ⟨trs, hp, run⟩ := pd_run (pos := pos) h
  refine pe_weak (pe_disp hp hall hl h0 h15) fun σ H Q ⟨φ, S, ρ, z, hg, hr, hf, hpost⟩ p hn => ?_
  have hRp : ¬ c.R p := fun q => by
    obtain ⟨o, e⟩ := hg.off p q
    rw [hn] at e; cases e
  have hne : ∀ i, i < S.length → p ≠ φ i := fun i hi e => by
    obtain ⟨o, q, _⟩ := hg.there hi
    rw [← e, hn] at q; cases q
  refine run (addR c.R p) σ _ _ ?_
  cases ef : fs ρ S with
  | none =>
    unfold eDisp at hf
    rw [ef] at hf; cases hf
  | some r =>
    obtain ⟨r, S1⟩ := r
    unfold eDisp at hf
    rw [ef] at hf
    refine ⟨φ, S, ρ, _, hg.hide hn, hr.hide hn, ef, ?_⟩
    cases r with
    | ex x =>
      have hf : some ((Rs.ex x : Rs D), S1) = some z := hf
      cases hf
      refine fun cl o φ' H' s g rx => hpost cl o φ' H' (hide_step hn s) g.weak ?_
      obtain ⟨C, d, fs, e1, e2, e3, e4, e5, q⟩ := rx
      exact ⟨C, d, fs, e1, e2, e3, e4, e5, q.weak⟩
    | ok ds =>
      have hf : guard' (ds.length == ks.length) (ret (.cell S1.length) (S1 ++ [.dct (mergeD [] (ks.zip ds))])) = some z := hf
      obtain ⟨hlen, hf⟩ := guard_ok hf
      cases hf
      have hlen : ds.length = ks.length := by simpa using hlen
      intro vs φ' H' s g rv
      have hp' : H' p = some (.dK []) := s.keep p _ upd_same hne
      have hne' := s.apart (show (upd H p (HO.dK [])) p = some (HO.dK []) from upd_same) hne
      have hvl : vs.length = ks.length := (Rps.length rv).trans hlen
      refine ⟨hp', ks.zip vs, rfl, by rw [List.length_zip, hvl, Nat.min_self]; exact hks, ?_⟩
      have n1 : ∀ xs, HO.dK [] ≠ .tup xs := fun _ z => nomatch z
      have n2 : ∀ ob u, HO.dK [] ≠ .frz ob u := fun _ _ z => nomatch z
      have m1 : (ks.zip vs).map (·.1) = (ks.zip ds).map (·.1) := by rw [zip_fst hvl.symm, zip_fst hlen.symm]
      have m2 : Rps c.K (addR c.R p) S1.length φ' (upd H' p (.dK (mergeK [] (ks.zip vs)))) ((ks.zip vs).map (·.2)) ((ks.zip ds).map (·.2)) := by
        rw [zip_snd hvl.symm, zip_snd hlen.symm]
        exact Rps.sw hp' n1 n2 rv
      obtain ⟨e1, e2⟩ := merge_ok (ps := []) (kvs := []) m1 m2 rfl .nil
      have gg : Good c.K (addR c.R p) φ' (upd H' p (.dK (mergeK [] (ks.zip vs)))) S1 := g.sw hp' n1 n2 hne'
      have hl2 : (S1 ++ [Cell.dct (mergeD [] (ks.zip ds))]).length = S1.length + 1 := by simp
      have st : Step S.length φ H S1.length φ' (upd H' p (.dK (mergeK [] (ks.zip vs)))) := (hide_step hn s).hid hn
      refine hpost (.ref p) (ext φ' S1.length p) _ ?_ (gg.toDct hRp upd_same e1 hne' e2) ?_
      · rw [hl2]
        exact st.toCell hn
      · show Rp _ _ _ _ _ _ _
        rw [hl2]
        have q : Rp c.K c.R (S1.length + 1) (ext φ' S1.length p) (upd H' p (.dK (mergeK [] (ks.zip vs)))) (.ref (ext φ' S1.length p S1.length)) (.cell S1.length) := .cell (Nat.lt_succ_self _)
        rwa [ext_at] at q
end Pv

/-! Pv, part N: short words for what stands in a text; the side conditions are seen to by themselves. -/
namespace Pv
open PySem PySem.Spec PyProof.Rows L2 PySem.Calls

section
variable {X : Cx} {c : Ct} {a b e : Expr} {es : List Expr} {pos p p2 apos : Pos} {fa fb fe : Env → Store → Out D} {fs : Env → Store → Out (List D)} {x : Str}
theorem qV (i : Nat) (hN : X.N[i]? = some x := by rfl) (hv : Vis X.env.scope x := by first | exact Or.inl rfl | exact Or.inr (Or.inl rfl) | exact Or.inr (Or.inr rfl)) (hd : (x == ("__debug__" : Str)) = false := by decide) (hcd : (x == ("__classdict__" : Str)) = false := by decide) : PE X (.Name x pos) (mE c (eVar i)) := m_var hN hv hd hcd
theorem qC1 (h : PE X e (mE c fe)) (hs : starEach [e] X.env = (false, eval e X.env) :: starEach [] X.env := by rfl) : PA X [e] (mA c (eCons fe eNil)) := m_cons hs h m_nil
theorem qC (h : PE X e (mE c fe)) (hr : PA X es (mA c fs)) (hs : starEach (e :: es) X.env = (false, eval e X.env) :: starEach es X.env := by rfl) : PA X (e :: es) (mA c (eCons fe fs)) := m_cons hs h hr
variable (hK : c.K = X.K)
include hK
theorem qAdd (ha : PE X a (mE c fa)) (hb : PE X b (mE c fb)) : PE X (.BinOp a .Add b pos) (mE c (eBin oAdd fa fb)) := m_weak (s_add hK ha hb)
theorem qMul (ha : PE X a (mE c fa)) (hb : PE X b (mE c fb)) : PE X (.BinOp a .Mult b pos) (mE c (eBin oMul fa fb)) := pe_weak (pe_op op_mulM ha hb) fun _ _ _ h => by rw [← hK]; exact m_bin opm_mul h
omit hK
theorem qSub (ha : PE X a (mE c fa)) (hb : PE X b (mE c fb)) : PE X (.BinOp a .Sub b pos) (mE c (eBin oSub fa fb)) := pe_weak (pe_op op_sub ha hb) fun _ _ _ h => m_bin opm_sub h
theorem qDiv (ha : PE X a (mE c fa)) (hb : PE X b (mE c fb)) : PE X (.BinOp a .FloorDiv b pos) (mE c (eBin oDiv fa fb)) := pe_weak (pe_op op_fdivW ha hb) fun _ _ _ h => m_bin opm_div h
theorem qMod (ha : PE X a (mE c fa)) (hb : PE X b (mE c fb)) : PE X (.BinOp a .Mod b pos) (mE c (eBin oMod fa fb)) := pe_weak (pe_op op_mod ha hb) fun _ _ _ h => m_bin opm_mod h
theorem qPow (ha : PE X a (mE c fa)) (hb : PE X b (mE c fb)) : PE X (.BinOp a .Pow b pos) (mE c (eBin oPow fa fb)) := pe_weak (pe_op op_pow ha hb) fun _ _ _ h => m_bin opm_pow h
theorem qNeg (ha : PE X a (mE c fa)) : PE X (.UnaryOp .USub a pos) (mE c (eUn oNeg fa)) := pe_weak (pe_un un_neg ha) fun _ _ _ h => m_un unm_neg h
include hK
/-! comparisons: as a value, as a test -/
theorem qEq (hu : X.A.units + 64 < cLine) (ha : PE X a (mE c fa)) (hb : PE X b (mE c fb)) : PE X (.Compare a [.Eq] [b] pos) (mE c (eBin oEq fa fb)) := m_cmp (r := rEqM X.K) (op_eqM hu) (by rw [← hK]; exact opm_eq) ha hb (nomark _)
theorem qNe (hu : X.A.units + 64 < cLine) (ha : PE X a (mE c fa)) (hb : PE X b (mE c fb)) : PE X (.Compare a [.NotEq] [b] pos) (mE c (eBin oNe fa fb)) := m_cmp (r := rNeM X.K) (op_neM hu) (by rw [← hK]; exact opm_ne) ha hb (nomark _)
theorem oEq_bl : ∀ x y S d S', oEq x y S = some (.ok d, S') → ∃ k, d = .bl k := fun x y S d S' h => by
  unfold oEq at h
  split at h
  · cases h; exact ⟨_, rfl⟩
  · cases h
theorem oNe_bl : ∀ x y S d S', oNe x y S = some (.ok d, S') → ∃ k, d = .bl k := fun x y S d S' h => by
  unfold oNe at h
  split at h
  · cases h; exact ⟨_, rfl⟩
  · cases h
theorem tEq (hu : X.A.units + 64 < cLine) (ha : PE X a (mE c fa)) (hb : PE X b (mE c fb)) : PT X (.Compare a [.Eq] [b] pos) (mB c (eTru (eBin oEq fa fb))) := b_cmp (r := rEqM X.K) (op_eqM hu) (by rw [← hK]; exact opm_eq) ha hb (nomark _) (oEq_bl hK)
theorem tNe (hu : X.A.units + 64 < cLine) (ha : PE X a (mE c fa)) (hb : PE X b (mE c fb)) : PT X (.Compare a [.NotEq] [b] pos) (mB c (eTru (eBin oNe fa fb))) := b_cmp (r := rNeM X.K) (op_neM hu) (by rw [← hK]; exact opm_ne) ha hb (nomark _) (oNe_bl hK)
omit hK
theorem qLt (ha : PE X a (mE c fa)) (hb : PE X b (mE c fb)) : PE X (.Compare a [.Lt] [b] pos) (mE c (eBin oLt fa fb)) := m_cmp op_ltM opm_lt ha hb (nomark _)
theorem qLe (ha : PE X a (mE c fa)) (hb : PE X b (mE c fb)) : PE X (.Compare a [.LtE] [b] pos) (mE c (eBin oLe fa fb)) := m_cmp op_leM opm_le ha hb (nomark _)
theorem qGt (ha : PE X a (mE c fa)) (hb : PE X b (mE c fb)) : PE X (.Compare a [.Gt] [b] pos) (mE c (eBin oGt fa fb)) := m_cmp op_gtM opm_gt ha hb (nomark _)
theorem qGe (ha : PE X a (mE c fa)) (hb : PE X b (mE c fb)) : PE X (.Compare a [.GtE] [b] pos) (mE c (eBin oGe fa fb)) := m_cmp op_geM opm_ge ha hb (nomark _)
theorem oLt_bl : ∀ x y S d S', oLt x y S = some (.ok d, S') → ∃ k, d = .bl k := fun x y S d S' h => by
  unfold oLt at h
  split at h <;> cases h <;> exact ⟨_, rfl⟩
theorem oLe_bl : ∀ x y S d S', oLe x y S = some (.ok d, S') → ∃ k, d = .bl k := fun x y S d S' h => by
  unfold oLe at h
  split at h <;> cases h <;> exact ⟨_, rfl⟩
theorem oGt_bl : ∀ x y S d S', oGt x y S = some (.ok d, S') → ∃ k, d = .bl k := fun x y S d S' h => by
  unfold oGt at h
  split at h <;> cases h <;> exact ⟨_, rfl⟩
theorem oGe_bl : ∀ x y S d S', oGe x y S = some (.ok d, S') → ∃ k, d = .bl k := fun x y S d S' h => by
  unfold oGe at h
  split at h <;> cases h <;> exact ⟨_, rfl⟩
theorem oIs_bl (neg : Bool) : ∀ x y S d S', oIs neg x y S = some (.ok d, S') → ∃ k, d = .bl k := fun x y S d S' h => by
  unfold oIs at h
  split at h <;> cases h <;> exact ⟨_, rfl⟩
theorem tLt (ha : PE X a (mE c fa)) (hb : PE X b (mE c fb)) : PT X (.Compare a [.Lt] [b] pos) (mB c (eTru (eBin oLt fa fb))) := b_cmp op_ltM opm_lt ha hb (nomark _) oLt_bl
theorem tLe (ha : PE X a (mE c fa)) (hb : PE X b (mE c fb)) : PT X (.Compare a [.LtE] [b] pos) (mB c (eTru (eBin oLe fa fb))) := b_cmp op_leM opm_le ha hb (nomark _) oLe_bl
theorem tGt (ha : PE X a (mE c fa)) (hb : PE X b (mE c fb)) : PT X (.Compare a [.Gt] [b] pos) (mB c (eTru (eBin oGt fa fb))) := b_cmp op_gtM opm_gt ha hb (nomark _) oGt_bl
theorem tGe (ha : PE X a (mE c fa)) (hb : PE X b (mE c fb)) : PT X (.Compare a [.GtE] [b] pos) (mB c (eTru (eBin oGe fa fb))) := b_cmp op_geM opm_ge ha hb (nomark _) oGe_bl
/-! a value as a test -/
include hK
theorem tV (ha : PE X a (mE c fa)) (he : ∀ whole, isTrue a X.env whole = (do let v ← whole; standAt a.pos; holding [v] (truthy v)) := by intro _; rfl) : PT X a (mB c (eTru fa)) := m_tru hK ha he
/-! subscripts -/
theorem qIx (hu : X.A.units + 64 < cLine) (ha : PE X a (mE c fa)) (hb : PE X b (mE c fb)) (hs : PlainIx b := by intro _ _; rfl) : PE X (.Subscript a b pos) (mE c (eBin oIx fa fb)) :=
  pe_weak (pe_ix (ix_M (by omega)) ha hb hs) fun _ _ _ h => by rw [← hK]; exact m_bin opm_ix h
omit hK
/-! within a comprehension -/
theorem x_e {f : Env → Store → Out D} (h : ∀ R, PE X e (mE (c.inn R) f)) : PE X e (xE c f) := ⟨fun pins s σ H Q I ⟨R, w⟩ => (h R).run pins s σ H Q I w⟩
theorem x_t {t : Env → Store → Out Bool} (h : ∀ R, PT X e (mB (c.inn R) t)) : PTs X [e] (xT c (some t)) := pts_one ⟨fun pins s σ H Q I ⟨R, w⟩ => (h R).run pins s σ H Q I w⟩
end
/-! ### built-in functions -/
section
variable {X : Cx} {c : Ct} {a b e : Expr} {es : List Expr} {pos p p2 apos : Pos} {fs : Env → Store → Out (List D)}
theorem qLen (hK : c.K = X.K) (hm : X.mg "len" = none) (ha : PA X (e :: es) (mA c fs)) (hg : Gl X "len" := by rfl) (he : starEach (e :: es) X.env = (false, eval e X.env) :: starEach es X.env := by rfl) (hpl : (backTo pos (starEach es X.env)).any (·.1) = false := by rfl) :
    PE X (.Call (.Name "len" p) (e :: es) [] pos) (mE c (eBl oLen fs)) := m_callB (r := rLenM X.K) (by rw [← hK]; exact blm_len) call_lenM hg hm boot_len ha (by decide) (by decide) he hpl
theorem qAbs (hm : X.mg "abs" = none) (ha : PA X (e :: es) (mA c fs)) (hg : Gl X "abs" := by rfl) (he : starEach (e :: es) X.env = (false, eval e X.env) :: starEach es X.env := by rfl) (hpl : (backTo pos (starEach es X.env)).any (·.1) = false := by rfl) :
    PE X (.Call (.Name "abs" p) (e :: es) [] pos) (mE c (eBl oAbs fs)) := m_callB blm_abs call_abs hg hm boot_abs ha (by decide) (by decide) he hpl
theorem qMin (hc : X.calm = true) (hm : X.mg "min" = none) (ha : PA X (e :: es) (mA c fs)) (hg : Gl X "min" := by rfl) (he : starEach (e :: es) X.env = (false, eval e X.env) :: starEach es X.env := by rfl) (hpl : (backTo pos (starEach es X.env)).any (·.1) = false := by rfl) :
    PE X (.Call (.Name "min" p) (e :: es) [] pos) (mE c (eBl oMin fs)) := m_callB blm_min (call_min2 hc) hg hm boot_min ha (by decide) (by decide) he hpl
theorem qMax (hc : X.calm = true) (hm : X.mg "max" = none) (ha : PA X (e :: es) (mA c fs)) (hg : Gl X "max" := by rfl) (he : starEach (e :: es) X.env = (false, eval e X.env) :: starEach es X.env := by rfl) (hpl : (backTo pos (starEach es X.env)).any (·.1) = false := by rfl) :
    PE X (.Call (.Name "max" p) (e :: es) [] pos) (mE c (eBl oMax fs)) := m_callB blm_max (call_max2 hc) hg hm boot_max ha (by decide) (by decide) he hpl
theorem qAll (hK : c.K = X.K) (hc : X.calm = true) (hm : X.mg "all" = none) (ha : PA X (e :: es) (mA c fs)) (hg : Gl X "all" := by rfl) (he : starEach (e :: es) X.env = (false, eval e X.env) :: starEach es X.env := by rfl) (hpl : (backTo pos (starEach es X.env)).any (·.1) = false := by rfl) :
    PE X (.Call (.Name "all" p) (e :: es) [] pos) (mE c (eBl oAll fs)) := m_callB (r := rAll X.K) (by rw [← hK]; exact blm_all) (cr_all hc) hg hm boot_all ha (by decide) (by decide) he hpl
theorem qSorted (hK : c.K = X.K) (hm : X.mg "sorted" = none) (ha : PA X (e :: es) (mA c fs)) (hg : Gl X "sorted" := by rfl) (he : starEach (e :: es) X.env = (false, eval e X.env) :: starEach es X.env := by rfl) (hpl : (backTo pos (starEach es X.env)).any (·.1) = false := by rfl) :
    PE X (.Call (.Name "sorted" p) (e :: es) [] pos) (mE c (eBl oSorted fs)) := m_callB (r := rSortedS X.K) (by rw [← hK]; exact blm_sorted) cr_sortedS hg hm boot_sorted ha (by decide) (by decide) he hpl
theorem qRepr (hK : c.K = X.K) (hgd : X.A.guards = some []) (hu : X.A.units + 66 < cLine) (hm : X.mg "repr" = none) (ha : PA X (e :: es) (mA c fs)) (hg : Gl X "repr" := by rfl) (he : starEach (e :: es) X.env = (false, eval e X.env) :: starEach es X.env := by rfl) (hpl : (backTo pos (starEach es X.env)).any (·.1) = false := by rfl) :
    PE X (.Call (.Name "repr" p) (e :: es) [] pos) (mE c (eBl oRepr fs)) := m_callB (r := rRepr X.K) (by rw [← hK]; exact blm_repr) (call_repr hgd hu) hg hm boot_repr ha (by decide) (by decide) he hpl
theorem qInt (hm : X.mg "int" = none) (ha : PA X (e :: es) (mA c fs)) (hg : Gl X "int" := by rfl) (he : starEach (e :: es) X.env = (false, eval e X.env) :: starEach es X.env := by rfl) (hpl : (backTo pos (starEach es X.env)).any (·.1) = false := by rfl) :
    PE X (.Call (.Name "int" p) (e :: es) [] pos) (mE c (eBl oInt fs)) := m_callTy blm_int call_int1 hg hm boot_int ha (by decide) (by decide) he hpl
theorem qStr (hm : X.mg "str" = none) (ha : PA X (e :: es) (mA c fs)) (hg : Gl X "str" := by rfl) (he : starEach (e :: es) X.env = (false, eval e X.env) :: starEach es X.env := by rfl) (hpl : (backTo pos (starEach es X.env)).any (·.1) = false := by rfl) :
    PE X (.Call (.Name "str" p) (e :: es) [] pos) (mE c (eBl oStr fs)) := m_callTy blm_str call_strM hg hm boot_str ha (by decide) (by decide) he hpl
theorem qTuple (hK : c.K = X.K) (hm : X.mg "tuple" = none) (ha : PA X (e :: es) (mA c fs)) (hg : Gl X "tuple" := by rfl) (he : starEach (e :: es) X.env = (false, eval e X.env) :: starEach es X.env := by rfl) (hpl : (backTo pos (starEach es X.env)).any (·.1) = false := by rfl) :
    PE X (.Call (.Name "tuple" p) (e :: es) [] pos) (mE c (eBl oTuple fs)) := m_callTy (by rw [← hK]; exact blm_tuple) call_tuple_of hg hm boot_tuple ha (by decide) (by decide) he hpl
theorem sList (hK : c.K = X.K) (hm : X.mg "list" = none) (ha : PA X (e :: es) (mA c fs)) (hg : Gl X "list" := by rfl) (he : starEach (e :: es) X.env = (false, eval e X.env) :: starEach es X.env := by rfl) (hpl : (backTo pos (starEach es X.env)).any (·.1) = false := by rfl) :
    PE X (.Call (.Name "list" p) (e :: es) [] pos) (mS c (eBl oList fs)) := s_callTy (by rw [← hK]; exact slm_list) call_list_of hg hm boot_list ha (by decide) (by decide) he hpl
end
/-! ### calls, methods -/
section
variable {X : Cx} {c : Ct} {a b e o : Expr} {es : List Expr} {pos p p2 apos : Pos} {fs : Env → Store → Out (List D)} {f g fo : Env → Store → Out D} {m k k2 : Nat} {F : Fn} {dd : List D} {x : Str}
/-- what a body may count on -/
structure Bd (X : Cx) (c : Ct) (k : Nat) : Prop where
  K : c.K = X.K
  room : Room k X.A
  gd : X.A.guards = some []
  pass : Passes (L2.CX X.prog X.w) X c.E
  calm : X.calm = true
theorem Bd.u {X : Cx} {c : Ct} {k : Nat} (B : Bd X c k) : X.A.units + 64 < cLine := B.room.units
theorem Bd.u66 {X : Cx} {c : Ct} {k : Nat} (B : Bd X c k) : X.A.units + 66 < cLine := by have := B.room.un; omega
theorem qCall (C : FnC X.prog X.w X.K X.mg X.base c.cls k x m F dd) (B : Bd X c k2) (args : PA X (e :: es) (mA c fs)) (hk : k ≤ k2 := by decide) (glob : Gl X x := by rfl)
    (hdb : (x == ("__debug__" : Str)) = false := by decide) (he : starEach (e :: es) X.env = (false, eval e X.env) :: starEach es X.env := by rfl) (hpl : (backTo pos (starEach es X.env)).any (·.1) = false := by rfl) : PE X (.Call (.Name x p) (e :: es) [] pos) (mE c (eCall (ar m F) dd fs)) :=
  m_call C B.K (B.room.mono hk) B.gd glob B.pass args hdb he hpl
theorem qCall0 (C : FnC X.prog X.w X.K X.mg X.base c.cls k x m F dd) (B : Bd X c k2) (hk : k ≤ k2 := by decide) (glob : Gl X x := by rfl) (hdb : (x == ("__debug__" : Str)) = false := by decide) : PE X (.Call (.Name x p) [] [] pos) (mE c (eCall (ar m F) dd eNil)) :=
  m_call0 C B.K (B.room.mono hk) B.gd glob B.pass hdb
theorem qApp (hK : c.K = X.K) (ho : PE X o (mE c fo)) (ha : PA X [e] (mA c fs)) (hbase : attributeBase o "append" X.env (eval o X.env) = eval o X.env := by rfl) (hfew : ((backTo pos (starEach [e] X.env)).all (fun x => !x.1) && (backToKw pos (keywordEach [] X.env)).all (fun x => x.1.isSome)
      && decide (([e] : List Expr).length + ([] : List Keyword).length + (if ([] : List Keyword).isEmpty then 0 else 1) < 30)) = true := by rfl)
    (hline : (apos.endLine == pos.line) = true := by rfl) (hs : starEach [e] X.env = (false, eval e X.env) :: starEach [] X.env := by rfl) (hplain : (backTo pos (starEach [] X.env)).any (·.1) = false := by rfl) :
    PE X (.Call (.Attribute o "append" apos) [e] [] pos) (mE c (eApp fo fs)) := m_app hK ho ha hbase hfew hline hs hplain
theorem qJoin (hK : c.K = X.K) (ho : PE X o (mE c f)) (he : PE X e (mE c g)) (hs : starEach [e] X.env = [(false, eval e X.env)] := by rfl) (hbase : attributeBase o "join" X.env (eval o X.env) = eval o X.env := by rfl) (hline : (apos.endLine == pos.line) = true := by rfl) :
    PE X (.Call (.Attribute o "join" apos) [e] [] pos) (mE c (eM1 oJoin f g)) := m_join hK ho he hs hbase hline
theorem qZfill (ho : PE X o (mE c f)) (he : PE X e (mE c g)) (hs : starEach [e] X.env = [(false, eval e X.env)] := by rfl) (hbase : attributeBase o "zfill" X.env (eval o X.env) = eval o X.env := by rfl) (hline : (apos.endLine == pos.line) = true := by rfl) :
    PE X (.Call (.Attribute o "zfill" apos) [e] [] pos) (mE c (eM1 oZfill f g)) := m_zfill ho he hs hbase hline
theorem qIsi {T : String} {t : Str} (hK : c.K = X.K) (hm : X.mg "isinstance" = none) (hmT : X.mg t = none) (hv : bootBuiltins t = some (.type T)) (he : PE X e (mE c f)) (hg : Gl X "isinstance" := by rfl) (hgT : Gl X t := by rfl) (hn : t ≠ "__name__" := by decide) (hdb : (t == ("__debug__" : Str)) = false := by decide)
    (hs : starEach (e :: [.Name t p2]) X.env = (false, eval e X.env) :: starEach [.Name t p2] X.env := by rfl) (hpl : (backTo pos (starEach [.Name t p2] X.env)).any (·.1) = false := by rfl) : PE X (.Call (.Name "isinstance" p) [e, .Name t p2] [] pos) (mE c (eUn (oIsi T) f)) :=
  m_isi hK he hg hm hgT hmT hv hn hdb hs hpl
end
/-! ### statements -/
section
variable {X : Cx} {c : Ct} {e : Expr} {es : List Expr} {pos p p2 : Pos} {fe : Env → Store → Out D} {x : Str} {f g : SemS} {st : Stmt} {rest : List Stmt}
theorem zSet (i : Nat) (hN : X.N.Nodup) (he : PE X e (mE c fe)) (hi : X.N[i]? = some x := by rfl) (hx : Loc X.env.scope x := by first | exact Or.inl rfl | exact Or.inr rfl) (hs : swapsWith e (some (.Name x p)) pos.line X.env = pure false := by rfl)
    (hf : X.fn x = true ∨ X.env.scope.names.lookup x = some .local := by first | exact .inl rfl | exact .inr rfl) : PS X (.Assign [.Name x p] e pos) (mT c (sSet i fe)) := ps_weak (ps_set hN hi hx he hs hf) fun _ _ _ => set_mono
theorem zDrop (he : PE X e (mE c fe)) (hs : swapsWith e none pos.line X.env = pure false := by rfl) : PS X (.Expr e pos) (mT c (sDrop fe)) := t_drop he hs
theorem zOne (h : PS X st (mT c f)) : PSs X [st] (mT c (sSeq f sNil)) := t_cons h t_nil
end
end Pv
namespace Pv
open PySem PySem.Spec PyProof.Rows L2 PySem.Calls
section
variable {X : Cx} {c : Ct} {k : Nat}
theorem Bd.inn (B : Bd X c k) {s : Shared} {H : Hp} {scope : Scope} {cenv : PySem.Env} {fp : List Addr} {R : Addr → Prop} : Bd (X.blk s H scope cenv fp) (c.inn R) k := ⟨B.K, B.room, B.gd, pass_none, B.calm⟩
theorem Bd.wr (B : Bd X c k) {R : Addr → Prop} : Bd X { c with R := R } k := ⟨B.K, B.room, B.gd, B.pass, B.calm⟩
theorem qGI {x : Str} {i : Int} {pos : Pos} (hm : ∃ t, X.mg x = some (.int i t)) (hg : Gl X x := by rfl) (hdb : (x == ("__debug__" : Str)) = false := by decide) : PE X (.Name x pos) (mE c (eC (.int i))) := let ⟨_, h⟩ := hm; m_globI hg h hdb
theorem qGS {x : Str} {i : Str} {pos : Pos} (hm : ∃ t, X.mg x = some (.str i t)) (hg : Gl X x := by rfl) (hdb : (x == ("__debug__" : Str)) = false := by decide) : PE X (.Name x pos) (mE c (eC (.str i))) := let ⟨_, h⟩ := hm; m_globS hg h hdb
theorem sComp {elt tge iter : Expr} {ifs : List Expr} {scope : Scope} {pos : Pos} {fi : SemI} {cnd : Option (Env → Store → Out Bool)} {fe : Env → Store → Out D} {m : Nat} (B : Bd X c k) (hN : X.N.Nodup) (own : List (Str × Nat)) (tg : Tg) (hi : PI X tge iter (mI c fi))
    (hg : ∀ (s : Shared) (H : Hp) (C : Addr) (cl : List (Str × Addr)) (fp : List Addr), PG (X.blk s H scope (compEnvC scope cl C X.env) fp) tge (gT c.K tg)) (ht : ∀ (s : Shared) (H : Hp) (C : Addr) (cl : List (Str × Addr)) (fp : List Addr), PTs (X.blk s H scope (compEnvC scope cl C X.env) fp) ifs (xT c cnd))
    (he : ∀ (s : Shared) (H : Hp) (C : Addr) (cl : List (Str × Addr)) (fp : List Addr), PE (X.blk s H scope (compEnvC scope cl C X.env) fp) elt (xE c fe)) (ok : blkC X.N X.env.scope scope own = true := by rfl) (hsl : ∀ j ∈ tg.slots, j ∈ own.map (·.2) := by decide) (hs : ∀ x, foldedSetIterable iter X.env x = pure x := by intro _; rfl) :
    PE X (.ListComp elt [⟨tge, iter, ifs, 0⟩] scope pos) (mS c (eComp tg fi cnd fe (own.map (·.2)) m)) := s_lc B.K B.calm hN hsl hi (blkOk_by ok) hg ht he hs
theorem gNm {i : Nat} {x : Str} {pos : Pos} (K : PySem.W.Frag) (hN : X.N.Nodup) (hi : X.N[i]? = some x := by rfl) (hx : Loc X.env.scope x := by first | exact Or.inl rfl | exact Or.inr rfl) (hf : X.fn x = true ∨ X.env.scope.names.lookup x = some .local := by first | exact .inl rfl | exact .inr rfl) : PG X (.Name x pos) (gT K (.nm i)) := pg_name hN hi hx hf
theorem gTp {es : List Expr} {j : Nat} {ts : List Tg} {K : PySem.W.Frag} {pos : Pos} (hK : K = X.K) (hc : X.calm = true) (h : PGs X es (gTs K ts)) (hn : (assignEach es X.env).length = ts.length := by rfl) (hst : (assignEach es X.env).findIdx? (·.1) = none := by rfl) : PG X (.Tuple es j pos) (gT K (.tp ts)) := by
  subst hK
  exact pg_tup hc h hn hst
theorem gsNil {K : PySem.W.Frag} : PGs X [] (gTs K []) := pgs_nil
theorem gsCons {K : PySem.W.Frag} {e : Expr} {es : List Expr} {t : Tg} {ts : List Tg} (h1 : PG X e (gT K t)) (h2 : PGs X es (gTs K ts)) (hs : (assignEach (e :: es) X.env).map (·.2) = assign e X.env :: (assignEach es X.env).map (·.2) := by rfl) : PGs X (e :: es) (gTs K (t :: ts)) := pgs_cons h1 h2 hs
theorem iRange1 {a tge : Expr} {p pos : Pos} {fs : Env → Store → Out (List D)} (hm : X.mg "range" = none) (ha : PA X [a] (mA c fs)) (hg : Gl X "range" := by rfl) (hs : starEach [a] X.env = [(false, eval a X.env)] := by rfl) : PI X tge (.Call (.Name "range" p) [a] [] pos) (mI c (iRg1 fs)) := i_rg1 hg hm ha hs
theorem iRange2 {a a2 tge : Expr} {p pos : Pos} {fs : Env → Store → Out (List D)} (hm : X.mg "range" = none) (ha : PA X [a, a2] (mA c fs)) (hg : Gl X "range" := by rfl) (hs : starEach [a, a2] X.env = [(false, eval a X.env), (false, eval a2 X.env)] := by rfl) (hs2 : starEach [a2] X.env = [(false, eval a2 X.env)] := by rfl) : PI X tge (.Call (.Name "range" p) [a, a2] [] pos) (mI c (iRg2 fs)) := i_rg2 hg hm ha hs hs2
theorem zFor {tge e : Expr} {body : List Stmt} {fi : SemI} {b : SemS} {m : Nat} {pos : Pos} (B : Bd X c k) (tg : Tg) (hpo : PassesOwn (model X.prog X.w) X.A X.env X.xe) (hi : PI X tge e (mI c fi)) (hg : PG X tge (gT c.K tg)) (hb : PSs X body (mT c b)) (hs : ∀ x, foldedSetIterable e X.env x = pure x := by intro _; rfl) : PS X (.For tge e body [] pos) (mT c (sFor tg fi b m)) := t_for B.K hpo B.calm hi hg hb hs
/-- the slots of plain names -/
theorem unp_gT {K : PySem.W.Frag} : ∀ (is : List Nat), is.foldr (fun i t => gCons (gName i) t) gNil = gTs K (is.map .nm)
  | [] => rfl
  | i :: is => by
    rw [List.foldr_cons, unp_gT is]
    rfl
theorem zUnp {es : List Expr} {e : Expr} {j : Nat} {is : List Nat} {fe : Env → Store → Out D} {tp pos : Pos} (B : Bd X c k) (he : PE X e (mE c fe)) (h : PGs X es (gTs c.K (is.map .nm))) (hn : (assignEach es X.env).length = is.length := by rfl) (hst : (assignEach es X.env).findIdx? (·.1) = none := by rfl)
    (hs : swapsWithSole [.Tuple es j tp] e pos.line X.env = pure false := by rfl) (hw : swappedStores [.Tuple es j tp] e X.env = pure none := by rfl) (h1 : (assignEach [.Tuple es j tp] X.env).map (·.2) = [assign (.Tuple es j tp) X.env] := by rfl) :
    PS X (.Assign [.Tuple es j tp] e pos) (mT c (sUnp is fe)) := by
  have hg : PG X (.Tuple es j tp) (gTup c.K is.length (is.foldr (fun i t => gCons (gName i) t) gNil)) := by
    rw [B.K]
    rw [B.K] at h
    rw [unp_gT (K := X.K)]
    exact pg_tup B.calm h hn hst
  exact ps_weak (ps_asg he hg hs hw h1) fun _ _ _ => unp_mono
theorem zPar2 {i j : Nat} {x y : Str} {a b : Expr} {fs : Env → Store → Out (List D)} {px py pt pos : Pos} {kt k2 : Nat} {pt2 : Pos} (B : Bd X c k) (hN : X.N.Nodup) (ha : PA X [a, b] (mA c fs)) (hi : X.N[i]? = some x := by rfl) (hj : X.N[j]? = some y := by rfl) (hij : i ≠ j := by decide)
    (hx : X.env.scope.names.lookup x = some .local := by rfl) (hy : X.env.scope.names.lookup y = some .local := by rfl) (hw : swappedStores [.Tuple [.Name x px, .Name y py] kt pt] (.Tuple [a, b] k2 pt2) X.env = pure (some [x, y]) := by rfl)
    (hs : swapsWithSole [.Tuple [.Name x px, .Name y py] kt pt] (.Tuple [a, b] k2 pt2) pos.line X.env = pure false := by rfl) :
    PS X (.Assign [.Tuple [.Name x px, .Name y py] kt pt] (.Tuple [a, b] k2 pt2) pos) (mT c (sPar [i, j] fs)) := ps_weak (ps_par B.calm hN hi hj hij hx hy ha hw hs) fun _ _ _ => par_mono
theorem zPut {o i e : Expr} {fo fi fe : Env → Store → Out D} {tpos pos : Pos} (B : Bd X c k) (ho : PE X o (mE c fo)) (hi : PE X i (mE c fi)) (he : PE X e (mE c fe))
    (ha : ∀ v, assign (.Subscript o i tpos) X.env v = (do
      let ov ← holding [v] (eval o X.env)
      let iv ← holding [v, ov] (eval i X.env)
      standAt tpos
      holding [v, ov, iv] (setItem ov iv v)
      release [v, ov, iv] []) := by intro _; rfl)
    (hs : swapsWithSole [.Subscript o i tpos] e pos.line X.env = pure false := by rfl) (hw : swappedStores [.Subscript o i tpos] e X.env = pure none := by rfl) (h1 : (assignEach [.Subscript o i tpos] X.env).map (·.2) = [assign (.Subscript o i tpos) X.env] := by rfl) :
    PS X (.Assign [.Subscript o i tpos] e pos) (mT c (sPut fo fi fe)) := t_put (by have := B.u; omega) ho hi he ha hs hw h1
theorem FnG.none {P : Program} {w : World} {K : PySem.W.Frag} {mg : Str → Option Value} {base : Heap} {CX : CXT} {k : Nat} {f : Addr} {fd : FuncData} {ps : List Str} {cls : Str → Option Addr} : FnG P w K mg base CX k f fd ps (spM K cls ps.length fun _ _ => Option.none) :=
  ⟨fun vs H Q E ⟨_, _, _, _, _, _, _, _, h, _⟩ => (nomatch h), fun _ _ _ _ _ _ _ _ _ _ _ _ _ _ ⟨_, _, _, _, _, _, _, _, h, _⟩ => (nomatch h)⟩
end
end Pv
namespace Pv
open PySem PySem.Spec PyProof.Rows L2 PySem.Calls
section
variable {X : Cx} {c : Ct} {k : Nat} {elt tge iter : Expr} {ifs : List Expr} {scope : Scope} {pos spos py : Pos} {fi : SemI} {cnd : Option (Env → Store → Out Bool)} {fe : Env → Store → Out D} {m : Nat} {y : Str}
theorem zSetC (i : Nat) (B : Bd X c k) (hN : X.N.Nodup) (own : List (Str × Nat)) (tg : Tg) (hi : PI X tge iter (mI c fi))
    (hg : ∀ (s : Shared) (H : Hp) (C : Addr) (cl : List (Str × Addr)) (fp : List Addr), PG (X.blk s H scope (compEnvC scope cl C X.env) fp) tge (gT c.K tg)) (ht : ∀ (s : Shared) (H : Hp) (C : Addr) (cl : List (Str × Addr)) (fp : List Addr), PTs (X.blk s H scope (compEnvC scope cl C X.env) fp) ifs (xT c cnd))
    (he : ∀ (s : Shared) (H : Hp) (C : Addr) (cl : List (Str × Addr)) (fp : List Addr), PE (X.blk s H scope (compEnvC scope cl C X.env) fp) elt (xE c fe)) (hy : X.N[i]? = some y := by rfl) (hyl : X.env.scope.names.lookup y = some .local := by rfl) (hk : X.env.scope.kind = .function := by rfl) (hl : (py.line == pos.line) = true := by rfl)
    (ha : (scope.names.any fun (n, k) => n == y && (k == .local || k == .cell)) = false := by rfl) (ok : blkC X.N X.env.scope scope own = true := by rfl) (hsl : ∀ j ∈ tg.slots, j ∈ own.map (·.2) := by decide) (hs : ∀ x, foldedSetIterable iter X.env x = pure x := by intro _; rfl) :
    PS X (.Assign [.Name y py] (.ListComp elt [⟨tge, iter, ifs, 0⟩] scope pos) spos) (mT c (sSet i (eComp tg fi cnd fe (own.map (·.2)) m))) :=
  ps_weak (ps_setLc B.calm hN hy hyl (sw_true hk hyl hl ha) hi (blkOk_by ok) hg ht he hs) fun _ _ _ h => comp_mono hsl (mS_of (set_mono h))
theorem zSetCF (i : Nat) (B : Bd X c k) (hN : X.N.Nodup) (own : List (Str × Nat)) (tg : Tg) (hi : PI X tge iter (mI c fi))
    (hg : ∀ (s : Shared) (H : Hp) (C : Addr) (cl : List (Str × Addr)) (fp : List Addr), PG (X.blk s H scope (compEnvC scope cl C X.env) fp) tge (gT c.K tg)) (ht : ∀ (s : Shared) (H : Hp) (C : Addr) (cl : List (Str × Addr)) (fp : List Addr), PTs (X.blk s H scope (compEnvC scope cl C X.env) fp) ifs (xT c cnd))
    (he : ∀ (s : Shared) (H : Hp) (C : Addr) (cl : List (Str × Addr)) (fp : List Addr), PE (X.blk s H scope (compEnvC scope cl C X.env) fp) elt (xE c fe)) (hy : X.N[i]? = some y := by rfl) (hyl : X.env.scope.names.lookup y = some .local := by rfl) (hk : X.env.scope.kind = .function := by rfl) (hl : (py.line == pos.line) = true := by rfl)
    (ha : (scope.names.any fun (n, k) => n == y && (k == .local || k == .cell)) = false := by rfl) (ok : blkC X.N X.env.scope scope own = true := by rfl) (hsl : ∀ j ∈ tg.slots, j ∈ own.map (·.2) := by decide) (hs : ∀ x, foldedSetIterable iter X.env x = pure x := by intro _; rfl) :
    PS X (.Assign [.Name y py] (.ListComp elt [⟨tge, iter, ifs, 0⟩] scope pos) spos) (mT c (sSet i (eMk (eComp tg fi cnd fe (own.map (·.2)) m)))) :=
  ps_weak (ps_setLc B.calm hN hy hyl (sw_true hk hyl hl ha) hi (blkOk_by ok) hg ht he hs) fun _ _ _ h => comp_mono hsl (m_mk0 (set_mono h))
end
end Pv

/-! Pv, part O: the law's own call. -/
namespace Pv
open PySem PySem.Spec PyProof.Rows L2 Att

/-- the script's numbers as our machine has them -/
def scr (d : D) (ns : List Int) : Prop := d = .lst (ns.map D.int) ∨ d = .frz (ns.map D.int)
theorem rps_ints {K : PySem.W.Frag} {R : Addr → Prop} {n : Nat} {φ : Nat → Addr} {H : Hp} : ∀ (ns : List Int), Rps K R n φ H (ns.map V.int) (ns.map D.int)
  | [] => .nil
  | i :: ns => .cons (.int i) (rps_ints ns)
/-- from the layer's reading of the script -/
theorem scr_rep {K : PySem.W.Frag} {H : Hp} {a : Addr} {ns : List Int} (h : SqL K H a (ns.map V.int)) : ∃ d, scr d ns ∧ Rp K (fun _ => False) 0 (fun _ => 0) H (.ref a) d := by
  rcases h with (q | ⟨o, q⟩) | q
  · exact ⟨_, .inl rfl, .lst q (fun z => z) (fun i hi => absurd hi (Nat.not_lt_zero _)) (rps_ints ns)⟩
  · exact ⟨_, .inr rfl, .frz q (rps_ints ns)⟩
  · exact ⟨_, .inr rfl, .klst q (rps_ints ns)⟩
theorem good_nil {K : PySem.W.Frag} {H : Hp} : Good K (fun _ => False) (fun _ => 0) H [] := ⟨fun i c e => by simp at e, fun i j hi => absurd hi (Nat.not_lt_zero _), fun _ z => z.elim, fun i hi => absurd hi (Nat.not_lt_zero _)⟩
theorem sp_law {K : PySem.W.Frag} {cls : Str → Option Addr} {F : Fn} {H : Hp} {a : Addr} {ns : List Int} (ev : ∀ d, scr d ns → ∃ S, F [d] [] = some (.ok (.bl true), S)) (h : SqL K H a (ns.map V.int)) :
    spM K cls 1 F [V.ref a] H (fun v _ => v = V.bl true) fun _ _ _ => False := by
  obtain ⟨d, hd, r⟩ := scr_rep h
  obtain ⟨S, e⟩ := ev d hd
  refine ⟨_, _, [], [d], _, good_nil, .cons r .nil, rfl, e, fun b φ' H' _ _ q => ?_⟩
  cases (show Rp _ _ _ _ _ b (.bl true) from q)
  rfl
section
variable {P : Program} {w : World} {K : PySem.W.Frag} {mg mb : Str → Option Value} {k : Nat} {fa a : Addr} {fd : FuncData} {x : Str} {sp : Sp} {t : Shared} {vs : List Value} {ns : List Int}
/-- what the call of the law leaves -/
abbrev After (t : Shared) (r : Result) (u : Shared) : Prop := r = .ok (.ret (.bool true)) ∧ (OldK t.heap u.heap ∧ (u.os = t.os ∧ AllBare u.gens))
theorem law_at (inK : K.In t.heap) (gl : t.heap.Ns mainGlobals mg) (bl : t.heap.Ns builtinsNs mb) (blt : ∀ y : Str, y ≠ "__name__" → mb y = bootBuiltins y) (nl : t.heap.NoLimit) (g0 : t.gens = #[])
    (obj : t.heap.get? a = some { cls := .type "list", data := .seq vs.toArray }) (room : Room k callerA) (G : ∀ base : Heap, K.In base → base.Ns mainGlobals mg → FnG P w K mg base (L2.CX P w) k fa fd [x] sp)
    (bi : ∀ (s : Shared) (u : Value), BindsTo s fd ⟨[u], []⟩ [(x, u)]) {H : Hp} (only : Only H) (wish : sp [.ref a] H (fun v _ => v = .bl true) fun _ _ _ => False) (ok : HOk P w H t.heap)
    (just : ∀ b, H b ≠ none → b = a) (away : H a ≠ none → K.lookup a = none) : codeAny (model P w) callerA (.call (.ref fa) ⟨[.ref a], []⟩) (After t) t := by
  have low : ∀ {b : Addr} {o : Obj}, t.heap.get? b = some o → H b = none → (hidT t.heap H).get? b = some o := fun e z => hidT_get e z
  have free : ∀ {b : Addr} {o : Obj} {es : Array DictEntry} {ep : Nat}, t.heap.get? b = some o → o.data = .dict es ep → H b = none := by
    intro b o es ep e d
    cases q : H b with
    | none => rfl
    | some u =>
      obtain rfl := just b (fun z => by rw [q] at z; cases z)
      rw [obj] at e
      cases e
      have z : Data.seq vs.toArray _ = Data.dict es ep := d
      cases z
  have names : ∀ {b : Addr} {m : Str → Option Value}, t.heap.Ns b m → (hidT t.heap H).Ns b m := by
    rintro b m ⟨o, es, ep, e, d, r⟩
    exact ⟨o, es, ep, low e (free e d), d, r⟩
  have inB : K.In (hidT t.heap H) := by
    intro b o e
    refine low (inK b o e) ?_
    cases q : H b with
    | none => rfl
    | some u =>
      obtain rfl := just b (fun z => by rw [q] at z; cases z)
      rw [away (fun z => by rw [q] at z; cases z)] at e
      cases e
  obtain ⟨mc, l1, l2⟩ := nl
  have M : Mod K mg (hidT t.heap H) := ⟨inB, names gl, ⟨mb, names bl, blt⟩, ⟨mc, names l1, l2⟩⟩
  have no : ∀ b : Addr, b ∈ frs ([] : List PySem.Env) → H b = none := fun b z => absurd (show b ∈ ([] : List Addr) from z) (by simp)
  have e0 : Env0 P w K mg (hidT t.heap H) callerA [] t H := ⟨rfl, M, fun _ _ e => of_hidT e, Nat.le_of_eq (hidT_size _ _), trivial, no, ok, .of_eq g0⟩
  refine codeAny_mono ((G _ inB (names gl)).run callerA [] t H ⟨[.ref a], []⟩ [.ref a] [.ref a] _ _ room rfl e0 (bi t (.ref a)) (.cons rfl .nil) wish) fun r u end_ => ?_
  match r, end_ with
  | .error _, ⟨_, _, _, _, _, _, _, _, _, _, _, _, z⟩ => exact z.elim
  | .ok (.ret y), ⟨v, H', os, bare, un, ok', rv, (q : v = .bl true)⟩ =>
    subst q
    obtain rfl : y = Value.bool true := rv
    refine ⟨rfl, OldK.of_keep fun b o e => ?_, os, bare⟩
    cases q : H b with
    | none => exact un.keep b o e q (fun z => absurd (show b ∈ ([] : List Addr) from z) (by simp)) (by simp)
    | some y =>
      rcases only b with z | ⟨ob, xs, z⟩
      · rw [q] at z
        cases z
      · obtain ⟨h1, _⟩ := ok b _ z
        obtain ⟨h2, _⟩ := ok' b _ (un.frzs b ob _ z)
        rw [e] at h1
        cases h1
        exact h2
theorem law_end (inK : K.In t.heap) (gl : t.heap.Ns mainGlobals mg) (bl : t.heap.Ns builtinsNs mb) (blt : ∀ y : Str, y ≠ "__name__" → mb y = bootBuiltins y) (nl : t.heap.NoLimit) (g0 : t.gens = #[])
    (obj : t.heap.get? a = some { cls := .type "list", data := .seq vs.toArray }) (nums : IntsAre vs ns) (few : ns.length ≤ sizeLine) (room : Room k callerA) (G : ∀ base : Heap, K.In base → base.Ns mainGlobals mg → FnG P w K mg base (L2.CX P w) k fa fd [x] sp)
    (bi : ∀ (s : Shared) (u : Value), BindsTo s fd ⟨[u], []⟩ [(x, u)]) (wish : ∀ H : Hp, SqL K H a (ns.map V.int) → sp [.ref a] H (fun v _ => v = .bl true) fun _ _ _ => False) : codeAny (model P w) callerA (.call (.ref fa) ⟨[.ref a], []⟩) (After t) t := by
  have rv := vals_ints nums
  have size := nums.length
  cases q : K.lookup a with
  | some o =>
    have e := inK a o q
    rw [obj] at e
    cases e
    have sq : SqL K (fun _ => none) a (ns.map V.int) := .inr ⟨_, vs.toArray, _, q, rfl, rfl, rfl, by rw [List.size_toArray, size]; exact few, by simpa using rv⟩
    exact law_at inK gl bl blt nl g0 obj room G bi (H := fun _ => none) (fun _ => .inl rfl) (wish _ sq) (fun _ _ z => nomatch z) (fun _ z => absurd rfl z) fun z => absurd rfl z
  | none =>
    obtain ⟨Z, hZ⟩ : ∃ Z : Hp, Z = fun b => if b = a then some (.frz { cls := .type "list", data := .seq vs.toArray } (.lst (ns.map V.int))) else none := ⟨_, rfl⟩
    have at_ : Z a = some (.frz { cls := .type "list", data := .seq vs.toArray } (.lst (ns.map V.int))) := by rw [hZ]; exact if_pos rfl
    have off : ∀ b, b ≠ a → Z b = none := fun b n => by rw [hZ]; exact if_neg n
    refine law_at inK gl bl blt nl g0 obj room G bi (H := Z) (fun b => ?_) (wish _ (.inl (.inr ⟨_, at_⟩))) (fun b u z => ?_) (fun b z => Decidable.byContradiction fun n => z (off b n)) fun _ => q
    · by_cases n : b = a
      · subst n
        exact .inr ⟨_, _, at_⟩
      · exact .inl (off b n)
    · by_cases n : b = a
      · subst n
        rw [at_] at z
        cases z
        exact ⟨obj, by rw [List.length_map]; exact few, vs, _, rv, obj⟩
      · rw [off b n] at z
        cases z
end
/-- THE END of a law: our machine answers True at every script -/
theorem law_walk {l : PySem.W.OpenLaw} {k : Nat} {q : Program} {loose : List Str} {XP : (Str → Option Value) → Heap → Prop} {YP : World → Heap → Prop} {d : DefRec} {x : Str} {F : Fn} (hn : l.most = some 63) (hdf : d.params.defaults = []) (room : Room k callerA)
    (get : ∀ (w : World) (mg : Str → Option Value) (fa : Addr) (h : Heap), YP w h → h.Ns mainGlobals mg → mg d.name = some (.ref fa) → ∃ (K : PySem.W.Frag) (fd : FuncData) (cls : Str → Option Addr), K.In h ∧
      (∀ (s : Shared) (u : Value), BindsTo s fd ⟨[u], []⟩ [(x, u)]) ∧ ∀ base : Heap, K.In base → base.Ns mainGlobals mg → FnG l.prog w K mg base (L2.CX l.prog w) k fa fd [x] (spM K cls 1 F))
    (ev : ∀ (ns : List Int) (d : D), ns.length ≤ 63 → (∀ i ∈ ns, Builtin.Int.intBits i ≤ 1048576) → scr d ns → ∃ S, F [d] [] = some (.ok (.bl true), S)) : PySem.W.WalkO q loose XP YP l.row.toRowW d [] (fun f vs => PySem.call f vs) := by
  refine attach_callB hn hdf fun w s t mg mb fa o pm cd doc a vs ns G Y ho hd hcd hmg obj nums few bits g0 => ?_
  obtain ⟨K, fd, cls, inK, bi, hF⟩ := get w mg fa _ Y G.T.g hmg
  exact law_end inK G.T.g G.T.b G.T.builtins G.T.nolimit g0 obj nums (Nat.le_trans few (by decide)) room hF bi fun H sq => sp_law (fun d hd => ev ns d few bits hd) sq
end Pv

/-! Pv, part R: in, is, chains; tuples of the module's own top. -/
namespace Pv
open PySem PySem.Spec PyProof.Rows L2 PySem.Calls

def scs : List D → Option (List V)
  | [] => some []
  | d :: ds => (match d.sc with
    | some v => (scs ds).map (v :: ·)
    | none => none)
theorem sc_flat {d : D} {v : V} (h : d.sc = some v) : flatV v = true := by
  cases d <;> cases h <;> rfl
theorem scs_ok {K : PySem.W.Frag} {R : Addr → Prop} {n : Nat} {φ : Nat → Addr} {H : Hp} : ∀ {vs : List V} {ds : List D} {ws : List V}, Rps K R n φ H vs ds → scs ds = some ws → vs = ws ∧ ws.all flatV = true
  | _, [], _, .nil, h => by cases h; exact ⟨rfl, rfl⟩
  | _, d :: ds, ws, .cons r rs, h => by
    simp only [scs] at h
    split at h
    · rename_i v e
      cases q : scs ds with
      | none => rw [q] at h; cases h
      | some us =>
        rw [q] at h
        cases h
        obtain ⟨rfl, hf⟩ := scs_ok rs q
        rw [sc_ok r e]
        exact ⟨rfl, by rw [List.all_cons, sc_flat e, hf]; rfl⟩
    · cases h
def flip (neg b : Bool) : Bool := if neg then !b else b
def oIn (neg : Bool) (x y : D) (S : Store) : Out D := match x, y with
  | .str i, .str j => ret (.bl (flip neg (!(Builtin.Str.occurrences j i 0 j.length 1).isEmpty))) S
  | x, y => (match x.sc, (asQ S y).bind scs with
    | some v, some ws => ret (.bl (flip neg (inV v ws))) S
    | _, _ => (match x.py S, y.py S with
      | some p, some (.list ps) => guard' (SeqAt.shaped p && SeqAt.shaped (.list ps)) (ret (.bl (flip neg (ps.any fun z => PyData.eqv z p))) S)
      | _, _ => none))
def rInM (K : PySem.W.Frag) (neg : Bool) : R2 := fun x y H Q => (∃ i j, x = .str i ∧ y = .str j ∧ Q (.bl (flip neg (!(Builtin.Str.occurrences j i 0 j.length 1).isEmpty))) H) ∨ (rIn K neg x y H Q ∨
  ∃ d ds, Dp K H x d ∧ Dp K H y (.list ds) ∧ SeqAt.shaped d = true ∧ SeqAt.shaped (.list ds) = true ∧ Q (.bl (flip neg (ds.any fun z => PyData.eqv z d))) H)
theorem op_inM {X : Cx} (hu : X.A.units + 65 < cLine) : OpR X (compareOp .In) (rInM X.K false) := OpR.or op_in_str (OpR.or op_in_seq (op_inD hu))
theorem op_notInM {X : Cx} (hu : X.A.units + 65 < cLine) : OpR X (compareOp .NotIn) (rInM X.K true) := OpR.or op_notin_str (OpR.or op_notIn_seq (op_notInD hu))
theorem opm_in {c : Ct} {neg : Bool} : OpM c (rInM c.K neg) (oIn neg) := by
  intro φ S H Q x y a b z g rx ry h hp
  unfold oIn at h
  split at h
  · cases rx
    cases ry
    cases h
    exact .inl ⟨_, _, rfl, rfl, hp.now g (.bl _)⟩
  · split at h
    · rename_i v ws e1 e2
      cases h
      cases e3 : asQ S b with
      | none => rw [e3] at e2; cases e2
      | some ds =>
        rw [e3] at e2
        obtain ⟨p, xs, rfl, k, q⟩ := asQ_ok g ry e3
        obtain ⟨rfl, hf⟩ := scs_ok q e2
        rw [sc_ok rx e1]
        refine .inr (.inl ⟨p, _, rfl, k, sc_flat e1, hf, ?_⟩)
        cases neg <;> exact hp.now g (.bl _)
    · split at h
      · rename_i e1 e2
        obtain ⟨hs, h⟩ := guard_ok h
        cases h
        rw [Bool.and_eq_true] at hs
        exact .inr (.inr ⟨_, _, py_ok g rx e1, py_ok g ry e2, hs.1, hs.2, hp.now g (.bl _)⟩)
      · cases h
theorem oIn_bl (neg : Bool) : ∀ x y S d S', oIn neg x y S = some (.ok d, S') → ∃ k, d = .bl k := fun x y S d S' h => by
  unfold oIn at h
  split at h
  · cases h; exact ⟨_, rfl⟩
  · split at h
    · cases h; exact ⟨_, rfl⟩
    · split at h
      · obtain ⟨_, h⟩ := guard_ok h
        cases h; exact ⟨_, rfl⟩
      · cases h
section
variable {X : Cx} {c : Ct} {k : Nat} {a b e : Expr} {pos : Pos} {fa fb fd : Env → Store → Out D} {x : Str}
theorem Bd.u65 {X : Cx} {c : Ct} {k : Nat} (B : Bd X c k) : X.A.units + 65 < cLine := by have := B.room.un; omega
theorem qIn (hK : c.K = X.K) (hu : X.A.units + 65 < cLine) (ha : PE X a (mE c fa)) (hb : PE X b (mE c fb)) (hk : behindInMarks .In b = false := by rfl) : PE X (.Compare a [.In] [b] pos) (mE c (eBin (oIn false) fa fb)) := m_cmp (r := rInM X.K false) (op_inM hu) (by rw [← hK]; exact opm_in) ha hb hk
theorem qNotIn (hK : c.K = X.K) (hu : X.A.units + 65 < cLine) (ha : PE X a (mE c fa)) (hb : PE X b (mE c fb)) (hk : behindInMarks .NotIn b = false := by rfl) : PE X (.Compare a [.NotIn] [b] pos) (mE c (eBin (oIn true) fa fb)) := m_cmp (r := rInM X.K true) (op_notInM hu) (by rw [← hK]; exact opm_in) ha hb hk
theorem tIn (hK : c.K = X.K) (hu : X.A.units + 65 < cLine) (ha : PE X a (mE c fa)) (hb : PE X b (mE c fb)) (hk : behindInMarks .In b = false := by rfl) : PT X (.Compare a [.In] [b] pos) (mB c (eTru (eBin (oIn false) fa fb))) := b_cmp (r := rInM X.K false) (op_inM hu) (by rw [← hK]; exact opm_in) ha hb hk (oIn_bl _)
theorem tNotIn (hK : c.K = X.K) (hu : X.A.units + 65 < cLine) (ha : PE X a (mE c fa)) (hb : PE X b (mE c fb)) (hk : behindInMarks .NotIn b = false := by rfl) : PT X (.Compare a [.NotIn] [b] pos) (mB c (eTru (eBin (oIn true) fa fb))) := b_cmp (r := rInM X.K true) (op_notInM hu) (by rw [← hK]; exact opm_in) ha hb hk (oIn_bl _)
theorem qIs (ha : PE X a (mE c fa)) (hb : PE X b (mE c fb)) : PE X (.Compare a [.Is] [b] pos) (mE c (eBin (oIs false) fa fb)) := m_cmp op_isN opm_is ha hb (nomark _)
theorem qIsNot (ha : PE X a (mE c fa)) (hb : PE X b (mE c fb)) : PE X (.Compare a [.IsNot] [b] pos) (mE c (eBin (oIs true) fa fb)) := m_cmp op_notN opm_isnot ha hb (nomark _)
theorem tIs (ha : PE X a (mE c fa)) (hb : PE X b (mE c fb)) : PT X (.Compare a [.Is] [b] pos) (mB c (eTru (eBin (oIs false) fa fb))) := b_cmp op_isN opm_is ha hb (nomark _) (oIs_bl _)
theorem tIsNot (ha : PE X a (mE c fa)) (hb : PE X b (mE c fb)) : PT X (.Compare a [.IsNot] [b] pos) (mB c (eTru (eBin (oIs true) fa fb))) := b_cmp op_notN opm_isnot ha hb (nomark _) (oIs_bl _)
/-- a tuple of texts of the module -/
theorem rps_strsT {K : PySem.W.Frag} {R : Addr → Prop} {n : Nat} {φ : Nat → Addr} {H : Hp} (ws : List Str) : Rps K R n φ H (ws.map V.str) (ws.map D.str) := rps_strs ws
theorem qGT {ws : List Str} (hK : c.K = X.K) (hm : ∃ a, X.mg x = some (.ref a) ∧ ∀ H, SqT X.K H a (ws.map V.str)) (hg : Gl X x := by rfl) (hdb : (x == ("__debug__" : Str)) = false := by decide) : PE X (.Name x pos) (mE c (eC (.tup (ws.map D.str)))) :=
  let ⟨a, h, hs⟩ := hm
  m_glob (v := .ref a) (fun n φ H => .tup (by rw [hK]; exact hs H) (rps_strs ws)) hg h rfl hdb
end
/-! ### a Hook that tells tuples, too -/
abbrev Tb : Type := List (Str × List Str)
def tabB (tb : Tb) (K : PySem.W.Frag) : Bool := tb.all fun p => He.tupB K p.1 (p.2.map He.Dv.str) && He.eqO (PySem.W.nsIn K mainGlobals p.1) (some (some (.ref (He.ga K p.1))))
def hookT (n : Nat) (fa : List He.Fa) (fn : List He.DefD) (tb : Tb) : PySem.W.Hook where
  α := He.AlD × Bool
  obs := fun s => (He.obsDG n fa fn s.heap.get?, tabB tb (He.frG s.heap.get? (He.asD s.heap.get? n)))
  val := fun _ => (He.valD fn, true)
  says := fun _ h => ∃ K : PySem.W.Frag, K.In h ∧ (He.SaysD fa fn K ∧ tabB tb K = true)
  of := fun _ _ e => ⟨_, He.frG_in, congrArg Prod.fst e, congrArg Prod.snd e⟩
  keeps := fun _ _ _ ⟨K, h, q⟩ k => ⟨K, PySem.W.Frag.In.keeps h k, q⟩
theorem tab_ok {tb : Tb} {K : PySem.W.Frag} {h : Heap} {mg : Str → Option Value} (inK : K.In h) (G : h.Ns mainGlobals mg) (t : tabB tb K = true) (i : Nat) {p : Str × List Str} (e : tb[i]? = some p := by rfl) : ∃ a, mg p.1 = some (.ref a) ∧ ∀ H, SqT K H a (p.2.map V.str) := by
  have q := List.all_eq_true.mp t p (List.mem_of_getElem? e)
  obtain ⟨q1, q2⟩ := He.ba q
  refine ⟨He.ga K p.1, PySem.W.mg_of inK G (He.eqO_ok q2), fun H => ?_⟩
  have r := He.tupB_ok q1 H
  have e2 : (p.2.map He.Dv.str).map (He.Dv.v K) = p.2.map V.str := by
    rw [List.map_map]
    rfl
  rwa [e2] at r
end Pv

/-! Pv, part S: walks over pairs. -/
namespace Pv
open PySem PySem.Spec PyProof.Rows L2 PySem.Calls

def iEn (fs : Env → Store → Out (List D)) : SemI := fun ρ S => bnd (fs ρ S) fun ds S1 => match ds with
  | [x] => (match asL S1 x with
    | some _ => ret (.enm x) S1
    | none => none)
  | _ => none
def bothL (S : Store) (x y : D) : Bool := match x, y with
  | .tup _, .tup _ => true
  | .tup _, _ => false
  | x, y => (asL S x).isSome && (asL S y).isSome
def iZp (fs : Env → Store → Out (List D)) : SemI := fun ρ S => bnd (fs ρ S) fun ds S1 => match ds with
  | [x, y] => if bothL S1 x y then ret (.zip x y) S1 else none
  | _ => none
section
variable {X : Cx} {c : Ct} {k : Nat} {e e2 : Expr} {p pos tpos : Pos} {elts : List Expr} {kk : Nat} {fs : Env → Store → Out (List D)}
theorem iEnum1 (hK : c.K = X.K) (hm : X.mg "enumerate" = none) (ha : PA X [e] (mA c fs)) (hg : Gl X "enumerate" := by rfl) (hs : starEach [e] X.env = [(false, eval e X.env)] := by rfl) : PI X (.Tuple elts kk tpos) (.Call (.Name "enumerate" p) [e] [] pos) (mI c (iEn fs)) := by
  refine pi_weak (pi_enum hg hm ha hs) fun σ H R ⟨φ, S, ρ, z, hg, hr, hf, hp⟩ => ?_
  refine Wp.fst (rel := RL c) hg hr hf hp fun ds S1 vs φ1 H1 s1 g1 e1 r1 hf1 hp1 => ?_
  split at hf1
  · obtain ⟨v, rfl, rv⟩ := Rps.one r1
    split at hf1
    · rename_i x ds ea
      cases hf1
      obtain ⟨q, xs, rfl, k1, _⟩ := asL_ok g1 rv ea
      rw [hK] at k1
      exact ⟨q, xs, rfl, k1, by rw [← hK]; exact hp1.now g1 (.enm rv)⟩
    · cases hf1
  · cases hf1
theorem iZip2 (hK : c.K = X.K) (hm : X.mg "zip" = none) (ha : PA X [e, e2] (mA c fs)) (hg : Gl X "zip" := by rfl) (hs : starEach [e, e2] X.env = (false, eval e X.env) :: starEach [e2] X.env := by rfl) (hpl : (backTo pos (starEach [e2] X.env)).any (·.1) = false := by rfl) :
    PI X (.Tuple elts kk tpos) (.Call (.Name "zip" p) [e, e2] [] pos) (mI c (iZp fs)) := by
  refine pi_weak (RZ.pi_zipA hg hm ha hs hpl) fun σ H R ⟨φ, S, ρ, z, hg, hr, hf, hp⟩ => ?_
  refine Wp.fst (rel := RL c) hg hr hf hp fun ds S1 vs φ1 H1 s1 g1 e1 r1 hf1 hp1 => ?_
  split at hf1
  · rename_i x y
    obtain ⟨v, w, rfl, rv, rw'⟩ := Rps.two r1
    split at hf1
    · rename_i hb
      cases hf1
      unfold bothL at hb
      split at hb
      · cases rv with
        | tup k1 q1 =>
          cases rw' with
          | tup k2 q2 =>
            rw [hK] at k1 k2
            exact ⟨_, _, _, _, rfl, .inr ⟨k1, k2, by rw [← hK]; exact hp1.now g1 (.zipT (.tup (by rw [hK]; exact k1) q1) (.tup (by rw [hK]; exact k2) q2))⟩⟩
      · cases hb
      · rename_i hx1 hx2
        rw [Bool.and_eq_true] at hb
        obtain ⟨as, ea⟩ := Option.isSome_iff_exists.mp hb.1
        obtain ⟨bs, eb⟩ := Option.isSome_iff_exists.mp hb.2
        obtain ⟨q, xs, rfl, k1, _⟩ := asL_ok g1 rv ea
        obtain ⟨q2, ys, rfl, k2, _⟩ := asL_ok g1 rw' eb
        rw [hK] at k1 k2
        refine ⟨q, q2, xs, ys, rfl, .inl ⟨k1, k2, by rw [← hK]; exact hp1.now g1 (.zip rv rw' hx1)⟩⟩
    · cases hf1
  · cases hf1
/-- three names at once -/
theorem par3_mono {i j l : Nat} {fs : Env → Store → Out (List D)} {d : Ends} {σ : L2.St} {H : Hp} (h : mT c (sPar [i, j, l] fs) d σ H) : tPar3 i j l (mA c fs) d σ H := by
  obtain ⟨φ, S, ρ, r, hg, hr, hf, hp⟩ := h
  refine mT_fst (rel := RL c) hg hr hf hp fun ds S1 vs φ1 H1 s1 g1 e1 r1 hf1 hp1 => ?_
  split at hf1
  · rename_i es
    cases hf1
    have hl := setAll_len es
    match ds, r1, hl, es with
    | [x, y, z], .cons r2 (.cons r3 (.cons r4 .nil)), _, es =>
      cases es
      exact ⟨_, _, _, rfl, hp1.next g1 (((e1.set i r2).set j r3).set l r4)⟩
  · cases hf1
theorem zPar3 {i j l : Nat} {x y z : Str} {a b d : Expr} {px py pz pt : Pos} {kt k2 : Nat} {pt2 : Pos} (B : Bd X c k) (hN : X.N.Nodup) (ha : PA X [a, b, d] (mA c fs)) (hi : X.N[i]? = some x := by rfl) (hj : X.N[j]? = some y := by rfl) (hl : X.N[l]? = some z := by rfl) (hij : i ≠ j := by decide) (hil : i ≠ l := by decide) (hjl : j ≠ l := by decide)
    (hx : X.env.scope.names.lookup x = some .local := by rfl) (hy : X.env.scope.names.lookup y = some .local := by rfl) (hz : X.env.scope.names.lookup z = some .local := by rfl)
    (hw : swappedStores [.Tuple [.Name x px, .Name y py, .Name z pz] kt pt] (.Tuple [a, b, d] k2 pt2) X.env = pure (some [x, y, z]) := by rfl) (hs : swapsWithSole [.Tuple [.Name x px, .Name y py, .Name z pz] kt pt] (.Tuple [a, b, d] k2 pt2) pos.line X.env = pure false := by rfl) :
    PS X (.Assign [.Tuple [.Name x px, .Name y py, .Name z pz] kt pt] (.Tuple [a, b, d] k2 pt2) pos) (mT c (sPar [i, j, l] fs)) := ps_weak (ps_par3 B.calm hN hi hj hl hij hil hjl hx hy hz ha hw hs) fun _ _ _ => par3_mono
theorem tru_bl {f : Env → Store → Out D} (hbl : ∀ ρ S d S', f ρ S = some (.ok d, S') → ∃ k, d = .bl k) {σ : L2.St} {H : Hp} {Q : Bool → Hp → Prop} (h : mB c (eTru f) σ H Q) : mE c f σ H fun v H' => ∃ k, v = .bl k ∧ Q k H' := by
  obtain ⟨φ, S, ρ, z, hg, hr, hf, hp⟩ := h
  cases e : f ρ S with
  | none =>
    unfold eTru at hf
    rw [e] at hf
    cases hf
  | some q =>
    obtain ⟨q, S1⟩ := q
    unfold eTru at hf
    rw [e] at hf
    refine ⟨φ, S, ρ, _, hg, hr, e, ?_⟩
    cases q with
    | ex x => cases hf; exact hp
    | ok d =>
      obtain ⟨b, rfl⟩ := hbl ρ S d S1 e
      cases hf
      refine fun v φ' H' s g rv => ?_
      cases rv
      exact ⟨b, rfl, hp b φ' H' s g rfl⟩
theorem chain_bl {o o' : D → D → Store → Out D} {fa fb fd : Env → Store → Out D} (hbl : ∀ x y S d S', o' x y S = some (.ok d, S') → ∃ k, d = .bl k) : ∀ ρ S d S', eChain o o' fa fb fd ρ S = some (.ok d, S') → ∃ k, d = .bl k := by
  intro ρ S d S' h
  have up : ∀ {α : Type} {m : Out α} {f : α → Store → Out D}, bnd m f = some (.ok d, S') → ∃ a S1, m = some (.ok a, S1) ∧ f a S1 = some (.ok d, S') := by
    intro α m f e
    cases q : m with
    | none => rw [q] at e; cases e
    | some r =>
      obtain ⟨r, S1⟩ := r
      rw [q] at e
      cases r with
      | ok a => exact ⟨a, S1, rfl, e⟩
      | ex x => cases e
  unfold eChain at h
  obtain ⟨x, S1, _, h⟩ := up h
  obtain ⟨y, S2, _, h⟩ := up h
  obtain ⟨w, S3, _, h⟩ := up h
  unfold chK at h
  split at h
  · obtain ⟨z, S4, _, h⟩ := up h
    exact hbl _ _ _ _ _ h
  · cases h
    exact ⟨_, rfl⟩
  · cases h
theorem tChn {op op' : CmpOp} {r r' : R2} {o o' : D → D → Store → Out D} {a b d : Expr} {fa fb fd : Env → Store → Out D} (ho : OpR X (compareOp op) r) (ho' : OpR X (compareOp op') r') (hm : OpM c r o) (hm' : OpM c r' o') (hbl : ∀ x y S d S', o' x y S = some (.ok d, S') → ∃ k, d = .bl k)
    (ha : PE X a (mE c fa)) (hb : PE X b (mE c fb)) (hd : PE X d (mE c fd)) (hk : lastMarks [op, op'] [b, d] = false := by rfl) : PT X (.Compare a [op, op'] [b, d] pos) (mB c (eTru (eChain o o' fa fb fd))) :=
  pt_weak (pt_chain ho ho' ha hb hd hk) fun σ H Q h => chain_mono (op := op) (op' := op') hm hm' (tru_bl (chain_bl hbl) h)
end
end Pv

/-! Pv, part P: reckoning with our machine: what an answer is, from the parts. -/
namespace Pv
open PySem PySem.Spec

/-- it answers, and the answer keeps P -/
def Rn {α : Type} (m : Out α) (P : α → Store → Prop) : Prop := ∃ a S, m = some (.ok a, S) ∧ P a S
theorem Rn.imp {α : Type} {m : Out α} {P Q : α → Store → Prop} (h : Rn m P) (k : ∀ a S, P a S → Q a S) : Rn m Q := let ⟨a, S, e, p⟩ := h; ⟨a, S, e, k a S p⟩
@[simp] theorem rn_bnd {α β : Type} {m : Out α} {k : α → Store → Out β} {P : β → Store → Prop} : Rn (bnd m k) P ↔ Rn m fun a S => Rn (k a S) P := by
  constructor
  · rintro ⟨b, S, e, p⟩
    cases h : m with
    | none => rw [h] at e; cases e
    | some q =>
      obtain ⟨q, S1⟩ := q
      rw [h] at e
      cases q with
      | ok a => exact ⟨a, S1, rfl, b, S, e, p⟩
      | ex x => cases e
  · rintro ⟨a, S1, e, b, S, e2, p⟩
    exact ⟨b, S, by rw [e]; exact e2, p⟩
@[simp] theorem rn_bndN {α β : Type} {m : Out α} {k : α → Store → Out β} {P : β → Store → Prop} : Rn (bndN m k) P ↔ Rn m fun a S => Rn (k a S) P := by
  constructor
  · rintro ⟨b, S, e, p⟩
    cases h : m with
    | none => rw [h] at e; cases e
    | some q =>
      obtain ⟨q, S1⟩ := q
      rw [h] at e
      cases q with
      | ok a => exact ⟨a, S1, rfl, b, S, e, p⟩
      | ex x => cases e
  · rintro ⟨a, S1, e, b, S, e2, p⟩
    exact ⟨b, S, by rw [e]; exact e2, p⟩
@[simp] theorem rn_ret {α : Type} {a : α} {S : Store} {P : α → Store → Prop} : Rn (ret a S) P ↔ P a S :=
  ⟨fun ⟨_, _, e, p⟩ => by cases e; exact p, fun p => ⟨a, S, rfl, p⟩⟩
@[simp] theorem rn_guard {α : Type} {b : Bool} {m : Out α} {P : α → Store → Prop} : Rn (guard' b m) P ↔ b = true ∧ Rn m P := by
  cases b with
  | true => simp
  | false => exact ⟨fun ⟨_, _, e, _⟩ => (nomatch e), fun ⟨h, _⟩ => (nomatch h)⟩
@[simp] theorem rn_none {α : Type} {P : α → Store → Prop} : Rn (none : Out α) P ↔ False := ⟨fun ⟨_, _, e, _⟩ => (nomatch e), False.elim⟩
theorem rn_ite {α : Type} {c : Prop} [Decidable c] {m m' : Out α} {P : α → Store → Prop} : Rn (if c then m else m') P ↔ if c then Rn m P else Rn m' P := by
  by_cases h : c
  · rw [if_pos h, if_pos h]
  · rw [if_neg h, if_neg h]
theorem rn_cond {α : Type} {c : Bool} {m m' : Out α} {P : α → Store → Prop} : Rn (if c = true then m else m') P ↔ (c = true → Rn m P) ∧ (c = false → Rn m' P) := by
  cases c <;> simp

/-! ### expressions -/
section
variable {ρ : Env} {S : Store}
@[simp] theorem rn_eC {d : D} {P : D → Store → Prop} : Rn (eC d ρ S) P ↔ P d S := rn_ret
theorem rn_eVar {i : Nat} {d : D} {P : D → Store → Prop} (h : ρ[i]? = some (some d)) : Rn (eVar i ρ S) P ↔ P d S := by
  unfold eVar
  rw [h]
  exact rn_ret
@[simp] theorem rn_eBin {op : D → D → Store → Out D} {f g : Env → Store → Out D} {P : D → Store → Prop} : Rn (eBin op f g ρ S) P ↔ Rn (f ρ S) fun x S1 => Rn (g ρ S1) fun y S2 => Rn (op x y S2) P := by
  unfold eBin; simp
@[simp] theorem rn_eUn {op : D → Store → Out D} {f : Env → Store → Out D} {P : D → Store → Prop} : Rn (eUn op f ρ S) P ↔ Rn (f ρ S) fun x S1 => Rn (op x S1) P := by
  unfold eUn; simp
@[simp] theorem rn_eBl {o : List D → Store → Out D} {fs : Env → Store → Out (List D)} {P : D → Store → Prop} : Rn (eBl o fs ρ S) P ↔ Rn (fs ρ S) fun xs S1 => Rn (o xs S1) P := by
  unfold eBl; simp
@[simp] theorem rn_eNil {P : List D → Store → Prop} : Rn (eNil ρ S) P ↔ P [] S := rn_ret
@[simp] theorem rn_eCons {f : Env → Store → Out D} {fs : Env → Store → Out (List D)} {P : List D → Store → Prop} : Rn (eCons f fs ρ S) P ↔ Rn (f ρ S) fun x S1 => Rn (fs ρ S1) fun xs S2 => P (x :: xs) S2 := by
  unfold eCons; simp
@[simp] theorem rn_eTup {fs : Env → Store → Out (List D)} {P : D → Store → Prop} : Rn (eTup fs ρ S) P ↔ Rn (fs ρ S) fun xs S1 => xs.length ≤ line ∧ P (.tup xs) S1 := by
  unfold eTup; simp
@[simp] theorem rn_eLst {fs : Env → Store → Out (List D)} {P : D → Store → Prop} : Rn (eLst fs ρ S) P ↔ Rn (fs ρ S) fun xs S1 => xs.length ≤ line ∧ P (.lst xs) S1 := by
  unfold eLst; simp
@[simp] theorem rn_eCall {F : Fn} {dd : List D} {fs : Env → Store → Out (List D)} {P : D → Store → Prop} : Rn (eCall F dd fs ρ S) P ↔ Rn (fs ρ S) fun xs S1 => Rn (F (xs ++ dd) S1) P := by
  unfold eCall; simp
@[simp] theorem rn_ar {m : Nat} {F : Fn} {ds : List D} {P : D → Store → Prop} : Rn (ar m F ds S) P ↔ ds.length = m ∧ Rn (F ds S) P := by
  unfold ar; simp
@[simp] theorem rn_eTru {f : Env → Store → Out D} {P : Bool → Store → Prop} : Rn (eTru f ρ S) P ↔ Rn (f ρ S) fun d S1 => Rn (byT S1 d fun b => ret b S1) P := by
  unfold eTru; simp
theorem rn_byT {α : Type} {d : D} {b : Bool} {k : Bool → Out α} {P : α → Store → Prop} (h : truD S d = some b) : Rn (byT S d k) P ↔ Rn (k b) P := by
  unfold byT
  rw [h]
@[simp] theorem rn_byT_bl {α : Type} {b : Bool} {k : Bool → Out α} {P : α → Store → Prop} : Rn (byT S (.bl b) k) P ↔ Rn (k b) P := rn_byT (by rfl)
@[simp] theorem rn_bNot {f : Env → Store → Out Bool} {P : Bool → Store → Prop} : Rn (bNot f ρ S) P ↔ Rn (f ρ S) fun b S1 => P (!b) S1 := by
  unfold bNot; simp
@[simp] theorem rn_bOr {f g : Env → Store → Out Bool} {P : Bool → Store → Prop} : Rn (bOr f g ρ S) P ↔ Rn (f ρ S) fun b S1 => (b = true → P true S1) ∧ (b = false → Rn (g ρ S1) P) := by
  unfold bOr
  simp only [rn_bnd, rn_cond, rn_ret]
@[simp] theorem rn_bAnd {f g : Env → Store → Out Bool} {P : Bool → Store → Prop} : Rn (bAnd f g ρ S) P ↔ Rn (f ρ S) fun b S1 => (b = true → Rn (g ρ S1) P) ∧ (b = false → P false S1) := by
  unfold bAnd
  simp only [rn_bnd, rn_cond, rn_ret]
@[simp] theorem rn_eIf {t : Env → Store → Out Bool} {f g : Env → Store → Out D} {P : D → Store → Prop} : Rn (eIf t f g ρ S) P ↔ Rn (t ρ S) fun b S1 => (b = true → Rn (f ρ S1) P) ∧ (b = false → Rn (g ρ S1) P) := by
  unfold eIf
  simp only [rn_bnd, rn_cond]
@[simp] theorem rn_eM1 {o : D → D → Store → Out D} {f g : Env → Store → Out D} {P : D → Store → Prop} : Rn (eM1 o f g ρ S) P ↔ Rn (f ρ S) fun x S1 => isStr x = true ∧ Rn (g ρ S1) fun y S2 => Rn (o x y S2) P := by
  unfold eM1; simp
@[simp] theorem rn_eApp {f : Env → Store → Out D} {fs : Env → Store → Out (List D)} {P : D → Store → Prop} : Rn (eApp f fs ρ S) P ↔ Rn (f ρ S) fun x S1 => isList S1 x = true ∧ Rn (fs ρ S1) fun ds S2 => Rn (oApp x ds S2) P := by
  unfold eApp; simp
@[simp] theorem rn_eMk {f : Env → Store → Out D} {P : D → Store → Prop} : Rn (eMk f ρ S) P ↔ Rn (f ρ S) fun d S1 => ∃ ds, d = .lst ds ∧ P (.cell S1.length) (S1 ++ [.lst ds]) := by
  unfold eMk
  rw [rn_bnd]
  constructor
  · rintro ⟨d, S1, e, p⟩
    refine ⟨d, S1, e, ?_⟩
    cases d <;> simp at p <;> first | exact p.elim | exact ⟨_, rfl, p⟩
  · rintro ⟨d, S1, e, ds, rfl, p⟩
    exact ⟨_, S1, e, by simpa using p⟩
@[simp] theorem rn_eSl {f : Env → Store → Out D} {lo hi : Option (Env → Store → Out D)} {P : D → Store → Prop} : Rn (eSl f lo hi ρ S) P ↔ Rn (f ρ S) fun d S1 => Rn (ePart lo ρ S1) fun l S2 => Rn (ePart hi ρ S2) fun h S3 => Rn (oSl d l h S3) P := by
  unfold eSl; simp
@[simp] theorem rn_ePart_none {P : Option Int → Store → Prop} : Rn (ePart none ρ S) P ↔ P none S := rn_ret
@[simp] theorem rn_ePart_some {f : Env → Store → Out D} {P : Option Int → Store → Prop} : Rn (ePart (some f) ρ S) P ↔ Rn (f ρ S) fun d S1 => ∃ i, d = .int i ∧ P (some i) S1 := by
  unfold ePart
  rw [rn_bnd]
  constructor
  · rintro ⟨d, S1, e, p⟩
    refine ⟨d, S1, e, ?_⟩
    cases d <;> simp at p <;> first | exact p.elim | exact ⟨_, rfl, p⟩
  · rintro ⟨d, S1, e, i, rfl, p⟩
    exact ⟨_, S1, e, by simpa using p⟩
@[simp] theorem rn_eJs_nil {acc : Str} {P : D → Store → Prop} : Rn (eJs [] acc ρ S) P ↔ P (.str acc) S := rn_ret
theorem eJs_cons (f : Env → Store → Out D) (fs : List (Env → Store → Out D)) (acc : Str) (ρ : Env) (S : Store) : eJs (f :: fs) acc ρ S = bnd (f ρ S) fun d S1 => jsK d acc S1 fun a S2 => eJs fs a ρ S2 := rfl
@[simp] theorem rn_eJs_cons {f : Env → Store → Out D} {fs : List (Env → Store → Out D)} {acc : Str} {P : D → Store → Prop} : Rn (eJs (f :: fs) acc ρ S) P ↔ Rn (f ρ S) fun d S1 => ∃ y, d = .str y ∧ (acc ++ y).length ≤ line ∧ Rn (eJs fs (acc ++ y) ρ S1) P := by
  rw [eJs_cons, rn_bnd]
  constructor
  · rintro ⟨d, S1, e, p⟩
    refine ⟨d, S1, e, ?_⟩
    cases d <;> simp [jsK] at p
    exact ⟨_, rfl, p⟩
  · rintro ⟨d, S1, e, i, rfl, p⟩
    exact ⟨_, S1, e, by simpa [jsK] using p⟩
@[simp] theorem rn_eDisp {ks : List L2.Key} {fs : Env → Store → Out (List D)} {P : D → Store → Prop} : Rn (eDisp ks fs ρ S) P ↔ Rn (fs ρ S) fun ds S1 => ds.length = ks.length ∧ P (.cell S1.length) (S1 ++ [.dct (mergeD [] (ks.zip ds))]) := by
  unfold eDisp; simp
/-! ### statements -/
@[simp] theorem rn_sNil {P : Fl → Store → Prop} : Rn (sNil ρ S) P ↔ P (.nx ρ) S := rn_ret
/-- what follows a statement -/
def After' (g : SemS) (P : Fl → Store → Prop) : Fl → Store → Prop
  | .nx ρ, S => Rn (g ρ S) P
  | fl, S => P fl S
@[simp] theorem after_nx {g : SemS} {P : Fl → Store → Prop} {ρ : Env} {S : Store} : After' g P (.nx ρ) S ↔ Rn (g ρ S) P := Iff.rfl
@[simp] theorem after_rt {g : SemS} {P : Fl → Store → Prop} {d : D} {S : Store} : After' g P (.rt d) S ↔ P (.rt d) S := Iff.rfl
@[simp] theorem after_bk {g : SemS} {P : Fl → Store → Prop} {ρ : Env} {S : Store} : After' g P (.bk ρ) S ↔ P (.bk ρ) S := Iff.rfl
@[simp] theorem after_ct {g : SemS} {P : Fl → Store → Prop} {ρ : Env} {S : Store} : After' g P (.ct ρ) S ↔ P (.ct ρ) S := Iff.rfl
@[simp] theorem rn_sSeq {f g : SemS} {P : Fl → Store → Prop} : Rn (sSeq f g ρ S) P ↔ Rn (f ρ S) (After' g P) := by
  unfold sSeq
  rw [rn_bnd]
  constructor
  · rintro ⟨fl, S1, e, p⟩
    refine ⟨fl, S1, e, ?_⟩
    cases fl <;> simpa [flK] using p
  · rintro ⟨fl, S1, e, p⟩
    refine ⟨fl, S1, e, ?_⟩
    cases fl <;> simpa [flK] using p
@[simp] theorem rn_sDrop {f : Env → Store → Out D} {P : Fl → Store → Prop} : Rn (sDrop f ρ S) P ↔ Rn (f ρ S) fun _ S1 => P (.nx ρ) S1 := by
  unfold sDrop; simp
@[simp] theorem rn_sRet {f : Env → Store → Out D} {P : Fl → Store → Prop} : Rn (sRet f ρ S) P ↔ Rn (f ρ S) fun d S1 => P (.rt d) S1 := by
  unfold sRet; simp
@[simp] theorem rn_sRetN {P : Fl → Store → Prop} : Rn (sRetN ρ S) P ↔ P (.rt .non) S := rn_ret
@[simp] theorem rn_sSet {i : Nat} {f : Env → Store → Out D} {P : Fl → Store → Prop} : Rn (sSet i f ρ S) P ↔ Rn (f ρ S) fun d S1 => P (.nx (ρ.set i (some d))) S1 := by
  unfold sSet; simp
@[simp] theorem rn_sIf {t : Env → Store → Out Bool} {f g : SemS} {P : Fl → Store → Prop} : Rn (sIf t f g ρ S) P ↔ Rn (t ρ S) fun b S1 => (b = true → Rn (f ρ S1) P) ∧ (b = false → Rn (g ρ S1) P) := by
  unfold sIf
  simp only [rn_bnd, rn_cond]
@[simp] theorem rn_sPar {is : List Nat} {fs : Env → Store → Out (List D)} {P : Fl → Store → Prop} : Rn (sPar is fs ρ S) P ↔ Rn (fs ρ S) fun ds S1 => ∃ ρ', setAll is ds ρ = some ρ' ∧ P (.nx ρ') S1 := by
  unfold sPar
  rw [rn_bnd]
  constructor
  · rintro ⟨d, S1, e, p⟩
    refine ⟨d, S1, e, ?_⟩
    split at p
    · rename_i q; exact ⟨_, q, by simpa using p⟩
    · simp at p
  · rintro ⟨d, S1, e, ρ', q, p⟩
    exact ⟨d, S1, e, by simp only [q]; simpa using p⟩
@[simp] theorem rn_sUnp {is : List Nat} {f : Env → Store → Out D} {P : Fl → Store → Prop} : Rn (sUnp is f ρ S) P ↔ Rn (f ρ S) fun d S1 => ∃ ds ρ', d = .tup ds ∧ setAll is ds ρ = some ρ' ∧ P (.nx ρ') S1 := by
  unfold sUnp
  rw [rn_bnd]
  constructor
  · rintro ⟨d, S1, e, p⟩
    refine ⟨d, S1, e, ?_⟩
    cases d <;> simp at p
    split at p
    · rename_i q; exact ⟨_, _, rfl, q, by simpa using p⟩
    · simp at p
  · rintro ⟨d, S1, e, ds, ρ', rfl, q, p⟩
    exact ⟨_, S1, e, by simp [q]; exact p⟩
theorem rn_optS {α : Type} {o : Option Store} {a : α} {P : α → Store → Prop} : Rn (match o with | some S4 => ret a S4 | none => none) P ↔ ∃ S4, o = some S4 ∧ P a S4 := by
  cases o with
  | none => simp
  | some S4 => simp
@[simp] theorem rn_sPut {fo fi fe : Env → Store → Out D} {P : Fl → Store → Prop} : Rn (sPut fo fi fe ρ S) P ↔ Rn (fe ρ S) fun v S1 => Rn (fo ρ S1) fun x S2 => Rn (fi ρ S2) fun i S3 => ∃ S4, oPut x i v S3 = some S4 ∧ P (.nx ρ) S4 := by
  have e : ∀ {x i v : D} {S3 : Store}, Rn (match oPut x i v S3 with | some S4 => ret (Fl.nx ρ) S4 | none => none) P ↔ ∃ S4, oPut x i v S3 = some S4 ∧ P (.nx ρ) S4 := rn_optS
  unfold sPut
  rw [rn_bnd]
  refine ⟨fun h => h.imp fun v S1 h => ?_, fun h => h.imp fun v S1 h => ?_⟩
  · rw [rn_bnd] at h
    refine h.imp fun x S2 h => ?_
    rw [rn_bnd] at h
    exact h.imp fun i S3 h => e.mp h
  · rw [rn_bnd]
    refine h.imp fun x S2 h => ?_
    rw [rn_bnd]
    exact h.imp fun i S3 h => e.mpr h
end
/-! ### loops -/
/-- the items of what is walked, where nobody changes them -/
def Src.items : Src → Option (List D)
  | .rng lo n => some ((List.range n).map fun k => D.int (lo + (k : Nat)))
  | .seq (.tup ds) => some ds
  | .seq (.lst ds) => some ds
  | .seq (.frz ds) => some ds
  | .seq (.str z) => some (z.cps.toList.map fun c => D.str ⟨#[c]⟩)
  | .enm (.lst ds) => some (ds.mapIdx fun k d => D.tup [.int k, d])
  | .zip (.tup ds) (.tup es) => some (List.zipWith (fun x y => D.tup [x, y]) ds es)
  | .zip (.lst ds) (.lst es) => some (List.zipWith (fun x y => D.tup [x, y]) ds es)
  | _ => none
theorem Src.at_items {s : Src} {ds : List D} (h : s.items = some ds) (S : Store) (k : Nat) : s.at_ S k = some ds[k]? := by
  cases s with
  | rng lo n =>
    simp only [Src.items, Option.some.injEq] at h
    subst h
    simp only [Src.at_]
    by_cases hk : k < n
    · rw [if_pos hk]
      simp [hk]
    · rw [if_neg hk]
      simp [List.getElem?_eq_none, Nat.le_of_not_lt hk]
  | seq x =>
    cases x <;> simp only [Src.items, Option.some.injEq, reduceCtorEq] at h
    · subst h
      simp only [Src.at_]
      rw [List.getElem?_map, Array.getElem?_toList]
    · subst h; rfl
    · subst h; rfl
    · subst h; rfl
  | enm x =>
    cases x <;> simp only [Src.items, Option.some.injEq, reduceCtorEq] at h
    subst h
    rw [List.getElem?_mapIdx]
    rfl
  | zip x y =>
    have pw : ∀ ds es : List D, pairAt ds es k = (List.zipWith (fun x y => D.tup [x, y]) ds es)[k]? := fun ds es => by
      rw [List.getElem?_zipWith]
      unfold pairAt
      cases ds[k]? <;> cases es[k]? <;> rfl
    cases x <;> cases y <;> simp only [Src.items, Option.some.injEq, reduceCtorEq] at h
    · subst h; exact congrArg some (pw _ _)
    · subst h; exact congrArg some (pw _ _)
theorem rn_for {tg : Tg} {b : SemS} {s : Src} {ds : List D} (hs : s.items = some ds) (I : Nat → Env → Store → Prop) {P : Fl → Store → Prop}
    (step : ∀ k d ρ S, ds[k]? = some d → I k ρ S → ∃ ρ1, setT tg d ρ = some ρ1 ∧ Rn (b ρ1 S) fun fl S' => match fl with
      | .nx ρ' => I (k + 1) ρ' S'
      | .ct ρ' => I (k + 1) ρ' S'
      | .bk ρ' => P (.nx ρ') S'
      | .rt d => P (.rt d) S')
    (fin : ∀ ρ S, I ds.length ρ S → P (.nx ρ) S) : ∀ (m k : Nat) (ρ : Env) (S : Store), ds.length < m + k → k ≤ ds.length → I k ρ S → Rn (forL tg b s m k ρ S) P
  | 0, k, ρ, S, h1, h2, _ => by omega
  | m + 1, k, ρ, S, h1, h2, i => by
    unfold forL
    rw [Src.at_items hs]
    cases e : ds[k]? with
    | none =>
      have hk : k = ds.length := by
        have := List.getElem?_eq_none_iff.mp e
        omega
      subst hk
      exact rn_ret.mpr (fin _ _ i)
    | some d =>
      obtain ⟨ρ1, e1, r⟩ := step k d ρ S e i
      simp only [e1]
      rw [rn_bnd]
      refine r.imp fun fl S' p => ?_
      have hk : k < ds.length := (List.getElem?_eq_some_iff.mp e).1
      cases fl with
      | nx ρ' => exact rn_for hs I step fin m (k + 1) ρ' S' (by omega) hk p
      | ct ρ' => exact rn_for hs I step fin m (k + 1) ρ' S' (by omega) hk p
      | bk ρ' => exact rn_ret.mpr p
      | rt d => exact rn_ret.mpr p
theorem rn_comp {tg : Tg} {cnd : Option (Env → Store → Out Bool)} {fe : Env → Store → Out D} {s : Src} {ds : List D} (hs : s.items = some ds) {ρ : Env} (I : Nat → List D → Store → Prop) (len : ∀ k acc S, I k acc S → acc.length ≤ k) {P : List D → Store → Prop}
    (step : ∀ k d acc S, ds[k]? = some d → I k acc S → ∃ ρ1, setT tg d ρ = some ρ1 ∧ Rn (cndE cnd ρ1 S) fun c S1 => (c = true → Rn (fe ρ1 S1) fun x S2 => I (k + 1) (acc ++ [x]) S2) ∧ (c = false → I (k + 1) acc S1))
    (fin : ∀ acc S, I ds.length acc S → P acc S) (few : ds.length ≤ line) : ∀ (m k : Nat) (acc : List D) (S : Store), ds.length < m + k → k ≤ ds.length → I k acc S → Rn (compL tg cnd fe s ρ m k acc S) P
  | 0, k, acc, S, h1, h2, _ => by omega
  | m + 1, k, acc, S, h1, h2, i => by
    unfold compL
    rw [Src.at_items hs]
    cases e : ds[k]? with
    | none =>
      have hk : k = ds.length := by
        have := List.getElem?_eq_none_iff.mp e
        omega
      subst hk
      exact rn_ret.mpr (fin _ _ i)
    | some d =>
      obtain ⟨ρ1, e1, r⟩ := step k d acc S e i
      simp only [e1]
      rw [rn_bndN]
      have hk : k < ds.length := (List.getElem?_eq_some_iff.mp e).1
      refine r.imp fun c S1 p => ?_
      rw [rn_cond]
      refine ⟨fun hc => ?_, fun hc => rn_comp hs I len step fin few m (k + 1) acc S1 (by omega) hk (p.2 hc)⟩
      rw [rn_bndN]
      refine (p.1 hc).imp fun x S2 q => ?_
      rw [rn_guard]
      have := len _ _ _ i
      exact ⟨by simp only [decide_eq_true_eq]; omega, rn_comp hs I len step fin few m (k + 1) _ S2 (by omega) hk q⟩
@[simp] theorem rn_eComp {tg : Tg} {fi : SemI} {cnd : Option (Env → Store → Out Bool)} {fe : Env → Store → Out D} {vs : List Nat} {m : Nat} {ρ : Env} {S : Store} {P : D → Store → Prop} :
    Rn (eComp tg fi cnd fe vs m ρ S) P ↔ Rn (fi ρ S) fun s S1 => Rn (compL tg cnd fe s (wipeD ρ vs) m 0 [] S1) fun ds S2 => P (.lst ds) S2 := by
  unfold eComp; simp
@[simp] theorem rn_sFor {tg : Tg} {fi : SemI} {b : SemS} {m : Nat} {ρ : Env} {S : Store} {P : Fl → Store → Prop} : Rn (sFor tg fi b m ρ S) P ↔ Rn (fi ρ S) fun s S1 => Rn (forL tg b s m 0 ρ S1) P := by
  unfold sFor; simp
end Pv

/-! Pv, part Q: defs that hand over plain values. -/
namespace Pv
open PySem PySem.Spec

mutual
/-- nothing of the store within -/
def D.pu : D → Bool
  | .tup ds => D.pus ds
  | .lst ds => D.pus ds
  | .frz ds => D.pus ds
  | .cell _ => false
  | _ => true
def D.pus : List D → Bool
  | [] => true
  | d :: ds => D.pu d && D.pus ds
end
theorem pus_iff : ∀ {ds : List D}, D.pus ds = true ↔ ∀ d ∈ ds, d.pu = true
  | [] => by simp [D.pus]
  | d :: ds => by simp [D.pus, pus_iff (ds := ds)]
theorem pus_append {a b : List D} : D.pus (a ++ b) = true ↔ D.pus a = true ∧ D.pus b = true := by
  simp only [pus_iff, List.mem_append]
  exact ⟨fun h => ⟨fun d m => h d (.inl m), fun d m => h d (.inr m)⟩, fun h d m => m.elim (h.1 d) (h.2 d)⟩
mutual
theorem pu_clos {n : Nat} : ∀ {d : D}, d.pu = true → d.clos n = true
  | .non, _ => rfl
  | .bl _, _ => rfl
  | .int _, _ => rfl
  | .str _, _ => rfl
  | .tup ds, h => pus_clos (ds := ds) h
  | .lst ds, h => pus_clos (ds := ds) h
  | .frz ds, h => pus_clos (ds := ds) h
  | .cell _, h => nomatch h
theorem pus_clos {n : Nat} : ∀ {ds : List D}, D.pus ds = true → D.closs n ds = true
  | [], _ => rfl
  | d :: ds, h => by
    simp only [D.pus, Bool.and_eq_true] at h
    simp only [D.closs, Bool.and_eq_true]
    exact ⟨pu_clos h.1, pus_clos h.2⟩
end
mutual
theorem pu_exp {n x : Nat} {S : Store} : ∀ {d : D}, d.pu = true → d.exp n x S = some d
  | .non, _ => rfl
  | .bl _, _ => rfl
  | .int _, _ => rfl
  | .str _, _ => rfl
  | .tup ds, h => by simp only [D.exp, pus_exp (ds := ds) h]
  | .lst ds, h => by simp only [D.exp, pus_exp (ds := ds) h]
  | .frz ds, h => by
    have h : D.pus ds = true := h
    simp only [D.exp, pus_clos (n := n) h, if_true]
  | .cell _, h => nomatch h
theorem pus_exp {n x : Nat} {S : Store} : ∀ {ds : List D}, D.pus ds = true → D.exps n x S ds = some ds
  | [], _ => rfl
  | d :: ds, h => by
    simp only [D.pus, Bool.and_eq_true] at h
    simp only [D.exps, pu_exp (S := S) (n := n) (x := x) h.1, pus_exp (S := S) (n := n) (x := x) h.2]
end
def Cell.pu : Cell → Bool
  | .lst ds => D.pus ds
  | .dct kvs => D.pus (kvs.map (·.2))
def okS (S : Store) : Prop := ∀ c ∈ S, Cell.pu c = true
theorem okS.nil : okS [] := fun _ h => nomatch h
theorem okS.cons {c : Cell} {S : Store} (h : Cell.pu c = true) (hs : okS S) : okS (c :: S) := fun x m => (List.mem_cons.mp m).elim (fun e => by rw [e]; exact h) (hs x)
theorem okS.append {S T : Store} (h : okS S) (k : okS T) : okS (S ++ T) := fun x m => (List.mem_append.mp m).elim (h x) (k x)
theorem okS.one {S : Store} {c : Cell} (h : okS S) (k : Cell.pu c = true) : okS (S ++ [c]) := h.append (okS.cons k okS.nil)
theorem okS.tail {c : Cell} {S : Store} (h : okS (c :: S)) : okS S := fun x m => h x (List.mem_cons_of_mem _ m)
theorem okS.take {S : Store} (h : okS S) (n : Nat) : okS (S.take n) := fun x m => h x (List.mem_of_mem_take m)
theorem okS.all {S : Store} {n m : Nat} (h : okS S) : (S.take n).all (Cell.clos m) = true := by
  rw [List.all_eq_true]
  intro c hc
  have q := h.take n c hc
  cases c with
  | lst ds => exact pus_clos q
  | dct kvs => exact pus_clos q
theorem rn_defF {b : Bool} {nl : Nat} {body : SemS} {ds : List D} {S : Store} {P : D → Store → Prop} : Rn (defF b nl body ds S) P ↔ Rn (body (ds.map some ++ List.replicate (nl - ds.length) none) S) fun fl S1 => Rn (endF b S.length (.ok fl, S1)) P := by
  unfold defF
  constructor
  · rintro ⟨d, S2, e, p⟩
    cases h : body (ds.map some ++ List.replicate (nl - ds.length) none) S with
    | none => rw [h] at e; cases e
    | some r =>
      obtain ⟨r, S1⟩ := r
      rw [h] at e
      cases r with
      | ok fl => exact ⟨fl, S1, rfl, d, S2, e, p⟩
      | ex x =>
        exfalso
        simp only [endF] at e
        obtain ⟨_, e⟩ := guard_ok e
        split at e <;> cases e
  · rintro ⟨fl, S1, e, d, S2, e2, p⟩
    exact ⟨d, S2, by rw [e]; exact e2, p⟩
/-- a plain value is handed over -/
theorem end_pu {b : Bool} {n : Nat} {d : D} {S1 : Store} {P : D → Store → Prop} (hd : d.pu = true) (hS : okS S1) (p : P d (S1.take n)) : Rn (endF b n (.ok (.rt d), S1)) P := by
  refine ⟨d, S1.take n, ?_, p⟩
  show guard' _ _ = _
  rw [hS.all, guard_true]
  cases d with
  | cell i => exact nomatch hd
  | non => rfl
  | bl _ => rfl
  | int _ => rfl
  | str _ => rfl
  | tup ds => simp only [pu_exp hd]; rfl
  | lst ds => simp only [pu_exp hd]; rfl
  | frz ds => simp only [pu_exp hd]; rfl
theorem end_nx {b : Bool} {n : Nat} {ρ : Env} {S1 : Store} {P : D → Store → Prop} (hS : okS S1) (p : P .non (S1.take n)) : Rn (endF b n (.ok (.nx ρ), S1)) P := end_pu (d := .non) rfl hS p
/-- a new list of plain values is handed over, by its items -/
theorem end_lst {n i : Nat} {S1 : Store} {ds : List D} {P : D → Store → Prop} (hS : okS S1) (hi : n ≤ i) (e : S1[i]? = some (.lst ds)) (p : P (.lst ds) (S1.take n)) : Rn (endF false n (.ok (.rt (.cell i)), S1)) P := by
  refine ⟨.lst ds, S1.take n, ?_, p⟩
  show guard' _ _ = _
  have hp : D.pus ds = true := hS _ (List.mem_of_getElem? e)
  rw [hS.all, guard_true]
  simp only [if_neg (Nat.not_lt.mpr hi), e, pus_exp hp, pus_clos (n := n) hp, if_true]
  rfl
/-! ### the drawn numbers -/
structure Fd where
  ds : List Int
  at_ : Nat
  tot : Int
def Fd.c (f : Fd) : Cell := .dct [(.inr "draws", .lst (f.ds.map D.int)), (.inr "at", .int f.at_), (.inr "total", .int f.tot)]
theorem pus_ints : ∀ (ns : List Int), D.pus (ns.map D.int) = true
  | [] => rfl
  | _ :: ns => pus_ints ns
theorem pus_strs : ∀ (ns : List Str), D.pus (ns.map D.str) = true
  | [] => rfl
  | _ :: ns => pus_strs ns
theorem Fd.pu (f : Fd) : Cell.pu f.c = true := by
  simp only [Fd.c, Cell.pu, List.map_cons, List.map_nil, D.pus, D.pu, pus_ints, Bool.and_self]
/-- what a drawing may count on, and what it leaves: at most k numbers more are drawn, all else of the store stays -/
structure Fd.ok (f : Fd) (k : Nat) : Prop where
  few : f.at_ ≤ k
  tot0 : 0 ≤ f.tot
  tot1 : f.tot < 2147483629
theorem Fd.ok.mono {f : Fd} {j k : Nat} (h : f.ok j) (l : j ≤ k) : f.ok k := ⟨Nat.le_trans h.few l, h.tot0, h.tot1⟩
/-- the end of a drawing -/
def Dr (f : Fd) (R : Store) (k : Nat) (P : D → Prop) : D → Store → Prop := fun d S => ∃ f' : Fd, S = f'.c :: R ∧ f'.at_ ≤ f.at_ + k ∧ 0 ≤ f'.tot ∧ f'.tot < 2147483629 ∧ P d
end Pv

namespace K06
open PySem PySem.Spec PyProof.Rows L2 PySem.Calls Pv
def top (i : Nat) : Stmt := PySem.Challenge.pw_enoughcharge_k06_texts_written.main.body.getD i (.Pass ⟨0, 0, 0, 0⟩)
/-- the names that stand for what they always stand for, and the constants -/
structure Gm (K : PySem.W.Frag) (mg : Str → Option Value) : Prop where
  abs : mg "abs" = Option.none
  all : mg "all" = Option.none
  bool : mg "bool" = Option.none
  dict : mg "dict" = Option.none
  enumerate : mg "enumerate" = Option.none
  int : mg "int" = Option.none
  isinstance : mg "isinstance" = Option.none
  len : mg "len" = Option.none
  list : mg "list" = Option.none
  max : mg "max" = Option.none
  min : mg "min" = Option.none
  range : mg "range" = Option.none
  repr : mg "repr" = Option.none
  set : mg "set" = Option.none
  sorted : mg "sorted" = Option.none
  str : mg "str" = Option.none
  sum : mg "sum" = Option.none
  tuple : mg "tuple" = Option.none
  zip : mg "zip" = Option.none
  c_BLOCK_DIGITS : ∃ t, mg "BLOCK_DIGITS" = some (.int 60 t)
  c_BLOCK : ∃ t, mg "BLOCK" = some (.int 1000000000000000000000000000000000000000000000000000000000000 t)
variable {P : Program} {w : World} {K : PySem.W.Frag} {mg : Str → Option Value} {base : Heap} {cls : Str → Option Addr} {f : Addr} {fd : FuncData}
/-! number_text -/
def N_number_text : List Str := ["number", "rest", "blocks"]
def B_number_text : SemS := (sSeq (sSet 1 (eVar 0))
    (sSeq (sSet 2 (eMk (eLst eNil)))
    (sSeq (whileL (eTru (eBin oGe (eVar 1) (eC (.int 1000000000000000000000000000000000000000000000000000000000000)))) (sSeq (sDrop (eApp (eVar 2) (eCons (eM1 oZfill (eBl oStr (eCons (eBin oMod (eVar 1) (eC (.int 1000000000000000000000000000000000000000000000000000000000000))) eNil)) (eC (.int 60))) eNil)))
    (sSeq (sSet 1 (eBin oDiv (eVar 1) (eC (.int 1000000000000000000000000000000000000000000000000000000000000))))
    sNil)) 1000000)
    (sSeq (sDrop (eApp (eVar 2) (eCons (eBl oStr (eCons (eVar 1) eNil)) eNil)))
    (sSeq (sRet (eM1 oJoin (eC (.str "")) (eUn oRev (eVar 2))))
    sNil)))))
theorem sc_number_text : FnScope N_number_text ["number"] (defScope (top 3)) := ⟨rfl, rfl, rfl, by decide +kernel, rfl, by decide +kernel, by decide +kernel⟩
theorem bd_number_text (Mg : Gm K mg)  (cdv : Value) (A : Around) (outer : List PySem.Env) (s : Shared) (H : Hp) (R : Addr → Prop) (E : XK) (room : Room 0 (A.deeper (envOfC "number_text" (defScope (top 3)) s.heap.objs.size f cdv))) (gd : A.guards = some []) :
    PSs (cxOf (L2.CX P w) P w K mg base N_number_text "number_text" (defScope (top 3)) f cdv A outer s H E) (defBody (top 3)) (mT ⟨K, R, cls, E⟩ (B_number_text)) := by
  have B : Bd (cxOf (L2.CX P w) P w K mg base N_number_text "number_text" (defScope (top 3)) f cdv A outer s H E) ⟨K, R, cls, E⟩ 0 := ⟨rfl, room, gd, pass_def, rfl⟩
  have nd := (sc_number_text).nd
  exact (t_cons (zSet 1 nd (qV 0))
    (t_cons (zSet 2 nd (m_mk (s_lst m_nil)))
    (t_cons (t_while (passes_of rfl) (tGe (qV 1) (qGI Mg.c_BLOCK)) (t_cons (zDrop (qApp B.K (qV 2) (qC (qZfill (qStr Mg.str (qC (qMod (qV 1) (qGI Mg.c_BLOCK)) m_nil)) (qGI Mg.c_BLOCK_DIGITS)) m_nil)))
    (t_cons (zSet 1 nd (qDiv (qV 1) (qGI Mg.c_BLOCK)))
    t_nil)))
    (t_cons (zDrop (qApp B.K (qV 2) (qC (qStr Mg.str (qC (qV 1) m_nil)) m_nil)))
    (t_cons (t_ret (qJoin B.K m_str (m_rev B.K (qV 2))))
    t_nil)))))
def F_number_text : Fn := defF false 3 B_number_text
theorem ok_number_text (D : FunD K "number_text" "number_text" (defArgs (top 3)) (defBody (top 3)) (defScope (top 3)) [] [] f fd) (at_ : mg "number_text" = some (.ref f)) (Mg : Gm K mg)  : FnC P w K mg base cls 1 "number_text" 1 F_number_text [] :=
  ⟨f, fd, ["number"], [], [], FnG.ofM (b := false) D sc_number_text (bd_number_text Mg ), at_, D.kp, D.bindsN fun _ _ _ _ _ _ us hl => match us, hl with | [_], _ => rfl, .nil, .nil⟩
/-! expression_text -/
def N_expression_text : List Str := ["expression", "inner", "part"]
def B_expression_text (s_expression_text : Fn) : SemS := (sSeq (sIf (eTru (eUn (oIsi "str") (eVar 0))) (sSeq (sRet (eVar 0))
    sNil) sNil)
    (sSeq (sIf (eTru (eUn (oIsi "tuple") (eVar 0))) (sSeq (sSet 1 (eM1 oJoin (eC (.str ",")) (eComp (.nm 2) (iSeq (eSl (eVar 0) (some (eC (.int 1))) none)) none (eCall (ar 1 s_expression_text) [] (eCons (eVar 2) eNil)) [2] 1000000)))
    (sSeq (sRet (eJs [(eUn oFmt (eBin oIx (eVar 0) (eC (.int 0)))), (eC (.str "(")), (eUn oFmt (eVar 1)), (eC (.str ")"))] Str.empty))
    sNil)) sNil)
    (sSeq (sRet (eCall (ar 1 F_number_text) [] (eCons (eVar 0) eNil)))
    sNil)))
theorem sc_expression_text : FnScope N_expression_text ["expression"] (defScope (top 4)) := ⟨rfl, rfl, rfl, by decide +kernel, rfl, by decide +kernel, by decide +kernel⟩
theorem bd_expression_text (Mg : Gm K mg) (C_number_text : FnC P w K mg base cls 1 "number_text" 1 F_number_text []) {s_expression_text : Fn} {n : Nat} (ih_expression_text : FnC P w K mg base cls (1 + n) "expression_text" 1 s_expression_text []) (cdv : Value) (A : Around) (outer : List PySem.Env) (s : Shared) (H : Hp) (R : Addr → Prop) (E : XK) (room : Room (1 + n) (A.deeper (envOfC "expression_text" (defScope (top 4)) s.heap.objs.size f cdv))) (gd : A.guards = some []) :
    PSs (cxOf (L2.CX P w) P w K mg base N_expression_text "expression_text" (defScope (top 4)) f cdv A outer s H E) (defBody (top 4)) (mT ⟨K, R, cls, E⟩ (B_expression_text s_expression_text)) := by
  have B : Bd (cxOf (L2.CX P w) P w K mg base N_expression_text "expression_text" (defScope (top 4)) f cdv A outer s H E) ⟨K, R, cls, E⟩ (1 + n) := ⟨rfl, room, gd, pass_def, rfl⟩
  have nd := (sc_expression_text).nd
  exact (t_cons (t_if (tV B.K (qIsi B.K Mg.isinstance Mg.str PyProof.Rows.boot_str (qV 0))) (t_cons (t_ret (qV 0))
    t_nil) t_nil)
    (t_cons (t_if (tV B.K (qIsi B.K Mg.isinstance Mg.tuple PyProof.Rows.boot_tuple (qV 0))) (t_cons (zSet 1 nd (qJoin B.K m_str (m_weak (sComp B nd [("part", 2)] (.nm 2) (i_seq B.K (m_sl B.K (qV 0) m_int True.intro)) (fun _ _ _ _ _ => (gNm _ nd)) (fun _ _ _ _ _ => pts_nil) (fun _ _ _ _ _ => x_e fun _ => (qCall ih_expression_text B.inn (qC (qV 2) m_nil) (by omega)))))))
    (t_cons (t_ret (m_joined (.cons (m_fmt (qIx B.K B.u (qV 0) m_int)) (.cons m_str (.cons (m_fmt (qV 1)) (.cons m_str .nil))))))
    t_nil)) t_nil)
    (t_cons (t_ret (qCall C_number_text B (qC (qV 0) m_nil) (by omega)))
    t_nil)))
def F_expression_text : Nat → Fn
  | 0 => fun _ _ => Option.none
  | n + 1 => defF false 3 (B_expression_text (F_expression_text n))
theorem okg_expression_text {f_expression_text : Addr} {fd_expression_text : FuncData} (D_expression_text : FunD K "expression_text" "expression_text" (defArgs (top 4)) (defBody (top 4)) (defScope (top 4)) [] [] f_expression_text fd_expression_text) (g_expression_text : mg "expression_text" = some (.ref f_expression_text)) (Mg : Gm K mg) (C_number_text : FnC P w K mg base cls 1 "number_text" 1 F_number_text []) : ∀ n, FnC P w K mg base cls (1 + n) "expression_text" 1 (F_expression_text n) []
  | 0 => ⟨f_expression_text, fd_expression_text, ["expression"], [], [], FnG.none, g_expression_text, D_expression_text.kp, D_expression_text.bindsN fun _ _ _ _ _ _ us hl => match us, hl with | [_], _ => rfl, .nil, .nil⟩
  | n + 1 => by
    obtain ih_expression_text := okg_expression_text D_expression_text g_expression_text Mg C_number_text n
    exact ⟨f_expression_text, fd_expression_text, ["expression"], [], [], FnG.ofM (b := false) D_expression_text sc_expression_text (bd_expression_text Mg C_number_text ih_expression_text), g_expression_text, D_expression_text.kp, D_expression_text.bindsN fun _ _ _ _ _ _ us hl => match us, hl with | [_], _ => rfl, .nil, .nil⟩
theorem ok_expression_text {f_expression_text : Addr} {fd_expression_text : FuncData} (D_expression_text : FunD K "expression_text" "expression_text" (defArgs (top 4)) (defBody (top 4)) (defScope (top 4)) [] [] f_expression_text fd_expression_text) (g_expression_text : mg "expression_text" = some (.ref f_expression_text)) (Mg : Gm K mg) (C_number_text : FnC P w K mg base cls 1 "number_text" 1 F_number_text []) (n : Nat) : FnC P w K mg base cls (1 + n) "expression_text" 1 (F_expression_text n) [] := (okg_expression_text D_expression_text g_expression_text Mg C_number_text n)
/-! words_text -/
def N_words_text : List Str := ["things", "thing"]
def B_words_text : SemS := (sSeq (sRet (eM1 oJoin (eC (.str " ")) (eComp (.nm 1) (iSeq (eVar 0)) none (eCall (ar 1 (F_expression_text 64)) [] (eCons (eVar 1) eNil)) [1] 1000000)))
    sNil)
theorem sc_words_text : FnScope N_words_text ["things"] (defScope (top 6)) := ⟨rfl, rfl, rfl, by decide +kernel, rfl, by decide +kernel, by decide +kernel⟩
theorem bd_words_text (Mg : Gm K mg) (C_expression_text : FnC P w K mg base cls 65 "expression_text" 1 (F_expression_text 64) []) (cdv : Value) (A : Around) (outer : List PySem.Env) (s : Shared) (H : Hp) (R : Addr → Prop) (E : XK) (room : Room 65 (A.deeper (envOfC "words_text" (defScope (top 6)) s.heap.objs.size f cdv))) (gd : A.guards = some []) :
    PSs (cxOf (L2.CX P w) P w K mg base N_words_text "words_text" (defScope (top 6)) f cdv A outer s H E) (defBody (top 6)) (mT ⟨K, R, cls, E⟩ (B_words_text)) := by
  have B : Bd (cxOf (L2.CX P w) P w K mg base N_words_text "words_text" (defScope (top 6)) f cdv A outer s H E) ⟨K, R, cls, E⟩ 65 := ⟨rfl, room, gd, pass_def, rfl⟩
  have nd := (sc_words_text).nd
  exact (t_cons (t_ret (qJoin B.K m_str (m_weak (sComp B nd [("thing", 1)] (.nm 1) (i_seq B.K (qV 0)) (fun _ _ _ _ _ => (gNm _ nd)) (fun _ _ _ _ _ => pts_nil) (fun _ _ _ _ _ => x_e fun _ => (qCall C_expression_text B.inn (qC (qV 1) m_nil) ))))))
    t_nil)
def F_words_text : Fn := defF false 2 B_words_text
theorem ok_words_text (D : FunD K "words_text" "words_text" (defArgs (top 6)) (defBody (top 6)) (defScope (top 6)) [] [] f fd) (at_ : mg "words_text" = some (.ref f)) (Mg : Gm K mg) (C_expression_text : FnC P w K mg base cls 65 "expression_text" 1 (F_expression_text 64) []) : FnC P w K mg base cls 66 "words_text" 1 F_words_text [] :=
  ⟨f, fd, ["things"], [], [], FnG.ofM (b := false) D sc_words_text (bd_words_text Mg C_expression_text), at_, D.kp, D.bindsN fun _ _ _ _ _ _ us hl => match us, hl with | [_], _ => rfl, .nil, .nil⟩
/-! instruction_text -/
def N_instruction_text : List Str := ["instruction"]
def B_instruction_text : SemS := (sSeq (sRet (eCall (ar 1 F_words_text) [] (eCons (eVar 0) eNil)))
    sNil)
theorem sc_instruction_text : FnScope N_instruction_text ["instruction"] (defScope (top 5)) := ⟨rfl, rfl, rfl, by decide +kernel, rfl, by decide +kernel, by decide +kernel⟩
theorem bd_instruction_text (Mg : Gm K mg) (C_words_text : FnC P w K mg base cls 66 "words_text" 1 F_words_text []) (cdv : Value) (A : Around) (outer : List PySem.Env) (s : Shared) (H : Hp) (R : Addr → Prop) (E : XK) (room : Room 66 (A.deeper (envOfC "instruction_text" (defScope (top 5)) s.heap.objs.size f cdv))) (gd : A.guards = some []) :
    PSs (cxOf (L2.CX P w) P w K mg base N_instruction_text "instruction_text" (defScope (top 5)) f cdv A outer s H E) (defBody (top 5)) (mT ⟨K, R, cls, E⟩ (B_instruction_text)) := by
  have B : Bd (cxOf (L2.CX P w) P w K mg base N_instruction_text "instruction_text" (defScope (top 5)) f cdv A outer s H E) ⟨K, R, cls, E⟩ 66 := ⟨rfl, room, gd, pass_def, rfl⟩
  have nd := (sc_instruction_text).nd
  exact (t_cons (t_ret (qCall C_words_text B (qC (qV 0) m_nil) ))
    t_nil)
def F_instruction_text : Fn := defF false 1 B_instruction_text
theorem ok_instruction_text (D : FunD K "instruction_text" "instruction_text" (defArgs (top 5)) (defBody (top 5)) (defScope (top 5)) [] [] f fd) (at_ : mg "instruction_text" = some (.ref f)) (Mg : Gm K mg) (C_words_text : FnC P w K mg base cls 66 "words_text" 1 F_words_text []) : FnC P w K mg base cls 67 "instruction_text" 1 F_instruction_text [] :=
  ⟨f, fd, ["instruction"], [], [], FnG.ofM (b := false) D sc_instruction_text (bd_instruction_text Mg C_words_text), at_, D.kp, D.bindsN fun _ _ _ _ _ _ us hl => match us, hl with | [_], _ => rfl, .nil, .nil⟩
/-! program_text -/
def N_program_text : List Str := ["program", "cells", "code", "told", "names", "lines", "cell", "instruction"]
def B_program_text : SemS := (sSeq (sUnp [1, 2, 3] (eVar 0))
    (sSeq (sSet 4 (eIf (eTru (eVar 3)) (eM1 oJoin (eC (.str ",")) (eVar 3)) (eC (.str "-"))))
    (sSeq (sSet 5 (eMk (eComp (.nm 6) (iSeq (eVar 1)) none (eCall (ar 1 F_words_text) [] (eCons (eBin oAdd (eTup (eCons (eC (.str "cell")) eNil)) (eVar 6)) eNil)) [6] 1000000)))
    (sSeq (sDrop (eApp (eVar 5) (eCons (eJs [(eC (.str "told ")), (eUn oFmt (eVar 4))] Str.empty) eNil)))
    (sSeq (sRet (eM1 oJoin (eC (.str "\n")) (eBin oAdd (eVar 5) (eComp (.nm 7) (iSeq (eVar 2)) none (eCall (ar 1 F_instruction_text) [] (eCons (eVar 7) eNil)) [7] 1000000))))
    sNil)))))
theorem sc_program_text : FnScope N_program_text ["program"] (defScope (top 7)) := ⟨rfl, rfl, rfl, by decide +kernel, rfl, by decide +kernel, by decide +kernel⟩
theorem bd_program_text (Mg : Gm K mg) (C_instruction_text : FnC P w K mg base cls 67 "instruction_text" 1 F_instruction_text []) (C_words_text : FnC P w K mg base cls 66 "words_text" 1 F_words_text []) (cdv : Value) (A : Around) (outer : List PySem.Env) (s : Shared) (H : Hp) (R : Addr → Prop) (E : XK) (room : Room 67 (A.deeper (envOfC "program_text" (defScope (top 7)) s.heap.objs.size f cdv))) (gd : A.guards = some []) :
    PSs (cxOf (L2.CX P w) P w K mg base N_program_text "program_text" (defScope (top 7)) f cdv A outer s H E) (defBody (top 7)) (mT ⟨K, R, cls, E⟩ (B_program_text)) := by
  have B : Bd (cxOf (L2.CX P w) P w K mg base N_program_text "program_text" (defScope (top 7)) f cdv A outer s H E) ⟨K, R, cls, E⟩ 67 := ⟨rfl, room, gd, pass_def, rfl⟩
  have nd := (sc_program_text).nd
  exact (t_cons (zUnp B (qV 0) (gsCons (gNm _ nd) (gsCons (gNm _ nd) (gsCons (gNm _ nd) gsNil))))
    (t_cons (zSet 4 nd (m_if (tV B.K (qV 3)) (qJoin B.K m_str (qV 3)) m_str))
    (t_cons (zSetCF 5 B nd [("cell", 6)] (.nm 6) (i_seq B.K (qV 1)) (fun _ _ _ _ _ => (gNm _ nd)) (fun _ _ _ _ _ => pts_nil) (fun _ _ _ _ _ => x_e fun _ => (qCall C_words_text B.inn (qC (qAdd B.inn.K (m_tup (qC m_str m_nil)) (qV 6)) m_nil) )))
    (t_cons (zDrop (qApp B.K (qV 5) (qC (m_joined (.cons m_str (.cons (m_fmt (qV 4)) .nil))) m_nil)))
    (t_cons (t_ret (qJoin B.K m_str (qAdd B.K (qV 5) (m_weak (sComp B nd [("instruction", 7)] (.nm 7) (i_seq B.K (qV 2)) (fun _ _ _ _ _ => (gNm _ nd)) (fun _ _ _ _ _ => pts_nil) (fun _ _ _ _ _ => x_e fun _ => (qCall C_instruction_text B.inn (qC (qV 7) m_nil) )))))))
    t_nil)))))
def F_program_text : Fn := defF false 8 B_program_text
theorem ok_program_text (D : FunD K "program_text" "program_text" (defArgs (top 7)) (defBody (top 7)) (defScope (top 7)) [] [] f fd) (at_ : mg "program_text" = some (.ref f)) (Mg : Gm K mg) (C_instruction_text : FnC P w K mg base cls 67 "instruction_text" 1 F_instruction_text []) (C_words_text : FnC P w K mg base cls 66 "words_text" 1 F_words_text []) : FnC P w K mg base cls 68 "program_text" 1 F_program_text [] :=
  ⟨f, fd, ["program"], [], [], FnG.ofM (b := false) D sc_program_text (bd_program_text Mg C_instruction_text C_words_text), at_, D.kp, D.bindsN fun _ _ _ _ _ _ us hl => match us, hl with | [_], _ => rfl, .nil, .nil⟩
/-! _law_mixed -/
def N_law_mixed : List Str := ["_law_number", "_law_k", "_law_mixed_here"]
def B_law_mixed : SemS := (sSeq (sSet 2 (eBin oMod (eBl oInt (eCons (eBin oAdd (eBin oAdd (eBin oMul (eVar 0) (eC (.int 48271))) (eBin oMul (eVar 1) (eC (.int 1103515245)))) (eC (.int 12345))) eNil)) (eC (.int 2147483647))))
    (sSeq (sSet 2 (eBin oMod (eBl oInt (eCons (eBin oAdd (eBin oMul (eVar 2) (eC (.int 69621))) (eBin oMul (eBin oDiv (eVar 2) (eC (.int 4099))) (eBin oDiv (eVar 2) (eC (.int 131))))) eNil)) (eC (.int 2147483629))))
    (sSeq (sRet (eBin oMod (eBl oInt (eCons (eBin oDiv (eVar 2) (eC (.int 13))) eNil)) (eC (.int 55440))))
    sNil)))
theorem sc_law_mixed : FnScope N_law_mixed ["_law_number", "_law_k"] (defScope (top 9)) := ⟨rfl, rfl, rfl, by decide +kernel, rfl, by decide +kernel, by decide +kernel⟩
theorem bd_law_mixed (Mg : Gm K mg)  (cdv : Value) (A : Around) (outer : List PySem.Env) (s : Shared) (H : Hp) (R : Addr → Prop) (E : XK) (room : Room 0 (A.deeper (envOfC "_law_mixed" (defScope (top 9)) s.heap.objs.size f cdv))) (gd : A.guards = some []) :
    PSs (cxOf (L2.CX P w) P w K mg base N_law_mixed "_law_mixed" (defScope (top 9)) f cdv A outer s H E) (defBody (top 9)) (mT ⟨K, R, cls, E⟩ (B_law_mixed)) := by
  have B : Bd (cxOf (L2.CX P w) P w K mg base N_law_mixed "_law_mixed" (defScope (top 9)) f cdv A outer s H E) ⟨K, R, cls, E⟩ 0 := ⟨rfl, room, gd, pass_def, rfl⟩
  have nd := (sc_law_mixed).nd
  exact (t_cons (zSet 2 nd (qMod (qInt Mg.int (qC (qAdd B.K (qAdd B.K (qMul B.K (qV 0) m_int) (qMul B.K (qV 1) m_int)) m_int) m_nil)) m_int))
    (t_cons (zSet 2 nd (qMod (qInt Mg.int (qC (qAdd B.K (qMul B.K (qV 2) m_int) (qMul B.K (qDiv (qV 2) m_int) (qDiv (qV 2) m_int))) m_nil)) m_int))
    (t_cons (t_ret (qMod (qInt Mg.int (qC (qDiv (qV 2) m_int) m_nil)) m_int))
    t_nil)))
def F_law_mixed : Fn := defF false 3 B_law_mixed
theorem ok_law_mixed (D : FunD K "_law_mixed" "_law_mixed" (defArgs (top 9)) (defBody (top 9)) (defScope (top 9)) [] [] f fd) (at_ : mg "_law_mixed" = some (.ref f)) (Mg : Gm K mg)  : FnC P w K mg base cls 1 "_law_mixed" 2 F_law_mixed [] :=
  ⟨f, fd, ["_law_number", "_law_k"], [], [], FnG.ofM (b := false) D sc_law_mixed (bd_law_mixed Mg ), at_, D.kp, D.bindsN fun _ _ _ _ _ _ us hl => match us, hl with | [_, _], _ => rfl, .nil, .nil⟩
/-! _law_feed -/
def N_law_feed : List Str := ["_law_script", "_law_found", "_law_total", "_law_at", "_law_grain", "_law_k"]
def B_law_feed : SemS := (sSeq (sSet 1 (eMk (eLst eNil)))
    (sSeq (sSet 2 (eC (.int 7)))
    (sSeq (sFor (.nm 3) (iRg1 (eCons (eBl oMin (eCons (eC (.int 63)) (eCons (eBl oLen (eCons (eVar 0) eNil)) eNil))) eNil)) (sSeq (sSet 4 (eBl oAbs (eCons (eBl oInt (eCons (eBin oIx (eVar 0) (eVar 3)) eNil)) eNil)))
    (sSeq (sSet 2 (eBin oMod (eBl oInt (eCons (eBin oAdd (eBin oAdd (eBin oMul (eVar 2) (eC (.int 31))) (eVar 4)) (eVar 3)) eNil)) (eC (.int 2147483629))))
    (sSeq (sIf (eTru (eBin oGe (eVar 4) (eBin oPow (eC (.int 10)) (eC (.int 18))))) (sSeq (sFor (.nm 5) (iRg1 (eCons (eC (.int 60)) eNil)) (sSeq (sIf (eTru (eBin oGt (eVar 4) (eC (.int 0)))) (sSeq (sDrop (eApp (eVar 1) (eCons (eBin oMod (eBl oInt (eCons (eVar 4) eNil)) (eC (.int 55440))) eNil)))
    (sSeq (sSet 4 (eBin oDiv (eVar 4) (eC (.int 55440))))
    sNil)) sNil)
    sNil) 1000000)
    sNil) (sSeq (sFor (.nm 5) (iRg1 (eCons (eC (.int 5)) eNil)) (sSeq (sDrop (eApp (eVar 1) (eCons (eCall (ar 2 F_law_mixed) [] (eCons (eBin oAdd (eBin oMod (eBl oInt (eCons (eVar 4) eNil)) (eC (.int 2147483629))) (eBin oMul (eC (.int 131)) (eVar 3))) (eCons (eVar 5) eNil))) eNil)))
    sNil) 1000000)
    sNil))
    sNil))) 1000000)
    (sSeq (sRet (eDisp [.inr "draws", .inr "at", .inr "total"] (eCons (eVar 1) (eCons (eC (.int 0)) (eCons (eVar 2) eNil)))))
    sNil))))
theorem sc_law_feed : FnScope N_law_feed ["_law_script"] (defScope (top 10)) := ⟨rfl, rfl, rfl, by decide +kernel, rfl, by decide +kernel, by decide +kernel⟩
theorem bd_law_feed (Mg : Gm K mg) (C_law_mixed : FnC P w K mg base cls 1 "_law_mixed" 2 F_law_mixed []) (cdv : Value) (A : Around) (outer : List PySem.Env) (s : Shared) (H : Hp) (R : Addr → Prop) (E : XK) (room : Room 1 (A.deeper (envOfC "_law_feed" (defScope (top 10)) s.heap.objs.size f cdv))) (gd : A.guards = some []) :
    PSs (cxOf (L2.CX P w) P w K mg base N_law_feed "_law_feed" (defScope (top 10)) f cdv A outer s H E) (defBody (top 10)) (mT ⟨K, R, cls, E⟩ (B_law_feed)) := by
  have B : Bd (cxOf (L2.CX P w) P w K mg base N_law_feed "_law_feed" (defScope (top 10)) f cdv A outer s H E) ⟨K, R, cls, E⟩ 1 := ⟨rfl, room, gd, pass_def, rfl⟩
  have nd := (sc_law_feed).nd
  exact (t_cons (zSet 1 nd (m_mk (s_lst m_nil)))
    (t_cons (zSet 2 nd m_int)
    (t_cons (zFor B (.nm 3) (passes_of rfl) (iRange1 Mg.range (qC (qMin B.calm Mg.min (qC m_int (qC (qLen B.K Mg.len (qC (qV 0) m_nil)) m_nil))) m_nil)) (gNm _ nd) (t_cons (zSet 4 nd (qAbs Mg.abs (qC (qInt Mg.int (qC (qIx B.K B.u (qV 0) (qV 3)) m_nil)) m_nil)))
    (t_cons (zSet 2 nd (qMod (qInt Mg.int (qC (qAdd B.K (qAdd B.K (qMul B.K (qV 2) m_int) (qV 4)) (qV 3)) m_nil)) m_int))
    (t_cons (t_if (tGe (qV 4) (qPow m_int m_int)) (t_cons (zFor B (.nm 5) (passes_of rfl) (iRange1 Mg.range (qC m_int m_nil)) (gNm _ nd) (t_cons (t_if (tGt (qV 4) m_int) (t_cons (zDrop (qApp B.K (qV 1) (qC (qMod (qInt Mg.int (qC (qV 4) m_nil)) m_int) m_nil)))
    (t_cons (zSet 4 nd (qDiv (qV 4) m_int))
    t_nil)) t_nil)
    t_nil))
    t_nil) (t_cons (zFor B (.nm 5) (passes_of rfl) (iRange1 Mg.range (qC m_int m_nil)) (gNm _ nd) (t_cons (zDrop (qApp B.K (qV 1) (qC (qCall C_law_mixed B (qC (qAdd B.K (qMod (qInt Mg.int (qC (qV 4) m_nil)) m_int) (qMul B.K m_int (qV 3))) (qC (qV 5) m_nil)) ) m_nil)))
    t_nil))
    t_nil))
    t_nil))))
    (t_cons (t_ret (m_disp (.cons (fun _ => (qV 1)) (.cons (fun _ => m_int) (.cons (fun _ => (qV 2)) .nil))) rfl rfl (by intro h; cases h) (by decide) (by decide)))
    t_nil))))
def F_law_feed : Fn := defF false 6 B_law_feed
theorem ok_law_feed (D : FunD K "_law_feed" "_law_feed" (defArgs (top 10)) (defBody (top 10)) (defScope (top 10)) [] [] f fd) (at_ : mg "_law_feed" = some (.ref f)) (Mg : Gm K mg) (C_law_mixed : FnC P w K mg base cls 1 "_law_mixed" 2 F_law_mixed []) : FnC P w K mg base cls 2 "_law_feed" 1 F_law_feed [] :=
  ⟨f, fd, ["_law_script"], [], [], FnG.ofM (b := false) D sc_law_feed (bd_law_feed Mg C_law_mixed), at_, D.kp, D.bindsN fun _ _ _ _ _ _ us hl => match us, hl with | [_], _ => rfl, .nil, .nil⟩
/-! _law_draw -/
def N_law_draw : List Str := ["_law_feed_here", "_law_many", "_law_at", "_law_draws"]
def B_law_draw : SemS := (sSeq (sPar [2, 3] (eCons (eBin oIx (eVar 0) (eC (.str "at"))) (eCons (eBin oIx (eVar 0) (eC (.str "draws"))) eNil)))
    (sSeq (sPut (eVar 0) (eC (.str "at")) (eBin oAdd (eVar 2) (eC (.int 1))))
    (sSeq (sIf (eTru (eBin oLt (eVar 2) (eBl oLen (eCons (eVar 3) eNil)))) (sSeq (sRet (eBin oMod (eBl oInt (eCons (eBin oIx (eVar 3) (eVar 2)) eNil)) (eVar 1)))
    sNil) sNil)
    (sSeq (sRet (eBin oMod (eBl oInt (eCons (eCall (ar 2 F_law_mixed) [] (eCons (eBin oAdd (eBin oIx (eVar 0) (eC (.str "total"))) (eBin oMul (eC (.int 977)) (eVar 2))) (eCons (eVar 2) eNil))) eNil)) (eVar 1)))
    sNil))))
theorem sc_law_draw : FnScope N_law_draw ["_law_feed_here", "_law_many"] (defScope (top 11)) := ⟨rfl, rfl, rfl, by decide +kernel, rfl, by decide +kernel, by decide +kernel⟩
theorem bd_law_draw (Mg : Gm K mg) (C_law_mixed : FnC P w K mg base cls 1 "_law_mixed" 2 F_law_mixed []) (cdv : Value) (A : Around) (outer : List PySem.Env) (s : Shared) (H : Hp) (R : Addr → Prop) (E : XK) (room : Room 1 (A.deeper (envOfC "_law_draw" (defScope (top 11)) s.heap.objs.size f cdv))) (gd : A.guards = some []) :
    PSs (cxOf (L2.CX P w) P w K mg base N_law_draw "_law_draw" (defScope (top 11)) f cdv A outer s H E) (defBody (top 11)) (mT ⟨K, R, cls, E⟩ (B_law_draw)) := by
  have B : Bd (cxOf (L2.CX P w) P w K mg base N_law_draw "_law_draw" (defScope (top 11)) f cdv A outer s H E) ⟨K, R, cls, E⟩ 1 := ⟨rfl, room, gd, pass_def, rfl⟩
  have nd := (sc_law_draw).nd
  exact (t_cons (zPar2 B nd (qC (qIx B.K B.u (qV 0) m_str) (qC (qIx B.K B.u (qV 0) m_str) m_nil)))
    (t_cons (zPut B (qV 0) m_str (qAdd B.K (qV 2) m_int))
    (t_cons (t_if (tLt (qV 2) (qLen B.K Mg.len (qC (qV 3) m_nil))) (t_cons (t_ret (qMod (qInt Mg.int (qC (qIx B.K B.u (qV 3) (qV 2)) m_nil)) (qV 1)))
    t_nil) t_nil)
    (t_cons (t_ret (qMod (qInt Mg.int (qC (qCall C_law_mixed B (qC (qAdd B.K (qIx B.K B.u (qV 0) m_str) (qMul B.K m_int (qV 2))) (qC (qV 2) m_nil)) ) m_nil)) (qV 1)))
    t_nil))))
def F_law_draw : Fn := defF false 4 B_law_draw
theorem ok_law_draw (D : FunD K "_law_draw" "_law_draw" (defArgs (top 11)) (defBody (top 11)) (defScope (top 11)) [] [] f fd) (at_ : mg "_law_draw" = some (.ref f)) (Mg : Gm K mg) (C_law_mixed : FnC P w K mg base cls 1 "_law_mixed" 2 F_law_mixed []) : FnC P w K mg base cls 2 "_law_draw" 2 F_law_draw [] :=
  ⟨f, fd, ["_law_feed_here", "_law_many"], [], [], FnG.ofM (b := false) D sc_law_draw (bd_law_draw Mg C_law_mixed), at_, D.kp, D.bindsN fun _ _ _ _ _ _ us hl => match us, hl with | [_, _], _ => rfl, .nil, .nil⟩
/-! _law_pick -/
def N_law_pick : List Str := ["_law_feed_here", "_law_some_here"]
def B_law_pick : SemS := (sSeq (sRet (eBin oIx (eVar 1) (eCall (ar 2 F_law_draw) [] (eCons (eVar 0) (eCons (eBl oLen (eCons (eVar 1) eNil)) eNil)))))
    sNil)
theorem sc_law_pick : FnScope N_law_pick ["_law_feed_here", "_law_some_here"] (defScope (top 12)) := ⟨rfl, rfl, rfl, by decide +kernel, rfl, by decide +kernel, by decide +kernel⟩
theorem bd_law_pick (Mg : Gm K mg) (C_law_draw : FnC P w K mg base cls 2 "_law_draw" 2 F_law_draw []) (cdv : Value) (A : Around) (outer : List PySem.Env) (s : Shared) (H : Hp) (R : Addr → Prop) (E : XK) (room : Room 2 (A.deeper (envOfC "_law_pick" (defScope (top 12)) s.heap.objs.size f cdv))) (gd : A.guards = some []) :
    PSs (cxOf (L2.CX P w) P w K mg base N_law_pick "_law_pick" (defScope (top 12)) f cdv A outer s H E) (defBody (top 12)) (mT ⟨K, R, cls, E⟩ (B_law_pick)) := by
  have B : Bd (cxOf (L2.CX P w) P w K mg base N_law_pick "_law_pick" (defScope (top 12)) f cdv A outer s H E) ⟨K, R, cls, E⟩ 2 := ⟨rfl, room, gd, pass_def, rfl⟩
  have nd := (sc_law_pick).nd
  exact (t_cons (t_ret (qIx B.K B.u (qV 1) (qCall C_law_draw B (qC (qV 0) (qC (qLen B.K Mg.len (qC (qV 1) m_nil)) m_nil)) )))
    t_nil)
def F_law_pick : Fn := defF false 2 B_law_pick
theorem ok_law_pick (D : FunD K "_law_pick" "_law_pick" (defArgs (top 12)) (defBody (top 12)) (defScope (top 12)) [] [] f fd) (at_ : mg "_law_pick" = some (.ref f)) (Mg : Gm K mg) (C_law_draw : FnC P w K mg base cls 2 "_law_draw" 2 F_law_draw []) : FnC P w K mg base cls 3 "_law_pick" 2 F_law_pick [] :=
  ⟨f, fd, ["_law_feed_here", "_law_some_here"], [], [], FnG.ofM (b := false) D sc_law_pick (bd_law_pick Mg C_law_draw), at_, D.kp, D.bindsN fun _ _ _ _ _ _ us hl => match us, hl with | [_, _], _ => rfl, .nil, .nil⟩
/-! _law_labels -/
def N_law_labels : List Str := ["_law_feed_here", "_law_many", "_law_letters", "_law_way", "_law_first", "_law_words", "_law_k", "_law_stem", "_law_stride"]
def B_law_labels : SemS := (sSeq (sUnp [2, 3, 4] (eTup (eCons (eC (.str "abcdefghijklmnopqrstuvwxyz")) (eCons (eCall (ar 2 F_law_draw) [] (eCons (eVar 0) (eCons (eC (.int 4)) eNil))) (eCons (eCall (ar 2 F_law_draw) [] (eCons (eVar 0) (eCons (eC (.int 26)) eNil))) eNil)))))
    (sSeq (sIf (eTru (eBin oEq (eVar 3) (eC (.int 0)))) (sSeq (sSet 5 (eLst (eCons (eC (.str "set")) (eCons (eC (.str "mark")) (eCons (eC (.str "plus")) (eCons (eC (.str "not")) (eCons (eC (.str "told")) (eCons (eC (.str "quick")) (eCons (eC (.str "end")) (eCons (eC (.str "cell")) eNil))))))))))
    (sSeq (sRet (eComp (.nm 6) (iRg1 (eCons (eVar 1) eNil)) none (eBin oIx (eVar 5) (eBin oMod (eBl oInt (eCons (eBin oAdd (eVar 4) (eBin oMul (eC (.int 3)) (eVar 6))) eNil)) (eC (.int 8)))) [6] 1000000))
    sNil)) sNil)
    (sSeq (sSet 7 (eC (.str "")))
    (sSeq (sFor (.nm 6) (iRg1 (eCons (eBin oAdd (eC (.int 1)) (eCall (ar 2 F_law_draw) [] (eCons (eVar 0) (eCons (eC (.int 7)) eNil)))) eNil)) (sSeq (sSet 7 (eBin oAdd (eVar 7) (eBin oIx (eVar 2) (eCall (ar 2 F_law_draw) [] (eCons (eVar 0) (eCons (eC (.int 26)) eNil))))))
    sNil) 1000000)
    (sSeq (sIf (eTru (eBin oEq (eVar 3) (eC (.int 1)))) (sSeq (sRet (eComp (.nm 6) (iRg1 (eCons (eVar 1) eNil)) none (eSl (eBin oAdd (eBin oAdd (eVar 7) (eVar 7)) (eC (.str "aaaaaaaa"))) none (some (eBin oAdd (eVar 6) (eC (.int 1))))) [6] 1000000))
    sNil) sNil)
    (sSeq (sSet 8 (eCall (ar 2 F_law_pick) [] (eCons (eVar 0) (eCons (eLst (eCons (eC (.int 1)) (eCons (eC (.int 3)) (eCons (eC (.int 5)) (eCons (eC (.int 7)) eNil))))) eNil))))
    (sSeq (sRet (eComp (.nm 6) (iRg1 (eCons (eVar 1) eNil)) none (eBin oAdd (eVar 7) (eBin oIx (eVar 2) (eBin oMod (eBl oInt (eCons (eBin oAdd (eVar 4) (eBin oMul (eVar 8) (eVar 6))) eNil)) (eC (.int 26))))) [6] 1000000))
    sNil)))))))
theorem sc_law_labels : FnScope N_law_labels ["_law_feed_here", "_law_many"] (defScope (top 13)) := ⟨rfl, rfl, rfl, by decide +kernel, rfl, by decide +kernel, by decide +kernel⟩
theorem bd_law_labels (Mg : Gm K mg) (C_law_pick : FnC P w K mg base cls 3 "_law_pick" 2 F_law_pick []) (C_law_draw : FnC P w K mg base cls 2 "_law_draw" 2 F_law_draw []) (cdv : Value) (A : Around) (outer : List PySem.Env) (s : Shared) (H : Hp) (R : Addr → Prop) (E : XK) (room : Room 3 (A.deeper (envOfC "_law_labels" (defScope (top 13)) s.heap.objs.size f cdv))) (gd : A.guards = some []) :
    PSs (cxOf (L2.CX P w) P w K mg base N_law_labels "_law_labels" (defScope (top 13)) f cdv A outer s H E) (defBody (top 13)) (mT ⟨K, R, cls, E⟩ (B_law_labels)) := by
  have B : Bd (cxOf (L2.CX P w) P w K mg base N_law_labels "_law_labels" (defScope (top 13)) f cdv A outer s H E) ⟨K, R, cls, E⟩ 3 := ⟨rfl, room, gd, pass_def, rfl⟩
  have nd := (sc_law_labels).nd
  exact (t_cons (zUnp B (m_tup (qC m_str (qC (qCall C_law_draw B (qC (qV 0) (qC m_int m_nil)) ) (qC (qCall C_law_draw B (qC (qV 0) (qC m_int m_nil)) ) m_nil)))) (gsCons (gNm _ nd) (gsCons (gNm _ nd) (gsCons (gNm _ nd) gsNil))))
    (t_cons (t_if (tEq B.K B.u (qV 3) m_int) (t_cons (zSet 5 nd (m_lst (qC m_str (qC m_str (qC m_str (qC m_str (qC m_str (qC m_str (qC m_str (qC m_str m_nil))))))))))
    (t_cons (t_ret (m_weak (sComp B nd [("_law_k", 6)] (.nm 6) (iRange1 Mg.range (qC (qV 1) m_nil)) (fun _ _ _ _ _ => (gNm _ nd)) (fun _ _ _ _ _ => pts_nil) (fun _ _ _ _ _ => x_e fun _ => (qIx B.inn.K B.u (qV 5) (qMod (qInt Mg.int (qC (qAdd B.inn.K (qV 4) (qMul B.inn.K m_int (qV 6))) m_nil)) m_int))))))
    t_nil)) t_nil)
    (t_cons (zSet 7 nd m_str)
    (t_cons (zFor B (.nm 6) (passes_of rfl) (iRange1 Mg.range (qC (qAdd B.K m_int (qCall C_law_draw B (qC (qV 0) (qC m_int m_nil)) )) m_nil)) (gNm _ nd) (t_cons (zSet 7 nd (qAdd B.K (qV 7) (qIx B.K B.u (qV 2) (qCall C_law_draw B (qC (qV 0) (qC m_int m_nil)) ))))
    t_nil))
    (t_cons (t_if (tEq B.K B.u (qV 3) m_int) (t_cons (t_ret (m_weak (sComp B nd [("_law_k", 6)] (.nm 6) (iRange1 Mg.range (qC (qV 1) m_nil)) (fun _ _ _ _ _ => (gNm _ nd)) (fun _ _ _ _ _ => pts_nil) (fun _ _ _ _ _ => x_e fun _ => (m_sl B.inn.K (qAdd B.inn.K (qAdd B.inn.K (qV 7) (qV 7)) m_str) True.intro (qAdd B.inn.K (qV 6) m_int))))))
    t_nil) t_nil)
    (t_cons (zSet 8 nd (qCall C_law_pick B (qC (qV 0) (qC (m_lst (qC m_int (qC m_int (qC m_int (qC m_int m_nil))))) m_nil)) ))
    (t_cons (t_ret (m_weak (sComp B nd [("_law_k", 6)] (.nm 6) (iRange1 Mg.range (qC (qV 1) m_nil)) (fun _ _ _ _ _ => (gNm _ nd)) (fun _ _ _ _ _ => pts_nil) (fun _ _ _ _ _ => x_e fun _ => (qAdd B.inn.K (qV 7) (qIx B.inn.K B.u (qV 2) (qMod (qInt Mg.int (qC (qAdd B.inn.K (qV 4) (qMul B.inn.K (qV 8) (qV 6))) m_nil)) m_int)))))))
    t_nil)))))))
def F_law_labels : Fn := defF false 9 B_law_labels
theorem ok_law_labels (D : FunD K "_law_labels" "_law_labels" (defArgs (top 13)) (defBody (top 13)) (defScope (top 13)) [] [] f fd) (at_ : mg "_law_labels" = some (.ref f)) (Mg : Gm K mg) (C_law_pick : FnC P w K mg base cls 3 "_law_pick" 2 F_law_pick []) (C_law_draw : FnC P w K mg base cls 2 "_law_draw" 2 F_law_draw []) : FnC P w K mg base cls 4 "_law_labels" 2 F_law_labels [] :=
  ⟨f, fd, ["_law_feed_here", "_law_many"], [], [], FnG.ofM (b := false) D sc_law_labels (bd_law_labels Mg C_law_pick C_law_draw), at_, D.kp, D.bindsN fun _ _ _ _ _ _ us hl => match us, hl with | [_, _], _ => rfl, .nil, .nil⟩
/-! _law_sum -/
def N_law_sum : List Str := ["_law_feed_here", "_law_labels_here", "_law_deep", "_law_way", "_law_word_here"]
def B_law_sum (s_law_sum : Fn) : SemS := (sSeq (sSet 3 (eCall (ar 2 F_law_draw) [] (eCons (eVar 0) (eCons (eC (.int 6)) eNil))))
    (sSeq (sIf (bAnd (eTru (eBin oGt (eVar 2) (eC (.int 0)))) (eTru (eBin oGt (eVar 3) (eC (.int 3))))) (sSeq (sSet 4 (eCall (ar 2 F_law_pick) [] (eCons (eVar 0) (eCons (eLst (eCons (eC (.str "plus")) (eCons (eC (.str "minus")) (eCons (eC (.str "times")) eNil)))) eNil))))
    (sSeq (sRet (eTup (eCons (eVar 4) (eCons (eCall (ar 3 s_law_sum) [] (eCons (eVar 0) (eCons (eVar 1) (eCons (eBin oSub (eVar 2) (eC (.int 1))) eNil)))) (eCons (eCall (ar 3 s_law_sum) [] (eCons (eVar 0) (eCons (eVar 1) (eCons (eBin oSub (eVar 2) (eC (.int 1))) eNil)))) eNil)))))
    sNil)) sNil)
    (sSeq (sIf (bAnd (eTru (eBin oNe (eVar 1) (eLst eNil))) (eTru (eBin oEq (eBin oMod (eBl oInt (eCons (eVar 3) eNil)) (eC (.int 2))) (eC (.int 1))))) (sSeq (sRet (eCall (ar 2 F_law_pick) [] (eCons (eVar 0) (eCons (eVar 1) eNil))))
    sNil) sNil)
    (sSeq (sRet (eCall (ar 2 F_law_draw) [] (eCons (eVar 0) (eCons (eC (.int 10)) eNil))))
    sNil))))
theorem sc_law_sum : FnScope N_law_sum ["_law_feed_here", "_law_labels_here", "_law_deep"] (defScope (top 14)) := ⟨rfl, rfl, rfl, by decide +kernel, rfl, by decide +kernel, by decide +kernel⟩
theorem bd_law_sum (Mg : Gm K mg) (C_law_draw : FnC P w K mg base cls 2 "_law_draw" 2 F_law_draw []) (C_law_pick : FnC P w K mg base cls 3 "_law_pick" 2 F_law_pick []) {s_law_sum : Fn} {n : Nat} (ih_law_sum : FnC P w K mg base cls (3 + n) "_law_sum" 3 s_law_sum []) (cdv : Value) (A : Around) (outer : List PySem.Env) (s : Shared) (H : Hp) (R : Addr → Prop) (E : XK) (room : Room (3 + n) (A.deeper (envOfC "_law_sum" (defScope (top 14)) s.heap.objs.size f cdv))) (gd : A.guards = some []) :
    PSs (cxOf (L2.CX P w) P w K mg base N_law_sum "_law_sum" (defScope (top 14)) f cdv A outer s H E) (defBody (top 14)) (mT ⟨K, R, cls, E⟩ (B_law_sum s_law_sum)) := by
  have B : Bd (cxOf (L2.CX P w) P w K mg base N_law_sum "_law_sum" (defScope (top 14)) f cdv A outer s H E) ⟨K, R, cls, E⟩ (3 + n) := ⟨rfl, room, gd, pass_def, rfl⟩
  have nd := (sc_law_sum).nd
  exact (t_cons (zSet 3 nd (qCall C_law_draw B (qC (qV 0) (qC m_int m_nil)) (by omega)))
    (t_cons (t_if (PW.pt (b_and (tGt (qV 2) m_int) (pw_and1 (tGt (qV 3) m_int)))) (t_cons (zSet 4 nd (qCall C_law_pick B (qC (qV 0) (qC (m_lst (qC m_str (qC m_str (qC m_str m_nil)))) m_nil)) (by omega)))
    (t_cons (t_ret (m_tup (qC (qV 4) (qC (qCall ih_law_sum B (qC (qV 0) (qC (qV 1) (qC (qSub (qV 2) m_int) m_nil))) (by omega)) (qC (qCall ih_law_sum B (qC (qV 0) (qC (qV 1) (qC (qSub (qV 2) m_int) m_nil))) (by omega)) m_nil)))))
    t_nil)) t_nil)
    (t_cons (t_if (PW.pt (b_and (tNe B.K B.u (qV 1) (m_lst m_nil)) (pw_and1 (tEq B.K B.u (qMod (qInt Mg.int (qC (qV 3) m_nil)) m_int) m_int)))) (t_cons (t_ret (qCall C_law_pick B (qC (qV 0) (qC (qV 1) m_nil)) (by omega)))
    t_nil) t_nil)
    (t_cons (t_ret (qCall C_law_draw B (qC (qV 0) (qC m_int m_nil)) (by omega)))
    t_nil))))
def F_law_sum : Nat → Fn
  | 0 => fun _ _ => Option.none
  | n + 1 => defF false 5 (B_law_sum (F_law_sum n))
theorem okg_law_sum {f_law_sum : Addr} {fd_law_sum : FuncData} (D_law_sum : FunD K "_law_sum" "_law_sum" (defArgs (top 14)) (defBody (top 14)) (defScope (top 14)) [] [] f_law_sum fd_law_sum) (g_law_sum : mg "_law_sum" = some (.ref f_law_sum)) (Mg : Gm K mg) (C_law_draw : FnC P w K mg base cls 2 "_law_draw" 2 F_law_draw []) (C_law_pick : FnC P w K mg base cls 3 "_law_pick" 2 F_law_pick []) : ∀ n, FnC P w K mg base cls (3 + n) "_law_sum" 3 (F_law_sum n) []
  | 0 => ⟨f_law_sum, fd_law_sum, ["_law_feed_here", "_law_labels_here", "_law_deep"], [], [], FnG.none, g_law_sum, D_law_sum.kp, D_law_sum.bindsN fun _ _ _ _ _ _ us hl => match us, hl with | [_, _, _], _ => rfl, .nil, .nil⟩
  | n + 1 => by
    obtain ih_law_sum := okg_law_sum D_law_sum g_law_sum Mg C_law_draw C_law_pick n
    exact ⟨f_law_sum, fd_law_sum, ["_law_feed_here", "_law_labels_here", "_law_deep"], [], [], FnG.ofM (b := false) D_law_sum sc_law_sum (bd_law_sum Mg C_law_draw C_law_pick ih_law_sum), g_law_sum, D_law_sum.kp, D_law_sum.bindsN fun _ _ _ _ _ _ us hl => match us, hl with | [_, _, _], _ => rfl, .nil, .nil⟩
theorem ok_law_sum {f_law_sum : Addr} {fd_law_sum : FuncData} (D_law_sum : FunD K "_law_sum" "_law_sum" (defArgs (top 14)) (defBody (top 14)) (defScope (top 14)) [] [] f_law_sum fd_law_sum) (g_law_sum : mg "_law_sum" = some (.ref f_law_sum)) (Mg : Gm K mg) (C_law_draw : FnC P w K mg base cls 2 "_law_draw" 2 F_law_draw []) (C_law_pick : FnC P w K mg base cls 3 "_law_pick" 2 F_law_pick []) (n : Nat) : FnC P w K mg base cls (3 + n) "_law_sum" 3 (F_law_sum n) [] := (okg_law_sum D_law_sum g_law_sum Mg C_law_draw C_law_pick n)
/-! _law_question -/
def N_law_question : List Str := ["_law_feed_here", "_law_labels_here", "_law_deep", "_law_word_here"]
def B_law_question (s_law_question : Fn) : SemS := (sSeq (sIf (bAnd (eTru (eBin oGt (eVar 2) (eC (.int 0)))) (eTru (eBin oEq (eCall (ar 2 F_law_draw) [] (eCons (eVar 0) (eCons (eC (.int 4)) eNil))) (eC (.int 0))))) (sSeq (sRet (eTup (eCons (eC (.str "not")) (eCons (eCall (ar 3 s_law_question) [] (eCons (eVar 0) (eCons (eVar 1) (eCons (eBin oSub (eVar 2) (eC (.int 1))) eNil)))) eNil))))
    sNil) sNil)
    (sSeq (sSet 3 (eCall (ar 2 F_law_pick) [] (eCons (eVar 0) (eCons (eLst (eCons (eC (.str "less")) (eCons (eC (.str "equal")) eNil))) eNil))))
    (sSeq (sRet (eTup (eCons (eVar 3) (eCons (eCall (ar 3 (F_law_sum 16)) [] (eCons (eVar 0) (eCons (eVar 1) (eCons (eVar 2) eNil)))) (eCons (eCall (ar 3 (F_law_sum 16)) [] (eCons (eVar 0) (eCons (eVar 1) (eCons (eVar 2) eNil)))) eNil)))))
    sNil)))
theorem sc_law_question : FnScope N_law_question ["_law_feed_here", "_law_labels_here", "_law_deep"] (defScope (top 15)) := ⟨rfl, rfl, rfl, by decide +kernel, rfl, by decide +kernel, by decide +kernel⟩
theorem bd_law_question (Mg : Gm K mg) (C_law_sum : FnC P w K mg base cls 19 "_law_sum" 3 (F_law_sum 16) []) (C_law_pick : FnC P w K mg base cls 3 "_law_pick" 2 F_law_pick []) (C_law_draw : FnC P w K mg base cls 2 "_law_draw" 2 F_law_draw []) {s_law_question : Fn} {n : Nat} (ih_law_question : FnC P w K mg base cls (19 + n) "_law_question" 3 s_law_question []) (cdv : Value) (A : Around) (outer : List PySem.Env) (s : Shared) (H : Hp) (R : Addr → Prop) (E : XK) (room : Room (19 + n) (A.deeper (envOfC "_law_question" (defScope (top 15)) s.heap.objs.size f cdv))) (gd : A.guards = some []) :
    PSs (cxOf (L2.CX P w) P w K mg base N_law_question "_law_question" (defScope (top 15)) f cdv A outer s H E) (defBody (top 15)) (mT ⟨K, R, cls, E⟩ (B_law_question s_law_question)) := by
  have B : Bd (cxOf (L2.CX P w) P w K mg base N_law_question "_law_question" (defScope (top 15)) f cdv A outer s H E) ⟨K, R, cls, E⟩ (19 + n) := ⟨rfl, room, gd, pass_def, rfl⟩
  have nd := (sc_law_question).nd
  exact (t_cons (t_if (PW.pt (b_and (tGt (qV 2) m_int) (pw_and1 (tEq B.K B.u (qCall C_law_draw B (qC (qV 0) (qC m_int m_nil)) (by omega)) m_int)))) (t_cons (t_ret (m_tup (qC m_str (qC (qCall ih_law_question B (qC (qV 0) (qC (qV 1) (qC (qSub (qV 2) m_int) m_nil))) (by omega)) m_nil))))
    t_nil) t_nil)
    (t_cons (zSet 3 nd (qCall C_law_pick B (qC (qV 0) (qC (m_lst (qC m_str (qC m_str m_nil))) m_nil)) (by omega)))
    (t_cons (t_ret (m_tup (qC (qV 3) (qC (qCall C_law_sum B (qC (qV 0) (qC (qV 1) (qC (qV 2) m_nil))) (by omega)) (qC (qCall C_law_sum B (qC (qV 0) (qC (qV 1) (qC (qV 2) m_nil))) (by omega)) m_nil)))))
    t_nil)))
def F_law_question : Nat → Fn
  | 0 => fun _ _ => Option.none
  | n + 1 => defF false 4 (B_law_question (F_law_question n))
theorem okg_law_question {f_law_question : Addr} {fd_law_question : FuncData} (D_law_question : FunD K "_law_question" "_law_question" (defArgs (top 15)) (defBody (top 15)) (defScope (top 15)) [] [] f_law_question fd_law_question) (g_law_question : mg "_law_question" = some (.ref f_law_question)) (Mg : Gm K mg) (C_law_sum : FnC P w K mg base cls 19 "_law_sum" 3 (F_law_sum 16) []) (C_law_pick : FnC P w K mg base cls 3 "_law_pick" 2 F_law_pick []) (C_law_draw : FnC P w K mg base cls 2 "_law_draw" 2 F_law_draw []) : ∀ n, FnC P w K mg base cls (19 + n) "_law_question" 3 (F_law_question n) []
  | 0 => ⟨f_law_question, fd_law_question, ["_law_feed_here", "_law_labels_here", "_law_deep"], [], [], FnG.none, g_law_question, D_law_question.kp, D_law_question.bindsN fun _ _ _ _ _ _ us hl => match us, hl with | [_, _, _], _ => rfl, .nil, .nil⟩
  | n + 1 => by
    obtain ih_law_question := okg_law_question D_law_question g_law_question Mg C_law_sum C_law_pick C_law_draw n
    exact ⟨f_law_question, fd_law_question, ["_law_feed_here", "_law_labels_here", "_law_deep"], [], [], FnG.ofM (b := false) D_law_question sc_law_question (bd_law_question Mg C_law_sum C_law_pick C_law_draw ih_law_question), g_law_question, D_law_question.kp, D_law_question.bindsN fun _ _ _ _ _ _ us hl => match us, hl with | [_, _, _], _ => rfl, .nil, .nil⟩
theorem ok_law_question {f_law_question : Addr} {fd_law_question : FuncData} (D_law_question : FunD K "_law_question" "_law_question" (defArgs (top 15)) (defBody (top 15)) (defScope (top 15)) [] [] f_law_question fd_law_question) (g_law_question : mg "_law_question" = some (.ref f_law_question)) (Mg : Gm K mg) (C_law_sum : FnC P w K mg base cls 19 "_law_sum" 3 (F_law_sum 16) []) (C_law_pick : FnC P w K mg base cls 3 "_law_pick" 2 F_law_pick []) (C_law_draw : FnC P w K mg base cls 2 "_law_draw" 2 F_law_draw []) (n : Nat) : FnC P w K mg base cls (19 + n) "_law_question" 3 (F_law_question n) [] := (okg_law_question D_law_question g_law_question Mg C_law_sum C_law_pick C_law_draw n)
/-! _law_deed -/
def N_law_deed : List Str := ["_law_feed_here", "_law_labels_here", "_law_size", "_law_words", "_law_word_here", "_law_price", "_law_spot"]
def B_law_deed : SemS := (sSeq (sSet 3 (eBin oAdd (eLst (eCons (eC (.str "jump")) (eCons (eC (.str "unless")) (eCons (eC (.str "mark")) (eCons (eC (.str "off")) (eCons (eC (.str "end")) eNil)))))) (eIf (eTru (eBin oNe (eVar 1) (eLst eNil))) (eLst (eCons (eC (.str "set")) (eCons (eC (.str "ask")) (eCons (eC (.str "set")) eNil)))) (eLst eNil))))
    (sSeq (sPar [4, 5] (eCons (eCall (ar 2 F_law_pick) [] (eCons (eVar 0) (eCons (eVar 3) eNil))) (eCons (eBin oAdd (eC (.int 1)) (eCall (ar 2 F_law_draw) [] (eCons (eVar 0) (eCons (eC (.int 9)) eNil)))) eNil)))
    (sSeq (sIf (eTru (eBin oEq (eVar 4) (eC (.str "end")))) (sSeq (sRet (eTup (eCons (eC (.str "end")) eNil)))
    sNil) sNil)
    (sSeq (sIf (bOr (eTru (eBin oEq (eVar 4) (eC (.str "mark")))) (eTru (eBin oEq (eVar 4) (eC (.str "off"))))) (sSeq (sRet (eTup (eCons (eVar 4) (eCons (eVar 5) eNil))))
    sNil) sNil)
    (sSeq (sIf (eTru (eBin oEq (eVar 4) (eC (.str "ask")))) (sSeq (sRet (eTup (eCons (eVar 4) (eCons (eCall (ar 2 F_law_pick) [] (eCons (eVar 0) (eCons (eVar 1) eNil))) (eCons (eVar 5) eNil)))))
    sNil) sNil)
    (sSeq (sIf (eTru (eBin oEq (eVar 4) (eC (.str "set")))) (sSeq (sRet (eTup (eCons (eVar 4) (eCons (eCall (ar 2 F_law_pick) [] (eCons (eVar 0) (eCons (eVar 1) eNil))) (eCons (eCall (ar 3 (F_law_sum 16)) [] (eCons (eVar 0) (eCons (eVar 1) (eCons (eC (.int 2)) eNil)))) (eCons (eVar 5) eNil))))))
    sNil) sNil)
    (sSeq (sSet 6 (eCall (ar 2 F_law_draw) [] (eCons (eVar 0) (eCons (eVar 2) eNil))))
    (sSeq (sIf (eTru (eBin oEq (eVar 4) (eC (.str "jump")))) (sSeq (sRet (eTup (eCons (eVar 4) (eCons (eVar 6) (eCons (eVar 5) eNil)))))
    sNil) sNil)
    (sSeq (sRet (eTup (eCons (eVar 4) (eCons (eCall (ar 3 (F_law_question 16)) [] (eCons (eVar 0) (eCons (eVar 1) (eCons (eC (.int 2)) eNil)))) (eCons (eVar 6) (eCons (eVar 5) eNil))))))
    sNil)))))))))
theorem sc_law_deed : FnScope N_law_deed ["_law_feed_here", "_law_labels_here", "_law_size"] (defScope (top 16)) := ⟨rfl, rfl, rfl, by decide +kernel, rfl, by decide +kernel, by decide +kernel⟩
theorem bd_law_deed (Mg : Gm K mg) (C_law_question : FnC P w K mg base cls 35 "_law_question" 3 (F_law_question 16) []) (C_law_draw : FnC P w K mg base cls 2 "_law_draw" 2 F_law_draw []) (C_law_sum : FnC P w K mg base cls 19 "_law_sum" 3 (F_law_sum 16) []) (C_law_pick : FnC P w K mg base cls 3 "_law_pick" 2 F_law_pick []) (cdv : Value) (A : Around) (outer : List PySem.Env) (s : Shared) (H : Hp) (R : Addr → Prop) (E : XK) (room : Room 35 (A.deeper (envOfC "_law_deed" (defScope (top 16)) s.heap.objs.size f cdv))) (gd : A.guards = some []) :
    PSs (cxOf (L2.CX P w) P w K mg base N_law_deed "_law_deed" (defScope (top 16)) f cdv A outer s H E) (defBody (top 16)) (mT ⟨K, R, cls, E⟩ (B_law_deed)) := by
  have B : Bd (cxOf (L2.CX P w) P w K mg base N_law_deed "_law_deed" (defScope (top 16)) f cdv A outer s H E) ⟨K, R, cls, E⟩ 35 := ⟨rfl, room, gd, pass_def, rfl⟩
  have nd := (sc_law_deed).nd
  exact (t_cons (zSet 3 nd (qAdd B.K (m_lst (qC m_str (qC m_str (qC m_str (qC m_str (qC m_str m_nil)))))) (m_if (tNe B.K B.u (qV 1) (m_lst m_nil)) (m_lst (qC m_str (qC m_str (qC m_str m_nil)))) (m_lst m_nil))))
    (t_cons (zPar2 B nd (qC (qCall C_law_pick B (qC (qV 0) (qC (qV 3) m_nil)) ) (qC (qAdd B.K m_int (qCall C_law_draw B (qC (qV 0) (qC m_int m_nil)) )) m_nil)))
    (t_cons (t_if (tEq B.K B.u (qV 4) m_str) (t_cons (t_ret (m_tup (qC m_str m_nil)))
    t_nil) t_nil)
    (t_cons (t_if (PW.pt (b_or (tEq B.K B.u (qV 4) m_str) (pw_or1 (tEq B.K B.u (qV 4) m_str)))) (t_cons (t_ret (m_tup (qC (qV 4) (qC (qV 5) m_nil))))
    t_nil) t_nil)
    (t_cons (t_if (tEq B.K B.u (qV 4) m_str) (t_cons (t_ret (m_tup (qC (qV 4) (qC (qCall C_law_pick B (qC (qV 0) (qC (qV 1) m_nil)) ) (qC (qV 5) m_nil)))))
    t_nil) t_nil)
    (t_cons (t_if (tEq B.K B.u (qV 4) m_str) (t_cons (t_ret (m_tup (qC (qV 4) (qC (qCall C_law_pick B (qC (qV 0) (qC (qV 1) m_nil)) ) (qC (qCall C_law_sum B (qC (qV 0) (qC (qV 1) (qC m_int m_nil))) ) (qC (qV 5) m_nil))))))
    t_nil) t_nil)
    (t_cons (zSet 6 nd (qCall C_law_draw B (qC (qV 0) (qC (qV 2) m_nil)) ))
    (t_cons (t_if (tEq B.K B.u (qV 4) m_str) (t_cons (t_ret (m_tup (qC (qV 4) (qC (qV 6) (qC (qV 5) m_nil)))))
    t_nil) t_nil)
    (t_cons (t_ret (m_tup (qC (qV 4) (qC (qCall C_law_question B (qC (qV 0) (qC (qV 1) (qC m_int m_nil))) ) (qC (qV 6) (qC (qV 5) m_nil))))))
    t_nil)))))))))
def F_law_deed : Fn := defF false 7 B_law_deed
theorem ok_law_deed (D : FunD K "_law_deed" "_law_deed" (defArgs (top 16)) (defBody (top 16)) (defScope (top 16)) [] [] f fd) (at_ : mg "_law_deed" = some (.ref f)) (Mg : Gm K mg) (C_law_question : FnC P w K mg base cls 35 "_law_question" 3 (F_law_question 16) []) (C_law_draw : FnC P w K mg base cls 2 "_law_draw" 2 F_law_draw []) (C_law_sum : FnC P w K mg base cls 19 "_law_sum" 3 (F_law_sum 16) []) (C_law_pick : FnC P w K mg base cls 3 "_law_pick" 2 F_law_pick []) : FnC P w K mg base cls 36 "_law_deed" 3 F_law_deed [] :=
  ⟨f, fd, ["_law_feed_here", "_law_labels_here", "_law_size"], [], [], FnG.ofM (b := false) D sc_law_deed (bd_law_deed Mg C_law_question C_law_draw C_law_sum C_law_pick), at_, D.kp, D.bindsN fun _ _ _ _ _ _ us hl => match us, hl with | [_, _, _], _ => rfl, .nil, .nil⟩
/-! _law_box -/
def N_law_box : List Str := ["_law_feed_here", "_law_label", "_law_top"]
def B_law_box : SemS := (sSeq (sSet 2 (eCall (ar 2 F_law_draw) [] (eCons (eVar 0) (eCons (eC (.int 4)) eNil))))
    (sSeq (sRet (eTup (eCons (eVar 1) (eCons (eCall (ar 2 F_law_pick) [] (eCons (eVar 0) (eCons (eLst (eCons (eC (.str "quick")) (eCons (eC (.str "saved")) (eCons (eC (.str "kept")) eNil)))) eNil))) (eCons (eVar 2) (eCons (eCall (ar 2 F_law_draw) [] (eCons (eVar 0) (eCons (eBin oAdd (eVar 2) (eC (.int 1))) eNil))) eNil))))))
    sNil))
theorem sc_law_box : FnScope N_law_box ["_law_feed_here", "_law_label"] (defScope (top 17)) := ⟨rfl, rfl, rfl, by decide +kernel, rfl, by decide +kernel, by decide +kernel⟩
theorem bd_law_box (Mg : Gm K mg) (C_law_draw : FnC P w K mg base cls 2 "_law_draw" 2 F_law_draw []) (C_law_pick : FnC P w K mg base cls 3 "_law_pick" 2 F_law_pick []) (cdv : Value) (A : Around) (outer : List PySem.Env) (s : Shared) (H : Hp) (R : Addr → Prop) (E : XK) (room : Room 3 (A.deeper (envOfC "_law_box" (defScope (top 17)) s.heap.objs.size f cdv))) (gd : A.guards = some []) :
    PSs (cxOf (L2.CX P w) P w K mg base N_law_box "_law_box" (defScope (top 17)) f cdv A outer s H E) (defBody (top 17)) (mT ⟨K, R, cls, E⟩ (B_law_box)) := by
  have B : Bd (cxOf (L2.CX P w) P w K mg base N_law_box "_law_box" (defScope (top 17)) f cdv A outer s H E) ⟨K, R, cls, E⟩ 3 := ⟨rfl, room, gd, pass_def, rfl⟩
  have nd := (sc_law_box).nd
  exact (t_cons (zSet 2 nd (qCall C_law_draw B (qC (qV 0) (qC m_int m_nil)) ))
    (t_cons (t_ret (m_tup (qC (qV 1) (qC (qCall C_law_pick B (qC (qV 0) (qC (m_lst (qC m_str (qC m_str (qC m_str m_nil)))) m_nil)) ) (qC (qV 2) (qC (qCall C_law_draw B (qC (qV 0) (qC (qAdd B.K (qV 2) m_int) m_nil)) ) m_nil))))))
    t_nil))
def F_law_box : Fn := defF false 3 B_law_box
theorem ok_law_box (D : FunD K "_law_box" "_law_box" (defArgs (top 17)) (defBody (top 17)) (defScope (top 17)) [] [] f fd) (at_ : mg "_law_box" = some (.ref f)) (Mg : Gm K mg) (C_law_draw : FnC P w K mg base cls 2 "_law_draw" 2 F_law_draw []) (C_law_pick : FnC P w K mg base cls 3 "_law_pick" 2 F_law_pick []) : FnC P w K mg base cls 4 "_law_box" 2 F_law_box [] :=
  ⟨f, fd, ["_law_feed_here", "_law_label"], [], [], FnG.ofM (b := false) D sc_law_box (bd_law_box Mg C_law_draw C_law_pick), at_, D.kp, D.bindsN fun _ _ _ _ _ _ us hl => match us, hl with | [_, _], _ => rfl, .nil, .nil⟩
/-! _law_plan -/
def N_law_plan : List Str := ["_law_feed_here", "_law_labels_here", "_law_boxes", "_law_label", "_law_size", "_law_deeds", "_law_k", "_law_stays", "_law_box_here", "_law_heard"]
def B_law_plan : SemS := (sSeq (sSet 1 (eBl oSorted (eCons (eCall (ar 2 F_law_labels) [] (eCons (eVar 0) (eCons (eCall (ar 2 F_law_draw) [] (eCons (eVar 0) (eCons (eC (.int 4)) eNil))) eNil))) eNil)))
    (sSeq (sSet 2 (eComp (.nm 3) (iSeq (eVar 1)) none (eCall (ar 2 F_law_box) [] (eCons (eVar 0) (eCons (eVar 3) eNil))) [3] 1000000))
    (sSeq (sSet 4 (eBin oAdd (eC (.int 1)) (eCall (ar 2 F_law_draw) [] (eCons (eVar 0) (eCons (eC (.int 7)) eNil)))))
    (sSeq (sSet 5 (eMk (eComp (.nm 6) (iRg1 (eCons (eBin oSub (eVar 4) (eC (.int 1))) eNil)) none (eCall (ar 3 F_law_deed) [] (eCons (eVar 0) (eCons (eVar 1) (eCons (eVar 4) eNil)))) [6] 1000000)))
    (sSeq (sDrop (eApp (eVar 5) (eCons (eIf (eTru (eBin oEq (eCall (ar 2 F_law_draw) [] (eCons (eVar 0) (eCons (eC (.int 2)) eNil))) (eC (.int 0)))) (eTup (eCons (eC (.str "end")) eNil)) (eTup (eCons (eC (.str "jump")) (eCons (eCall (ar 2 F_law_draw) [] (eCons (eVar 0) (eCons (eVar 4) eNil))) (eCons (eBin oAdd (eC (.int 1)) (eCall (ar 2 F_law_draw) [] (eCons (eVar 0) (eCons (eC (.int 9)) eNil)))) eNil))))) eNil)))
    (sSeq (sSet 7 (eComp (.nm 8) (iSeq (eVar 2)) (some (eTru (eBin oNe (eBin oIx (eVar 8) (eC (.int 1))) (eC (.str "quick"))))) (eBin oIx (eVar 8) (eC (.int 0))) [8] 1000000))
    (sSeq (sSet 9 (eComp (.nm 3) (iSeq (eVar 7)) (some (eTru (eBin oGt (eCall (ar 2 F_law_draw) [] (eCons (eVar 0) (eCons (eC (.int 3)) eNil))) (eC (.int 0))))) (eVar 3) [3] 1000000))
    (sSeq (sRet (eTup (eCons (eBl oTuple (eCons (eVar 2) eNil)) (eCons (eBl oTuple (eCons (eVar 5) eNil)) (eCons (eBl oTuple (eCons (eVar 9) eNil)) eNil)))))
    sNil))))))))
theorem sc_law_plan : FnScope N_law_plan ["_law_feed_here"] (defScope (top 18)) := ⟨rfl, rfl, rfl, by decide +kernel, rfl, by decide +kernel, by decide +kernel⟩
theorem bd_law_plan (Mg : Gm K mg) (C_law_draw : FnC P w K mg base cls 2 "_law_draw" 2 F_law_draw []) (C_law_deed : FnC P w K mg base cls 36 "_law_deed" 3 F_law_deed []) (C_law_box : FnC P w K mg base cls 4 "_law_box" 2 F_law_box []) (C_law_labels : FnC P w K mg base cls 4 "_law_labels" 2 F_law_labels []) (cdv : Value) (A : Around) (outer : List PySem.Env) (s : Shared) (H : Hp) (R : Addr → Prop) (E : XK) (room : Room 36 (A.deeper (envOfC "_law_plan" (defScope (top 18)) s.heap.objs.size f cdv))) (gd : A.guards = some []) :
    PSs (cxOf (L2.CX P w) P w K mg base N_law_plan "_law_plan" (defScope (top 18)) f cdv A outer s H E) (defBody (top 18)) (mT ⟨K, R, cls, E⟩ (B_law_plan)) := by
  have B : Bd (cxOf (L2.CX P w) P w K mg base N_law_plan "_law_plan" (defScope (top 18)) f cdv A outer s H E) ⟨K, R, cls, E⟩ 36 := ⟨rfl, room, gd, pass_def, rfl⟩
  have nd := (sc_law_plan).nd
  exact (t_cons (zSet 1 nd (qSorted B.K Mg.sorted (qC (qCall C_law_labels B (qC (qV 0) (qC (qCall C_law_draw B (qC (qV 0) (qC m_int m_nil)) ) m_nil)) ) m_nil)))
    (t_cons (zSetC 2 B nd [("_law_label", 3)] (.nm 3) (i_seq B.K (qV 1)) (fun _ _ _ _ _ => (gNm _ nd)) (fun _ _ _ _ _ => pts_nil) (fun _ _ _ _ _ => x_e fun _ => (qCall C_law_box B.inn (qC (qV 0) (qC (qV 3) m_nil)) )))
    (t_cons (zSet 4 nd (qAdd B.K m_int (qCall C_law_draw B (qC (qV 0) (qC m_int m_nil)) )))
    (t_cons (zSetCF 5 B nd [("_law_k", 6)] (.nm 6) (iRange1 Mg.range (qC (qSub (qV 4) m_int) m_nil)) (fun _ _ _ _ _ => (gNm _ nd)) (fun _ _ _ _ _ => pts_nil) (fun _ _ _ _ _ => x_e fun _ => (qCall C_law_deed B.inn (qC (qV 0) (qC (qV 1) (qC (qV 4) m_nil))) )))
    (t_cons (zDrop (qApp B.K (qV 5) (qC (m_if (tEq B.K B.u (qCall C_law_draw B (qC (qV 0) (qC m_int m_nil)) ) m_int) (m_tup (qC m_str m_nil)) (m_tup (qC m_str (qC (qCall C_law_draw B (qC (qV 0) (qC (qV 4) m_nil)) ) (qC (qAdd B.K m_int (qCall C_law_draw B (qC (qV 0) (qC m_int m_nil)) )) m_nil))))) m_nil)))
    (t_cons (zSetC 7 B nd [("_law_box_here", 8)] (.nm 8) (i_seq B.K (qV 2)) (fun _ _ _ _ _ => (gNm _ nd)) (fun _ _ _ _ _ => x_t fun _ => (tNe B.inn.K B.u (qIx B.inn.K B.u (qV 8) m_int) m_str)) (fun _ _ _ _ _ => x_e fun _ => (qIx B.inn.K B.u (qV 8) m_int)))
    (t_cons (zSetC 9 B nd [("_law_label", 3)] (.nm 3) (i_seq B.K (qV 7)) (fun _ _ _ _ _ => (gNm _ nd)) (fun _ _ _ _ _ => x_t fun _ => (tGt (qCall C_law_draw B.inn (qC (qV 0) (qC m_int m_nil)) ) m_int)) (fun _ _ _ _ _ => x_e fun _ => (qV 3)))
    (t_cons (t_ret (m_tup (qC (qTuple B.K Mg.tuple (qC (qV 2) m_nil)) (qC (qTuple B.K Mg.tuple (qC (qV 5) m_nil)) (qC (qTuple B.K Mg.tuple (qC (qV 9) m_nil)) m_nil)))))
    t_nil))))))))
def F_law_plan : Fn := defF false 10 B_law_plan
theorem ok_law_plan (D : FunD K "_law_plan" "_law_plan" (defArgs (top 18)) (defBody (top 18)) (defScope (top 18)) [] [] f fd) (at_ : mg "_law_plan" = some (.ref f)) (Mg : Gm K mg) (C_law_draw : FnC P w K mg base cls 2 "_law_draw" 2 F_law_draw []) (C_law_deed : FnC P w K mg base cls 36 "_law_deed" 3 F_law_deed []) (C_law_box : FnC P w K mg base cls 4 "_law_box" 2 F_law_box []) (C_law_labels : FnC P w K mg base cls 4 "_law_labels" 2 F_law_labels []) : FnC P w K mg base cls 37 "_law_plan" 1 F_law_plan [] :=
  ⟨f, fd, ["_law_feed_here"], [], [], FnG.ofM (b := false) D sc_law_plan (bd_law_plan Mg C_law_draw C_law_deed C_law_box C_law_labels), at_, D.kp, D.bindsN fun _ _ _ _ _ _ us hl => match us, hl with | [_], _ => rfl, .nil, .nil⟩
/-! _law_labels_of -/
def N_law_labels_of : List Str := ["_law_plan_here", "_law_box_here"]
def B_law_labels_of : SemS := (sSeq (sRet (eComp (.nm 1) (iSeq (eBin oIx (eVar 0) (eC (.int 0)))) none (eBin oIx (eVar 1) (eC (.int 0))) [1] 1000000))
    sNil)
theorem sc_law_labels_of : FnScope N_law_labels_of ["_law_plan_here"] (defScope (top 19)) := ⟨rfl, rfl, rfl, by decide +kernel, rfl, by decide +kernel, by decide +kernel⟩
theorem bd_law_labels_of (Mg : Gm K mg)  (cdv : Value) (A : Around) (outer : List PySem.Env) (s : Shared) (H : Hp) (R : Addr → Prop) (E : XK) (room : Room 0 (A.deeper (envOfC "_law_labels_of" (defScope (top 19)) s.heap.objs.size f cdv))) (gd : A.guards = some []) :
    PSs (cxOf (L2.CX P w) P w K mg base N_law_labels_of "_law_labels_of" (defScope (top 19)) f cdv A outer s H E) (defBody (top 19)) (mT ⟨K, R, cls, E⟩ (B_law_labels_of)) := by
  have B : Bd (cxOf (L2.CX P w) P w K mg base N_law_labels_of "_law_labels_of" (defScope (top 19)) f cdv A outer s H E) ⟨K, R, cls, E⟩ 0 := ⟨rfl, room, gd, pass_def, rfl⟩
  have nd := (sc_law_labels_of).nd
  exact (t_cons (t_ret (m_weak (sComp B nd [("_law_box_here", 1)] (.nm 1) (i_seq B.K (qIx B.K B.u (qV 0) m_int)) (fun _ _ _ _ _ => (gNm _ nd)) (fun _ _ _ _ _ => pts_nil) (fun _ _ _ _ _ => x_e fun _ => (qIx B.inn.K B.u (qV 1) m_int)))))
    t_nil)
def F_law_labels_of : Fn := defF false 2 B_law_labels_of
theorem ok_law_labels_of (D : FunD K "_law_labels_of" "_law_labels_of" (defArgs (top 19)) (defBody (top 19)) (defScope (top 19)) [] [] f fd) (at_ : mg "_law_labels_of" = some (.ref f)) (Mg : Gm K mg)  : FnC P w K mg base cls 1 "_law_labels_of" 1 F_law_labels_of [] :=
  ⟨f, fd, ["_law_plan_here"], [], [], FnG.ofM (b := false) D sc_law_labels_of (bd_law_labels_of Mg ), at_, D.kp, D.bindsN fun _ _ _ _ _ _ us hl => match us, hl with | [_], _ => rfl, .nil, .nil⟩
/-! _law_some -/
def N_law_some : List Str := ["_law_feed_here", "_law_some_here", "_law_one"]
def B_law_some : SemS := (sSeq (sRet (eBl oTuple (eCons (eComp (.nm 2) (iSeq (eVar 1)) (some (eTru (eBin oEq (eCall (ar 2 F_law_draw) [] (eCons (eVar 0) (eCons (eC (.int 2)) eNil))) (eC (.int 0))))) (eVar 2) [2] 1000000) eNil)))
    sNil)
theorem sc_law_some : FnScope N_law_some ["_law_feed_here", "_law_some_here"] (defScope (top 20)) := ⟨rfl, rfl, rfl, by decide +kernel, rfl, by decide +kernel, by decide +kernel⟩
theorem bd_law_some (Mg : Gm K mg) (C_law_draw : FnC P w K mg base cls 2 "_law_draw" 2 F_law_draw []) (cdv : Value) (A : Around) (outer : List PySem.Env) (s : Shared) (H : Hp) (R : Addr → Prop) (E : XK) (room : Room 2 (A.deeper (envOfC "_law_some" (defScope (top 20)) s.heap.objs.size f cdv))) (gd : A.guards = some []) :
    PSs (cxOf (L2.CX P w) P w K mg base N_law_some "_law_some" (defScope (top 20)) f cdv A outer s H E) (defBody (top 20)) (mT ⟨K, R, cls, E⟩ (B_law_some)) := by
  have B : Bd (cxOf (L2.CX P w) P w K mg base N_law_some "_law_some" (defScope (top 20)) f cdv A outer s H E) ⟨K, R, cls, E⟩ 2 := ⟨rfl, room, gd, pass_def, rfl⟩
  have nd := (sc_law_some).nd
  exact (t_cons (t_ret (qTuple B.K Mg.tuple (qC (m_weak (sComp B nd [("_law_one", 2)] (.nm 2) (i_seq B.K (qV 1)) (fun _ _ _ _ _ => (gNm _ nd)) (fun _ _ _ _ _ => x_t fun _ => (tEq B.inn.K B.u (qCall C_law_draw B.inn (qC (qV 0) (qC m_int m_nil)) ) m_int)) (fun _ _ _ _ _ => x_e fun _ => (qV 2)))) m_nil)))
    t_nil)
def F_law_some : Fn := defF false 3 B_law_some
theorem ok_law_some (D : FunD K "_law_some" "_law_some" (defArgs (top 20)) (defBody (top 20)) (defScope (top 20)) [] [] f fd) (at_ : mg "_law_some" = some (.ref f)) (Mg : Gm K mg) (C_law_draw : FnC P w K mg base cls 2 "_law_draw" 2 F_law_draw []) : FnC P w K mg base cls 3 "_law_some" 2 F_law_some [] :=
  ⟨f, fd, ["_law_feed_here", "_law_some_here"], [], [], FnG.ofM (b := false) D sc_law_some (bd_law_some Mg C_law_draw), at_, D.kp, D.bindsN fun _ _ _ _ _ _ us hl => match us, hl with | [_, _], _ => rfl, .nil, .nil⟩
/-! _law_word -/
def N_law_word : List Str := ["_law_matter", "_law_one"]
def B_law_word (s_law_word : Fn) : SemS := (sSeq (sIf (bNot (eTru (eUn (oIsi "tuple") (eVar 0)))) (sSeq (sRet (eBl oStr (eCons (eVar 0) eNil)))
    sNil) sNil)
    (sSeq (sRet (eBin oAdd (eBin oAdd (eBin oAdd (eBin oIx (eVar 0) (eC (.int 0))) (eC (.str "("))) (eM1 oJoin (eC (.str ",")) (eComp (.nm 1) (iSeq (eSl (eVar 0) (some (eC (.int 1))) none)) none (eCall (ar 1 s_law_word) [] (eCons (eVar 1) eNil)) [1] 1000000))) (eC (.str ")"))))
    sNil))
theorem sc_law_word : FnScope N_law_word ["_law_matter"] (defScope (top 21)) := ⟨rfl, rfl, rfl, by decide +kernel, rfl, by decide +kernel, by decide +kernel⟩
theorem bd_law_word (Mg : Gm K mg)  {s_law_word : Fn} {n : Nat} (ih_law_word : FnC P w K mg base cls (0 + n) "_law_word" 1 s_law_word []) (cdv : Value) (A : Around) (outer : List PySem.Env) (s : Shared) (H : Hp) (R : Addr → Prop) (E : XK) (room : Room (0 + n) (A.deeper (envOfC "_law_word" (defScope (top 21)) s.heap.objs.size f cdv))) (gd : A.guards = some []) :
    PSs (cxOf (L2.CX P w) P w K mg base N_law_word "_law_word" (defScope (top 21)) f cdv A outer s H E) (defBody (top 21)) (mT ⟨K, R, cls, E⟩ (B_law_word s_law_word)) := by
  have B : Bd (cxOf (L2.CX P w) P w K mg base N_law_word "_law_word" (defScope (top 21)) f cdv A outer s H E) ⟨K, R, cls, E⟩ (0 + n) := ⟨rfl, room, gd, pass_def, rfl⟩
  have nd := (sc_law_word).nd
  exact (t_cons (t_if (b_not (tV B.K (qIsi B.K Mg.isinstance Mg.tuple PyProof.Rows.boot_tuple (qV 0)))) (t_cons (t_ret (qStr Mg.str (qC (qV 0) m_nil)))
    t_nil) t_nil)
    (t_cons (t_ret (qAdd B.K (qAdd B.K (qAdd B.K (qIx B.K B.u (qV 0) m_int) m_str) (qJoin B.K m_str (m_weak (sComp B nd [("_law_one", 1)] (.nm 1) (i_seq B.K (m_sl B.K (qV 0) m_int True.intro)) (fun _ _ _ _ _ => (gNm _ nd)) (fun _ _ _ _ _ => pts_nil) (fun _ _ _ _ _ => x_e fun _ => (qCall ih_law_word B.inn (qC (qV 1) m_nil) (by omega))))))) m_str))
    t_nil))
def F_law_word : Nat → Fn
  | 0 => fun _ _ => Option.none
  | n + 1 => defF false 2 (B_law_word (F_law_word n))
theorem okg_law_word {f_law_word : Addr} {fd_law_word : FuncData} (D_law_word : FunD K "_law_word" "_law_word" (defArgs (top 21)) (defBody (top 21)) (defScope (top 21)) [] [] f_law_word fd_law_word) (g_law_word : mg "_law_word" = some (.ref f_law_word)) (Mg : Gm K mg)  : ∀ n, FnC P w K mg base cls (0 + n) "_law_word" 1 (F_law_word n) []
  | 0 => ⟨f_law_word, fd_law_word, ["_law_matter"], [], [], FnG.none, g_law_word, D_law_word.kp, D_law_word.bindsN fun _ _ _ _ _ _ us hl => match us, hl with | [_], _ => rfl, .nil, .nil⟩
  | n + 1 => by
    obtain ih_law_word := okg_law_word D_law_word g_law_word Mg  n
    exact ⟨f_law_word, fd_law_word, ["_law_matter"], [], [], FnG.ofM (b := false) D_law_word sc_law_word (bd_law_word Mg  ih_law_word), g_law_word, D_law_word.kp, D_law_word.bindsN fun _ _ _ _ _ _ us hl => match us, hl with | [_], _ => rfl, .nil, .nil⟩
theorem ok_law_word {f_law_word : Addr} {fd_law_word : FuncData} (D_law_word : FunD K "_law_word" "_law_word" (defArgs (top 21)) (defBody (top 21)) (defScope (top 21)) [] [] f_law_word fd_law_word) (g_law_word : mg "_law_word" = some (.ref f_law_word)) (Mg : Gm K mg)  (n : Nat) : FnC P w K mg base cls (0 + n) "_law_word" 1 (F_law_word n) [] := (okg_law_word D_law_word g_law_word Mg  n)
/-! _law_row -/
def N_law_row : List Str := ["_law_deed_here", "_law_one"]
def B_law_row : SemS := (sSeq (sRet (eM1 oJoin (eC (.str " ")) (eBin oAdd (eLst (eCons (eBin oIx (eVar 0) (eC (.int 0))) eNil)) (eComp (.nm 1) (iSeq (eSl (eVar 0) (some (eC (.int 1))) none)) none (eCall (ar 1 (F_law_word 64)) [] (eCons (eVar 1) eNil)) [1] 1000000))))
    sNil)
theorem sc_law_row : FnScope N_law_row ["_law_deed_here"] (defScope (top 22)) := ⟨rfl, rfl, rfl, by decide +kernel, rfl, by decide +kernel, by decide +kernel⟩
theorem bd_law_row (Mg : Gm K mg) (C_law_word : FnC P w K mg base cls 64 "_law_word" 1 (F_law_word 64) []) (cdv : Value) (A : Around) (outer : List PySem.Env) (s : Shared) (H : Hp) (R : Addr → Prop) (E : XK) (room : Room 64 (A.deeper (envOfC "_law_row" (defScope (top 22)) s.heap.objs.size f cdv))) (gd : A.guards = some []) :
    PSs (cxOf (L2.CX P w) P w K mg base N_law_row "_law_row" (defScope (top 22)) f cdv A outer s H E) (defBody (top 22)) (mT ⟨K, R, cls, E⟩ (B_law_row)) := by
  have B : Bd (cxOf (L2.CX P w) P w K mg base N_law_row "_law_row" (defScope (top 22)) f cdv A outer s H E) ⟨K, R, cls, E⟩ 64 := ⟨rfl, room, gd, pass_def, rfl⟩
  have nd := (sc_law_row).nd
  exact (t_cons (t_ret (qJoin B.K m_str (qAdd B.K (m_lst (qC (qIx B.K B.u (qV 0) m_int) m_nil)) (m_weak (sComp B nd [("_law_one", 1)] (.nm 1) (i_seq B.K (m_sl B.K (qV 0) m_int True.intro)) (fun _ _ _ _ _ => (gNm _ nd)) (fun _ _ _ _ _ => pts_nil) (fun _ _ _ _ _ => x_e fun _ => (qCall C_law_word B.inn (qC (qV 1) m_nil) )))))))
    t_nil)
def F_law_row : Fn := defF false 2 B_law_row
theorem ok_law_row (D : FunD K "_law_row" "_law_row" (defArgs (top 22)) (defBody (top 22)) (defScope (top 22)) [] [] f fd) (at_ : mg "_law_row" = some (.ref f)) (Mg : Gm K mg) (C_law_word : FnC P w K mg base cls 64 "_law_word" 1 (F_law_word 64) []) : FnC P w K mg base cls 65 "_law_row" 1 F_law_row [] :=
  ⟨f, fd, ["_law_deed_here"], [], [], FnG.ofM (b := false) D sc_law_row (bd_law_row Mg C_law_word), at_, D.kp, D.bindsN fun _ _ _ _ _ _ us hl => match us, hl with | [_], _ => rfl, .nil, .nil⟩
/-! _law_lines -/
def N_law_lines : List Str := ["_law_plan_here", "_law_rows", "_law_box_here", "_law_one", "_law_deed_here"]
def B_law_lines : SemS := (sSeq (sSet 1 (eMk (eComp (.nm 2) (iSeq (eBin oIx (eVar 0) (eC (.int 0)))) none (eBin oAdd (eC (.str "cell ")) (eM1 oJoin (eC (.str " ")) (eComp (.nm 3) (iSeq (eVar 2)) none (eBl oStr (eCons (eVar 3) eNil)) [3] 1000000))) [2] 1000000)))
    (sSeq (sDrop (eApp (eVar 1) (eCons (eBin oAdd (eC (.str "told ")) (eIf (eTru (eBin oNe (eBin oIx (eVar 0) (eC (.int 2))) (eTup eNil))) (eM1 oJoin (eC (.str ",")) (eBl oList (eCons (eBin oIx (eVar 0) (eC (.int 2))) eNil))) (eC (.str "-")))) eNil)))
    (sSeq (sRet (eBin oAdd (eVar 1) (eComp (.nm 4) (iSeq (eBin oIx (eVar 0) (eC (.int 1)))) none (eCall (ar 1 F_law_row) [] (eCons (eVar 4) eNil)) [4] 1000000)))
    sNil)))
theorem sc_law_lines : FnScope N_law_lines ["_law_plan_here"] (defScope (top 23)) := ⟨rfl, rfl, rfl, by decide +kernel, rfl, by decide +kernel, by decide +kernel⟩
theorem bd_law_lines (Mg : Gm K mg) (C_law_row : FnC P w K mg base cls 65 "_law_row" 1 F_law_row []) (cdv : Value) (A : Around) (outer : List PySem.Env) (s : Shared) (H : Hp) (R : Addr → Prop) (E : XK) (room : Room 65 (A.deeper (envOfC "_law_lines" (defScope (top 23)) s.heap.objs.size f cdv))) (gd : A.guards = some []) :
    PSs (cxOf (L2.CX P w) P w K mg base N_law_lines "_law_lines" (defScope (top 23)) f cdv A outer s H E) (defBody (top 23)) (mT ⟨K, R, cls, E⟩ (B_law_lines)) := by
  have B : Bd (cxOf (L2.CX P w) P w K mg base N_law_lines "_law_lines" (defScope (top 23)) f cdv A outer s H E) ⟨K, R, cls, E⟩ 65 := ⟨rfl, room, gd, pass_def, rfl⟩
  have nd := (sc_law_lines).nd
  exact (t_cons (zSetCF 1 B nd [("_law_box_here", 2)] (.nm 2) (i_seq B.K (qIx B.K B.u (qV 0) m_int)) (fun _ _ _ _ _ => (gNm _ nd)) (fun _ _ _ _ _ => pts_nil) (fun _ _ _ _ _ => x_e fun _ => (qAdd B.inn.K m_str (qJoin B.inn.K m_str (m_weak (sComp B.inn nd [("_law_one", 3)] (.nm 3) (i_seq B.inn.K (qV 2)) (fun _ _ _ _ _ => (gNm _ nd)) (fun _ _ _ _ _ => pts_nil) (fun _ _ _ _ _ => x_e fun _ => (qStr Mg.str (qC (qV 3) m_nil)))))))))
    (t_cons (zDrop (qApp B.K (qV 1) (qC (qAdd B.K m_str (m_if (tNe B.K B.u (qIx B.K B.u (qV 0) m_int) (m_tup m_nil)) (qJoin B.K m_str (m_weak (sList B.K Mg.list (qC (qIx B.K B.u (qV 0) m_int) m_nil)))) m_str)) m_nil)))
    (t_cons (t_ret (qAdd B.K (qV 1) (m_weak (sComp B nd [("_law_deed_here", 4)] (.nm 4) (i_seq B.K (qIx B.K B.u (qV 0) m_int)) (fun _ _ _ _ _ => (gNm _ nd)) (fun _ _ _ _ _ => pts_nil) (fun _ _ _ _ _ => x_e fun _ => (qCall C_law_row B.inn (qC (qV 4) m_nil) ))))))
    t_nil)))
def F_law_lines : Fn := defF false 5 B_law_lines
theorem ok_law_lines (D : FunD K "_law_lines" "_law_lines" (defArgs (top 23)) (defBody (top 23)) (defScope (top 23)) [] [] f fd) (at_ : mg "_law_lines" = some (.ref f)) (Mg : Gm K mg) (C_law_row : FnC P w K mg base cls 65 "_law_row" 1 F_law_row []) : FnC P w K mg base cls 66 "_law_lines" 1 F_law_lines [] :=
  ⟨f, fd, ["_law_plan_here"], [], [], FnG.ofM (b := false) D sc_law_lines (bd_law_lines Mg C_law_row), at_, D.kp, D.bindsN fun _ _ _ _ _ _ us hl => match us, hl with | [_], _ => rfl, .nil, .nil⟩
/-! _law_wide -/
def N_law_wide : List Str := ["_law_deep", "_law_nots", "_law_k", "_law_boxes", "_law_deeds"]
def B_law_wide : SemS := (sSeq (sUnp [0, 1] (eTup (eCons (eC (.int 1)) (eCons (eTup (eCons (eC (.str "less")) (eCons (eC (.str "a")) (eCons (eC (.int 99)) eNil)))) eNil))))
    (sSeq (sFor (.nm 2) (iRg1 (eCons (eC (.int 24)) eNil)) (sSeq (sPar [0, 1] (eCons (eTup (eCons (eC (.str "plus")) (eCons (eVar 0) (eCons (eC (.str "g")) eNil)))) (eCons (eTup (eCons (eC (.str "not")) (eCons (eVar 1) eNil))) eNil)))
    sNil) 1000000)
    (sSeq (sSet 3 (eComp (.nm 2) (iRg1 (eCons (eC (.int 7)) eNil)) none (eTup (eCons (eBin oIx (eC (.str "abcdefg")) (eVar 2)) (eCons (eBin oIx (eLst (eCons (eC (.str "quick")) (eCons (eC (.str "saved")) (eCons (eC (.str "kept")) eNil)))) (eBin oMod (eBl oInt (eCons (eVar 2) eNil)) (eC (.int 3)))) (eCons (eBin oAdd (eC (.int 10)) (eVar 2)) (eCons (eC (.int 9)) eNil))))) [2] 1000000))
    (sSeq (sSet 4 (eBin oAdd (eComp (.nm 2) (iRg1 (eCons (eC (.int 11)) eNil)) none (eTup (eCons (eC (.str "mark")) (eCons (eBin oAdd (eC (.int 10)) (eVar 2)) eNil))) [2] 1000000) (eLst (eCons (eTup (eCons (eC (.str "set")) (eCons (eC (.str "g")) (eCons (eVar 0) (eCons (eC (.int 88)) eNil))))) (eCons (eTup (eCons (eC (.str "unless")) (eCons (eVar 1) (eCons (eC (.int 18)) (eCons (eC (.int 40)) eNil))))) eNil)))))
    (sSeq (sSet 4 (eBin oAdd (eBin oAdd (eBin oAdd (eVar 4) (eLst (eCons (eTup (eCons (eC (.str "jump")) (eCons (eC (.int 17)) (eCons (eC (.int 1)) eNil)))) eNil))) (eBin oMul (eLst (eCons (eTup (eCons (eC (.str "off")) (eCons (eC (.int 3)) eNil))) eNil)) (eC (.int 5)))) (eLst (eCons (eTup (eCons (eC (.str "ask")) (eCons (eC (.str "f")) (eCons (eC (.int 12)) eNil)))) (eCons (eTup (eCons (eC (.str "end")) eNil)) eNil)))))
    (sSeq (sRet (eTup (eCons (eBl oTuple (eCons (eVar 3) eNil)) (eCons (eBl oTuple (eCons (eVar 4) eNil)) (eCons (eTup (eCons (eC (.str "b")) (eCons (eC (.str "c")) (eCons (eC (.str "e")) (eCons (eC (.str "f")) eNil))))) eNil)))))
    sNil))))))
theorem sc_law_wide : FnScope N_law_wide [] (defScope (top 24)) := ⟨rfl, rfl, rfl, by decide +kernel, rfl, by decide +kernel, by decide +kernel⟩
theorem bd_law_wide (Mg : Gm K mg)  (cdv : Value) (A : Around) (outer : List PySem.Env) (s : Shared) (H : Hp) (R : Addr → Prop) (E : XK) (room : Room 0 (A.deeper (envOfC "_law_wide" (defScope (top 24)) s.heap.objs.size f cdv))) (gd : A.guards = some []) :
    PSs (cxOf (L2.CX P w) P w K mg base N_law_wide "_law_wide" (defScope (top 24)) f cdv A outer s H E) (defBody (top 24)) (mT ⟨K, R, cls, E⟩ (B_law_wide)) := by
  have B : Bd (cxOf (L2.CX P w) P w K mg base N_law_wide "_law_wide" (defScope (top 24)) f cdv A outer s H E) ⟨K, R, cls, E⟩ 0 := ⟨rfl, room, gd, pass_def, rfl⟩
  have nd := (sc_law_wide).nd
  exact (t_cons (zUnp B (m_tup (qC m_int (qC (m_tup (qC m_str (qC m_str (qC m_int m_nil)))) m_nil))) (gsCons (gNm _ nd) (gsCons (gNm _ nd) gsNil)))
    (t_cons (zFor B (.nm 2) (passes_of rfl) (iRange1 Mg.range (qC m_int m_nil)) (gNm _ nd) (t_cons (zPar2 B nd (qC (m_tup (qC m_str (qC (qV 0) (qC m_str m_nil)))) (qC (m_tup (qC m_str (qC (qV 1) m_nil))) m_nil)))
    t_nil))
    (t_cons (zSetC 3 B nd [("_law_k", 2)] (.nm 2) (iRange1 Mg.range (qC m_int m_nil)) (fun _ _ _ _ _ => (gNm _ nd)) (fun _ _ _ _ _ => pts_nil) (fun _ _ _ _ _ => x_e fun _ => (m_tup (qC (qIx B.inn.K B.u m_str (qV 2)) (qC (qIx B.inn.K B.u (m_lst (qC m_str (qC m_str (qC m_str m_nil)))) (qMod (qInt Mg.int (qC (qV 2) m_nil)) m_int)) (qC (qAdd B.inn.K m_int (qV 2)) (qC m_int m_nil)))))))
    (t_cons (zSet 4 nd (qAdd B.K (m_weak (sComp B nd [("_law_k", 2)] (.nm 2) (iRange1 Mg.range (qC m_int m_nil)) (fun _ _ _ _ _ => (gNm _ nd)) (fun _ _ _ _ _ => pts_nil) (fun _ _ _ _ _ => x_e fun _ => (m_tup (qC m_str (qC (qAdd B.inn.K m_int (qV 2)) m_nil)))))) (m_lst (qC (m_tup (qC m_str (qC m_str (qC (qV 0) (qC m_int m_nil))))) (qC (m_tup (qC m_str (qC (qV 1) (qC m_int (qC m_int m_nil))))) m_nil)))))
    (t_cons (zSet 4 nd (qAdd B.K (qAdd B.K (qAdd B.K (qV 4) (m_lst (qC (m_tup (qC m_str (qC m_int (qC m_int m_nil)))) m_nil))) (qMul B.K (m_lst (qC (m_tup (qC m_str (qC m_int m_nil))) m_nil)) m_int)) (m_lst (qC (m_tup (qC m_str (qC m_str (qC m_int m_nil)))) (qC (m_tup (qC m_str m_nil)) m_nil)))))
    (t_cons (t_ret (m_tup (qC (qTuple B.K Mg.tuple (qC (qV 3) m_nil)) (qC (qTuple B.K Mg.tuple (qC (qV 4) m_nil)) (qC (m_tup (qC m_str (qC m_str (qC m_str (qC m_str m_nil))))) m_nil)))))
    t_nil))))))
def F_law_wide : Fn := defF false 5 B_law_wide
theorem ok_law_wide (D : FunD K "_law_wide" "_law_wide" (defArgs (top 24)) (defBody (top 24)) (defScope (top 24)) [] [] f fd) (at_ : mg "_law_wide" = some (.ref f)) (Mg : Gm K mg)  : FnC P w K mg base cls 1 "_law_wide" 0 F_law_wide [] :=
  ⟨f, fd, [], [], [], FnG.ofM (b := false) D sc_law_wide (bd_law_wide Mg ), at_, D.kp, D.bindsN fun _ _ _ _ _ _ us hl => match us, hl with | [], _ => rfl, .nil, .nil⟩
/-! _law_loose -/
def N_law_loose : List Str := ["_law_feed_here", "_law_labels_here", "_law_boxes", "_law_k", "_law_deeds"]
def B_law_loose : SemS := (sSeq (sSet 1 (eCall (ar 2 F_law_labels) [] (eCons (eVar 0) (eCons (eC (.int 4)) eNil))))
    (sSeq (sSet 2 (eComp (.nm 3) (iRg1 (eCons (eCall (ar 2 F_law_draw) [] (eCons (eVar 0) (eCons (eC (.int 4)) eNil))) eNil)) none (eCall (ar 2 F_law_box) [] (eCons (eVar 0) (eCons (eCall (ar 2 F_law_pick) [] (eCons (eVar 0) (eCons (eVar 1) eNil))) eNil))) [3] 1000000))
    (sSeq (sSet 4 (eMk (eComp (.nm 3) (iRg1 (eCons (eBin oAdd (eC (.int 1)) (eCall (ar 2 F_law_draw) [] (eCons (eVar 0) (eCons (eC (.int 5)) eNil)))) eNil)) none (eCall (ar 3 F_law_deed) [] (eCons (eVar 0) (eCons (eVar 1) (eCons (eBin oPow (eC (.int 10)) (eC (.int 4))) eNil)))) [3] 1000000)))
    (sSeq (sIf (eTru (eBin oEq (eCall (ar 2 F_law_draw) [] (eCons (eVar 0) (eCons (eC (.int 2)) eNil))) (eC (.int 0)))) (sSeq (sDrop (eApp (eVar 4) (eCons (eTup (eCons (eC (.str "jump")) (eCons (eBin oSub (eBin oPow (eC (.int 10)) (eC (.int 60))) (eC (.int 1))) (eCons (eBin oPow (eC (.int 10)) (eC (.int 59))) eNil)))) eNil)))
    sNil) sNil)
    (sSeq (sRet (eTup (eCons (eBl oTuple (eCons (eVar 2) eNil)) (eCons (eBl oTuple (eCons (eVar 4) eNil)) (eCons (eCall (ar 2 F_law_some) [] (eCons (eVar 0) (eCons (eBl oSorted (eCons (eVar 1) eNil)) eNil))) eNil)))))
    sNil)))))
theorem sc_law_loose : FnScope N_law_loose ["_law_feed_here"] (defScope (top 25)) := ⟨rfl, rfl, rfl, by decide +kernel, rfl, by decide +kernel, by decide +kernel⟩
theorem bd_law_loose (Mg : Gm K mg) (C_law_some : FnC P w K mg base cls 3 "_law_some" 2 F_law_some []) (C_law_draw : FnC P w K mg base cls 2 "_law_draw" 2 F_law_draw []) (C_law_deed : FnC P w K mg base cls 36 "_law_deed" 3 F_law_deed []) (C_law_box : FnC P w K mg base cls 4 "_law_box" 2 F_law_box []) (C_law_pick : FnC P w K mg base cls 3 "_law_pick" 2 F_law_pick []) (C_law_labels : FnC P w K mg base cls 4 "_law_labels" 2 F_law_labels []) (cdv : Value) (A : Around) (outer : List PySem.Env) (s : Shared) (H : Hp) (R : Addr → Prop) (E : XK) (room : Room 36 (A.deeper (envOfC "_law_loose" (defScope (top 25)) s.heap.objs.size f cdv))) (gd : A.guards = some []) :
    PSs (cxOf (L2.CX P w) P w K mg base N_law_loose "_law_loose" (defScope (top 25)) f cdv A outer s H E) (defBody (top 25)) (mT ⟨K, R, cls, E⟩ (B_law_loose)) := by
  have B : Bd (cxOf (L2.CX P w) P w K mg base N_law_loose "_law_loose" (defScope (top 25)) f cdv A outer s H E) ⟨K, R, cls, E⟩ 36 := ⟨rfl, room, gd, pass_def, rfl⟩
  have nd := (sc_law_loose).nd
  exact (t_cons (zSet 1 nd (qCall C_law_labels B (qC (qV 0) (qC m_int m_nil)) ))
    (t_cons (zSetC 2 B nd [("_law_k", 3)] (.nm 3) (iRange1 Mg.range (qC (qCall C_law_draw B (qC (qV 0) (qC m_int m_nil)) ) m_nil)) (fun _ _ _ _ _ => (gNm _ nd)) (fun _ _ _ _ _ => pts_nil) (fun _ _ _ _ _ => x_e fun _ => (qCall C_law_box B.inn (qC (qV 0) (qC (qCall C_law_pick B.inn (qC (qV 0) (qC (qV 1) m_nil)) ) m_nil)) )))
    (t_cons (zSetCF 4 B nd [("_law_k", 3)] (.nm 3) (iRange1 Mg.range (qC (qAdd B.K m_int (qCall C_law_draw B (qC (qV 0) (qC m_int m_nil)) )) m_nil)) (fun _ _ _ _ _ => (gNm _ nd)) (fun _ _ _ _ _ => pts_nil) (fun _ _ _ _ _ => x_e fun _ => (qCall C_law_deed B.inn (qC (qV 0) (qC (qV 1) (qC (qPow m_int m_int) m_nil))) )))
    (t_cons (t_if (tEq B.K B.u (qCall C_law_draw B (qC (qV 0) (qC m_int m_nil)) ) m_int) (t_cons (zDrop (qApp B.K (qV 4) (qC (m_tup (qC m_str (qC (qSub (qPow m_int m_int) m_int) (qC (qPow m_int m_int) m_nil)))) m_nil)))
    t_nil) t_nil)
    (t_cons (t_ret (m_tup (qC (qTuple B.K Mg.tuple (qC (qV 2) m_nil)) (qC (qTuple B.K Mg.tuple (qC (qV 4) m_nil)) (qC (qCall C_law_some B (qC (qV 0) (qC (qSorted B.K Mg.sorted (qC (qV 1) m_nil)) m_nil)) ) m_nil)))))
    t_nil)))))
def F_law_loose : Fn := defF false 5 B_law_loose
theorem ok_law_loose (D : FunD K "_law_loose" "_law_loose" (defArgs (top 25)) (defBody (top 25)) (defScope (top 25)) [] [] f fd) (at_ : mg "_law_loose" = some (.ref f)) (Mg : Gm K mg) (C_law_some : FnC P w K mg base cls 3 "_law_some" 2 F_law_some []) (C_law_draw : FnC P w K mg base cls 2 "_law_draw" 2 F_law_draw []) (C_law_deed : FnC P w K mg base cls 36 "_law_deed" 3 F_law_deed []) (C_law_box : FnC P w K mg base cls 4 "_law_box" 2 F_law_box []) (C_law_pick : FnC P w K mg base cls 3 "_law_pick" 2 F_law_pick []) (C_law_labels : FnC P w K mg base cls 4 "_law_labels" 2 F_law_labels []) : FnC P w K mg base cls 37 "_law_loose" 1 F_law_loose [] :=
  ⟨f, fd, ["_law_feed_here"], [], [], FnG.ofM (b := false) D sc_law_loose (bd_law_loose Mg C_law_some C_law_draw C_law_deed C_law_box C_law_pick C_law_labels), at_, D.kp, D.bindsN fun _ _ _ _ _ _ us hl => match us, hl with | [_], _ => rfl, .nil, .nil⟩
/-! _law_written_right -/
def N_law_written_right : List Str := ["_law_plan_here", "_law_deed_here"]
def B_law_written_right : SemS := (sSeq (sIf (eTru (eBin oNe (eBl oRepr (eCons (eCall (ar 1 F_program_text) [] (eCons (eVar 0) eNil)) eNil)) (eBl oRepr (eCons (eM1 oJoin (eC (.str "\n")) (eCall (ar 1 F_law_lines) [] (eCons (eVar 0) eNil))) eNil)))) (sSeq (sRet (eC (.bl false)))
    sNil) sNil)
    (sSeq (sFor (.nm 1) (iSeq (eBin oIx (eVar 0) (eC (.int 1)))) (sSeq (sIf (eTru (eBin oNe (eBl oRepr (eCons (eCall (ar 1 F_instruction_text) [] (eCons (eVar 1) eNil)) eNil)) (eBl oRepr (eCons (eCall (ar 1 F_law_row) [] (eCons (eVar 1) eNil)) eNil)))) (sSeq (sRet (eC (.bl false)))
    sNil) sNil)
    sNil) 1000000)
    (sSeq (sRet (eC (.bl true)))
    sNil)))
theorem sc_law_written_right : FnScope N_law_written_right ["_law_plan_here"] (defScope (top 26)) := ⟨rfl, rfl, rfl, by decide +kernel, rfl, by decide +kernel, by decide +kernel⟩
theorem bd_law_written_right (Mg : Gm K mg) (C_instruction_text : FnC P w K mg base cls 67 "instruction_text" 1 F_instruction_text []) (C_law_row : FnC P w K mg base cls 65 "_law_row" 1 F_law_row []) (C_program_text : FnC P w K mg base cls 68 "program_text" 1 F_program_text []) (C_law_lines : FnC P w K mg base cls 66 "_law_lines" 1 F_law_lines []) (cdv : Value) (A : Around) (outer : List PySem.Env) (s : Shared) (H : Hp) (R : Addr → Prop) (E : XK) (room : Room 68 (A.deeper (envOfC "_law_written_right" (defScope (top 26)) s.heap.objs.size f cdv))) (gd : A.guards = some []) :
    PSs (cxOf (L2.CX P w) P w K mg base N_law_written_right "_law_written_right" (defScope (top 26)) f cdv A outer s H E) (defBody (top 26)) (mT ⟨K, R, cls, E⟩ (B_law_written_right)) := by
  have B : Bd (cxOf (L2.CX P w) P w K mg base N_law_written_right "_law_written_right" (defScope (top 26)) f cdv A outer s H E) ⟨K, R, cls, E⟩ 68 := ⟨rfl, room, gd, pass_def, rfl⟩
  have nd := (sc_law_written_right).nd
  exact (t_cons (t_if (tNe B.K B.u (qRepr B.K B.gd B.u66 Mg.repr (qC (qCall C_program_text B (qC (qV 0) m_nil) ) m_nil)) (qRepr B.K B.gd B.u66 Mg.repr (qC (qJoin B.K m_str (qCall C_law_lines B (qC (qV 0) m_nil) )) m_nil))) (t_cons (t_ret m_bl)
    t_nil) t_nil)
    (t_cons (zFor B (.nm 1) (passes_of rfl) (i_seq B.K (qIx B.K B.u (qV 0) m_int)) (gNm _ nd) (t_cons (t_if (tNe B.K B.u (qRepr B.K B.gd B.u66 Mg.repr (qC (qCall C_instruction_text B (qC (qV 1) m_nil) ) m_nil)) (qRepr B.K B.gd B.u66 Mg.repr (qC (qCall C_law_row B (qC (qV 1) m_nil) ) m_nil))) (t_cons (t_ret m_bl)
    t_nil) t_nil)
    t_nil))
    (t_cons (t_ret m_bl)
    t_nil)))
def F_law_written_right : Fn := defF false 2 B_law_written_right
theorem ok_law_written_right (D : FunD K "_law_written_right" "_law_written_right" (defArgs (top 26)) (defBody (top 26)) (defScope (top 26)) [] [] f fd) (at_ : mg "_law_written_right" = some (.ref f)) (Mg : Gm K mg) (C_instruction_text : FnC P w K mg base cls 67 "instruction_text" 1 F_instruction_text []) (C_law_row : FnC P w K mg base cls 65 "_law_row" 1 F_law_row []) (C_program_text : FnC P w K mg base cls 68 "program_text" 1 F_program_text []) (C_law_lines : FnC P w K mg base cls 66 "_law_lines" 1 F_law_lines []) : FnC P w K mg base cls 69 "_law_written_right" 1 F_law_written_right [] :=
  ⟨f, fd, ["_law_plan_here"], [], [], FnG.ofM (b := false) D sc_law_written_right (bd_law_written_right Mg C_instruction_text C_law_row C_program_text C_law_lines), at_, D.kp, D.bindsN fun _ _ _ _ _ _ us hl => match us, hl with | [_], _ => rfl, .nil, .nil⟩
/-! law -/
def N_law : List Str := ["_law_script", "_law_feed_here", "_law_turn", "_law_plan_here", "_law_loose_here", "_law_kept", "_law_labels_here", "_law_matter", "_law_deep", "_law_k", "_law_told"]
def B_law : SemS := (sSeq (sSet 1 (eCall (ar 1 F_law_feed) [] (eCons (eVar 0) eNil)))
    (sSeq (sIf (bNot (eTru (eCall (ar 1 F_law_written_right) [] (eCons (eCall (ar 0 F_law_wide) [] eNil) eNil)))) (sSeq (sRet (eC (.bl false)))
    sNil) sNil)
    (sSeq (sFor (.nm 2) (iRg1 (eCons (eC (.int 3)) eNil)) (sSeq (sPar [3, 4] (eCons (eCall (ar 1 F_law_plan) [] (eCons (eVar 1) eNil)) (eCons (eCall (ar 1 F_law_loose) [] (eCons (eVar 1) eNil)) eNil)))
    (sSeq (sSet 5 (eBl oRepr (eCons (eLst (eCons (eVar 3) (eCons (eVar 4) eNil))) eNil)))
    (sSeq (sIf (bOr (bNot (eTru (eCall (ar 1 F_law_written_right) [] (eCons (eVar 3) eNil)))) (bOr (bNot (eTru (eCall (ar 1 F_law_written_right) [] (eCons (eVar 4) eNil)))) (eTru (eBin oNe (eBl oRepr (eCons (eLst (eCons (eVar 3) (eCons (eVar 4) eNil))) eNil)) (eVar 5))))) (sSeq (sRet (eC (.bl false)))
    sNil) sNil)
    (sSeq (sSet 6 (eCall (ar 1 F_law_labels_of) [] (eCons (eVar 3) eNil)))
    (sSeq (sFor (.nm 7) (iSeq (eTup (eCons (eCall (ar 3 (F_law_sum 16)) [] (eCons (eVar 1) (eCons (eVar 6) (eCons (eC (.int 5)) eNil)))) (eCons (eCall (ar 3 (F_law_question 16)) [] (eCons (eVar 1) (eCons (eVar 6) (eCons (eC (.int 5)) eNil)))) (eCons (eCall (ar 3 (F_law_sum 16)) [] (eCons (eVar 1) (eCons (eLst (eCons (eC (.str "not")) (eCons (eC (.str "plus")) eNil))) (eCons (eC (.int 2)) eNil)))) eNil))))) (sSeq (sIf (eTru (eBin oNe (eBl oRepr (eCons (eCall (ar 1 (F_expression_text 64)) [] (eCons (eVar 7) eNil)) eNil)) (eBl oRepr (eCons (eCall (ar 1 (F_law_word 64)) [] (eCons (eVar 7) eNil)) eNil)))) (sSeq (sRet (eC (.bl false)))
    sNil) sNil)
    sNil) 1000000)
    sNil))))) 1000000)
    (sSeq (sSet 8 (eBin oPow (eC (.int 10)) (eC (.int 59))))
    (sSeq (sFor (.nm 9) (iRg1 (eCons (eC (.int 28)) eNil)) (sSeq (sSet 8 (eIf (eTru (eBin oEq (eBin oMod (eBl oInt (eCons (eVar 9) eNil)) (eC (.int 2))) (eC (.int 0)))) (eTup (eCons (eC (.str "minus")) (eCons (eC (.str "a")) (eCons (eVar 8) eNil)))) (eTup (eCons (eC (.str "times")) (eCons (eVar 8) (eCons (eC (.int 0)) eNil))))))
    sNil) 1000000)
    (sSeq (sIf (eTru (eBin oNe (eCall (ar 1 (F_expression_text 64)) [] (eCons (eVar 8) eNil)) (eCall (ar 1 (F_law_word 64)) [] (eCons (eVar 8) eNil)))) (sSeq (sRet (eC (.bl false)))
    sNil) sNil)
    (sSeq (sSet 10 (eLst (eCons (eCall (ar 1 F_program_text) [] (eCons (eTup (eCons (eTup eNil) (eCons (eTup (eCons (eTup (eCons (eC (.str "end")) eNil)) eNil)) (eCons (eTup eNil) eNil)))) eNil)) (eCons (eCall (ar 1 (F_expression_text 64)) [] (eCons (eTup (eCons (eC (.str "not")) (eCons (eTup (eCons (eC (.str "less")) (eCons (eC (.int 0)) (eCons (eC (.str "a")) eNil)))) eNil))) eNil)) eNil))))
    (sSeq (sSet 10 (eBin oAdd (eVar 10) (eLst (eCons (eCall (ar 1 F_instruction_text) [] (eCons (eTup (eCons (eC (.str "end")) eNil)) eNil)) eNil))))
    (sSeq (sRet (eBin oEq (eVar 10) (eLst (eCons (eC (.str "told -\nend")) (eCons (eC (.str "not(less(0,a))")) (eCons (eC (.str "end")) eNil))))))
    sNil)))))))))
theorem sc_law : FnScope N_law ["_law_script"] (defScope (top 27)) := ⟨rfl, rfl, rfl, by decide +kernel, rfl, by decide +kernel, by decide +kernel⟩
theorem bd_law (Mg : Gm K mg) (C_instruction_text : FnC P w K mg base cls 67 "instruction_text" 1 F_instruction_text []) (C_expression_text : FnC P w K mg base cls 65 "expression_text" 1 (F_expression_text 64) []) (C_program_text : FnC P w K mg base cls 68 "program_text" 1 F_program_text []) (C_law_word : FnC P w K mg base cls 64 "_law_word" 1 (F_law_word 64) []) (C_law_sum : FnC P w K mg base cls 19 "_law_sum" 3 (F_law_sum 16) []) (C_law_question : FnC P w K mg base cls 35 "_law_question" 3 (F_law_question 16) []) (C_law_labels_of : FnC P w K mg base cls 1 "_law_labels_of" 1 F_law_labels_of []) (C_law_written_right : FnC P w K mg base cls 69 "_law_written_right" 1 F_law_written_right []) (C_law_plan : FnC P w K mg base cls 37 "_law_plan" 1 F_law_plan []) (C_law_loose : FnC P w K mg base cls 37 "_law_loose" 1 F_law_loose []) (C_law_wide : FnC P w K mg base cls 1 "_law_wide" 0 F_law_wide []) (C_law_feed : FnC P w K mg base cls 2 "_law_feed" 1 F_law_feed []) (cdv : Value) (A : Around) (outer : List PySem.Env) (s : Shared) (H : Hp) (R : Addr → Prop) (E : XK) (room : Room 69 (A.deeper (envOfC "law" (defScope (top 27)) s.heap.objs.size f cdv))) (gd : A.guards = some []) :
    PSs (cxOf (L2.CX P w) P w K mg base N_law "law" (defScope (top 27)) f cdv A outer s H E) (defBody (top 27)) (mT ⟨K, R, cls, E⟩ (B_law)) := by
  have B : Bd (cxOf (L2.CX P w) P w K mg base N_law "law" (defScope (top 27)) f cdv A outer s H E) ⟨K, R, cls, E⟩ 69 := ⟨rfl, room, gd, pass_def, rfl⟩
  have nd := (sc_law).nd
  exact (t_cons (zSet 1 nd (qCall C_law_feed B (qC (qV 0) m_nil) ))
    (t_cons (t_if (b_not (tV B.K (qCall C_law_written_right B (qC (qCall0 C_law_wide B ) m_nil) ))) (t_cons (t_ret m_bl)
    t_nil) t_nil)
    (t_cons (zFor B (.nm 2) (passes_of rfl) (iRange1 Mg.range (qC m_int m_nil)) (gNm _ nd) (t_cons (zPar2 B nd (qC (qCall C_law_plan B (qC (qV 1) m_nil) ) (qC (qCall C_law_loose B (qC (qV 1) m_nil) ) m_nil)))
    (t_cons (zSet 5 nd (qRepr B.K B.gd B.u66 Mg.repr (qC (m_lst (qC (qV 3) (qC (qV 4) m_nil))) m_nil)))
    (t_cons (t_if (PW.pt (b_or (b_not (tV B.K (qCall C_law_written_right B (qC (qV 3) m_nil) ))) (b_or (b_not (tV B.K (qCall C_law_written_right B (qC (qV 4) m_nil) ))) (pw_or1 (tNe B.K B.u (qRepr B.K B.gd B.u66 Mg.repr (qC (m_lst (qC (qV 3) (qC (qV 4) m_nil))) m_nil)) (qV 5)))))) (t_cons (t_ret m_bl)
    t_nil) t_nil)
    (t_cons (zSet 6 nd (qCall C_law_labels_of B (qC (qV 3) m_nil) ))
    (t_cons (zFor B (.nm 7) (passes_of rfl) (i_seq B.K (m_tup (qC (qCall C_law_sum B (qC (qV 1) (qC (qV 6) (qC m_int m_nil))) ) (qC (qCall C_law_question B (qC (qV 1) (qC (qV 6) (qC m_int m_nil))) ) (qC (qCall C_law_sum B (qC (qV 1) (qC (m_lst (qC m_str (qC m_str m_nil))) (qC m_int m_nil))) ) m_nil))))) (gNm _ nd) (t_cons (t_if (tNe B.K B.u (qRepr B.K B.gd B.u66 Mg.repr (qC (qCall C_expression_text B (qC (qV 7) m_nil) ) m_nil)) (qRepr B.K B.gd B.u66 Mg.repr (qC (qCall C_law_word B (qC (qV 7) m_nil) ) m_nil))) (t_cons (t_ret m_bl)
    t_nil) t_nil)
    t_nil))
    t_nil))))))
    (t_cons (zSet 8 nd (qPow m_int m_int))
    (t_cons (zFor B (.nm 9) (passes_of rfl) (iRange1 Mg.range (qC m_int m_nil)) (gNm _ nd) (t_cons (zSet 8 nd (m_if (tEq B.K B.u (qMod (qInt Mg.int (qC (qV 9) m_nil)) m_int) m_int) (m_tup (qC m_str (qC m_str (qC (qV 8) m_nil)))) (m_tup (qC m_str (qC (qV 8) (qC m_int m_nil))))))
    t_nil))
    (t_cons (t_if (tNe B.K B.u (qCall C_expression_text B (qC (qV 8) m_nil) ) (qCall C_law_word B (qC (qV 8) m_nil) )) (t_cons (t_ret m_bl)
    t_nil) t_nil)
    (t_cons (zSet 10 nd (m_lst (qC (qCall C_program_text B (qC (m_tup (qC (m_tup m_nil) (qC (m_tup (qC (m_tup (qC m_str m_nil)) m_nil)) (qC (m_tup m_nil) m_nil)))) m_nil) ) (qC (qCall C_expression_text B (qC (m_tup (qC m_str (qC (m_tup (qC m_str (qC m_int (qC m_str m_nil)))) m_nil))) m_nil) ) m_nil))))
    (t_cons (zSet 10 nd (qAdd B.K (qV 10) (m_lst (qC (qCall C_instruction_text B (qC (m_tup (qC m_str m_nil)) m_nil) ) m_nil))))
    (t_cons (t_ret (qEq B.K B.u (qV 10) (m_lst (qC m_str (qC m_str (qC m_str m_nil))))))
    t_nil)))))))))
def F_law : Fn := defF false 11 B_law
theorem ok_law (D : FunD K "law" "law" (defArgs (top 27)) (defBody (top 27)) (defScope (top 27)) [] [] f fd) (at_ : mg "law" = some (.ref f)) (Mg : Gm K mg) (C_instruction_text : FnC P w K mg base cls 67 "instruction_text" 1 F_instruction_text []) (C_expression_text : FnC P w K mg base cls 65 "expression_text" 1 (F_expression_text 64) []) (C_program_text : FnC P w K mg base cls 68 "program_text" 1 F_program_text []) (C_law_word : FnC P w K mg base cls 64 "_law_word" 1 (F_law_word 64) []) (C_law_sum : FnC P w K mg base cls 19 "_law_sum" 3 (F_law_sum 16) []) (C_law_question : FnC P w K mg base cls 35 "_law_question" 3 (F_law_question 16) []) (C_law_labels_of : FnC P w K mg base cls 1 "_law_labels_of" 1 F_law_labels_of []) (C_law_written_right : FnC P w K mg base cls 69 "_law_written_right" 1 F_law_written_right []) (C_law_plan : FnC P w K mg base cls 37 "_law_plan" 1 F_law_plan []) (C_law_loose : FnC P w K mg base cls 37 "_law_loose" 1 F_law_loose []) (C_law_wide : FnC P w K mg base cls 1 "_law_wide" 0 F_law_wide []) (C_law_feed : FnC P w K mg base cls 2 "_law_feed" 1 F_law_feed []) : FnC P w K mg base cls 70 "law" 1 F_law [] :=
  ⟨f, fd, ["_law_script"], [], [], FnG.ofM (b := false) D sc_law (bd_law Mg C_instruction_text C_expression_text C_program_text C_law_word C_law_sum C_law_question C_law_labels_of C_law_written_right C_law_plan C_law_loose C_law_wide C_law_feed), at_, D.kp, D.bindsN fun _ _ _ _ _ _ us hl => match us, hl with | [_], _ => rfl, .nil, .nil⟩
/-! ### the head: facts by names, then the run -/
def dfn (x : String) (i : Nat) : He.DefD := ⟨(x, Option.none), x, x, defArgs (top i), defBody (top i), defScope (top i), [], []⟩
def fns : List He.DefD := [dfn "number_text" 3, dfn "expression_text" 4, dfn "words_text" 6, dfn "instruction_text" 5, dfn "program_text" 7, dfn "_law_mixed" 9, dfn "_law_feed" 10, dfn "_law_draw" 11, dfn "_law_pick" 12, dfn "_law_labels" 13, dfn "_law_sum" 14, dfn "_law_question" 15, dfn "_law_deed" 16, dfn "_law_box" 17, dfn "_law_plan" 18, dfn "_law_labels_of" 19, dfn "_law_some" 20, dfn "_law_word" 21, dfn "_law_row" 22, dfn "_law_lines" 23, dfn "_law_wide" 24, dfn "_law_loose" 25, dfn "_law_written_right" 26, dfn "law" 27]
def fas0 : List He.Fa := [.glo "number_text", .glo "expression_text", .glo "words_text", .glo "instruction_text", .glo "program_text", .glo "_law_mixed", .glo "_law_feed", .glo "_law_draw", .glo "_law_pick", .glo "_law_labels", .glo "_law_sum", .glo "_law_question", .glo "_law_deed", .glo "_law_box", .glo "_law_plan", .glo "_law_labels_of", .glo "_law_some", .glo "_law_word", .glo "_law_row", .glo "_law_lines", .glo "_law_wide", .glo "_law_loose", .glo "_law_written_right", .glo "law", .free "abs", .free "all", .free "bool", .free "dict", .free "enumerate", .free "int"]
def fas1 : List He.Fa := [.free "isinstance", .free "len", .free "list", .free "max", .free "min", .free "range", .free "repr", .free "set", .free "sorted", .free "str", .free "sum", .free "tuple", .free "zip", .int "BLOCK_DIGITS" 60, .int "BLOCK" 1000000000000000000000000000000000000000000000000000000000000]
def fas : List He.Fa := fas0 ++ fas1
def loose0 : List PySem.Str := ["BLOCK_DIGITS", "BLOCK", "number_text", "expression_text", "instruction_text", "words_text", "program_text", "_law_mixed", "_law_feed", "_law_draw", "_law_pick", "_law_labels", "_law_sum", "_law_question", "_law_deed", "_law_box", "_law_plan", "_law_labels_of", "_law_some", "_law_word", "_law_row", "_law_lines", "_law_wide", "_law_loose", "_law_written_right"]
def loose : List PySem.Str := loose0
abbrev theRow : PySem.W.OpenRow := PySem.Challenge.rw_enoughcharge_k06_texts_written.row
def tbs : Tb := []
abbrev theHook : PySem.W.Hook := hookT 4 fas fns tbs
abbrev theView : Program := PySem.W.view theRow.prog [27]
def seen (t : PySem.W.SharedT) : He.AlD × Bool := (He.obsDG 4 fas fns (HandSHeadRun.getT t), tabB tbs (He.frG (HandSHeadRun.getT t) (He.asD (HandSHeadRun.getT t) 4)))
theorem seen_eq (t : PySem.W.SharedT) : seen t = theHook.obs t.abs := by
  have e : HandSHeadRun.getT t = t.abs.heap.get? := funext (HandSHeadRun.getT_eq t)
  unfold seen
  rw [e]
  rfl
theorem goes (w : World) : HandSHeadRun.RunEq theRow theView theHook seen 4000 loose w := fun os => by kernel_rfl
theorem get (w : World) (mg : Str → Option Value) (fa : Addr) (h : Heap) (Y : theHook.says w h) (G : h.Ns mainGlobals mg) (hfa : mg ("law" : Str) = some (.ref fa)) : ∃ (K : PySem.W.Frag) (fd : FuncData) (cls : Str → Option Addr), K.In h ∧
    (∀ (s : Shared) (u : Value), BindsTo s fd ⟨[u], []⟩ [("_law_script", u)]) ∧ ∀ base : Heap, K.In base → base.Ns mainGlobals mg → FnG PySem.Challenge.pw_enoughcharge_k06_texts_written w K mg base (L2.CX PySem.Challenge.pw_enoughcharge_k06_texts_written w) 70 fa fd ["_law_script"] (spM K cls 1 F_law) := by
  obtain ⟨K, inK, c, tb⟩ := Y
  have g_number_text := He.glo_ok inK G (c.fact 0 (f := .glo "number_text") rfl)
  have g_expression_text := He.glo_ok inK G (c.fact 1 (f := .glo "expression_text") rfl)
  have g_words_text := He.glo_ok inK G (c.fact 2 (f := .glo "words_text") rfl)
  have g_instruction_text := He.glo_ok inK G (c.fact 3 (f := .glo "instruction_text") rfl)
  have g_program_text := He.glo_ok inK G (c.fact 4 (f := .glo "program_text") rfl)
  have g_law_mixed := He.glo_ok inK G (c.fact 5 (f := .glo "_law_mixed") rfl)
  have g_law_feed := He.glo_ok inK G (c.fact 6 (f := .glo "_law_feed") rfl)
  have g_law_draw := He.glo_ok inK G (c.fact 7 (f := .glo "_law_draw") rfl)
  have g_law_pick := He.glo_ok inK G (c.fact 8 (f := .glo "_law_pick") rfl)
  have g_law_labels := He.glo_ok inK G (c.fact 9 (f := .glo "_law_labels") rfl)
  have g_law_sum := He.glo_ok inK G (c.fact 10 (f := .glo "_law_sum") rfl)
  have g_law_question := He.glo_ok inK G (c.fact 11 (f := .glo "_law_question") rfl)
  have g_law_deed := He.glo_ok inK G (c.fact 12 (f := .glo "_law_deed") rfl)
  have g_law_box := He.glo_ok inK G (c.fact 13 (f := .glo "_law_box") rfl)
  have g_law_plan := He.glo_ok inK G (c.fact 14 (f := .glo "_law_plan") rfl)
  have g_law_labels_of := He.glo_ok inK G (c.fact 15 (f := .glo "_law_labels_of") rfl)
  have g_law_some := He.glo_ok inK G (c.fact 16 (f := .glo "_law_some") rfl)
  have g_law_word := He.glo_ok inK G (c.fact 17 (f := .glo "_law_word") rfl)
  have g_law_row := He.glo_ok inK G (c.fact 18 (f := .glo "_law_row") rfl)
  have g_law_lines := He.glo_ok inK G (c.fact 19 (f := .glo "_law_lines") rfl)
  have g_law_wide := He.glo_ok inK G (c.fact 20 (f := .glo "_law_wide") rfl)
  have g_law_loose := He.glo_ok inK G (c.fact 21 (f := .glo "_law_loose") rfl)
  have g_law_written_right := He.glo_ok inK G (c.fact 22 (f := .glo "_law_written_right") rfl)
  have g_law := He.glo_ok inK G (c.fact 23 (f := .glo "law") rfl)
  have Mg : Gm K mg := ⟨He.free_ok inK G (c.fact 24 (f := .free "abs") rfl), He.free_ok inK G (c.fact 25 (f := .free "all") rfl), He.free_ok inK G (c.fact 26 (f := .free "bool") rfl), He.free_ok inK G (c.fact 27 (f := .free "dict") rfl), He.free_ok inK G (c.fact 28 (f := .free "enumerate") rfl), He.free_ok inK G (c.fact 29 (f := .free "int") rfl), He.free_ok inK G (c.fact 30 (f := .free "isinstance") rfl), He.free_ok inK G (c.fact 31 (f := .free "len") rfl), He.free_ok inK G (c.fact 32 (f := .free "list") rfl), He.free_ok inK G (c.fact 33 (f := .free "max") rfl), He.free_ok inK G (c.fact 34 (f := .free "min") rfl), He.free_ok inK G (c.fact 35 (f := .free "range") rfl), He.free_ok inK G (c.fact 36 (f := .free "repr") rfl), He.free_ok inK G (c.fact 37 (f := .free "set") rfl), He.free_ok inK G (c.fact 38 (f := .free "sorted") rfl), He.free_ok inK G (c.fact 39 (f := .free "str") rfl), He.free_ok inK G (c.fact 40 (f := .free "sum") rfl), He.free_ok inK G (c.fact 41 (f := .free "tuple") rfl), He.free_ok inK G (c.fact 42 (f := .free "zip") rfl), He.int_ok inK G (c.fact 43 rfl), He.int_ok inK G (c.fact 44 rfl)⟩
  obtain ⟨fd_number_text, D_number_text⟩ := c.def_ 0 (d := dfn "number_text" 3) rfl
  obtain ⟨fd_expression_text, D_expression_text⟩ := c.def_ 1 (d := dfn "expression_text" 4) rfl
  obtain ⟨fd_words_text, D_words_text⟩ := c.def_ 2 (d := dfn "words_text" 6) rfl
  obtain ⟨fd_instruction_text, D_instruction_text⟩ := c.def_ 3 (d := dfn "instruction_text" 5) rfl
  obtain ⟨fd_program_text, D_program_text⟩ := c.def_ 4 (d := dfn "program_text" 7) rfl
  obtain ⟨fd_law_mixed, D_law_mixed⟩ := c.def_ 5 (d := dfn "_law_mixed" 9) rfl
  obtain ⟨fd_law_feed, D_law_feed⟩ := c.def_ 6 (d := dfn "_law_feed" 10) rfl
  obtain ⟨fd_law_draw, D_law_draw⟩ := c.def_ 7 (d := dfn "_law_draw" 11) rfl
  obtain ⟨fd_law_pick, D_law_pick⟩ := c.def_ 8 (d := dfn "_law_pick" 12) rfl
  obtain ⟨fd_law_labels, D_law_labels⟩ := c.def_ 9 (d := dfn "_law_labels" 13) rfl
  obtain ⟨fd_law_sum, D_law_sum⟩ := c.def_ 10 (d := dfn "_law_sum" 14) rfl
  obtain ⟨fd_law_question, D_law_question⟩ := c.def_ 11 (d := dfn "_law_question" 15) rfl
  obtain ⟨fd_law_deed, D_law_deed⟩ := c.def_ 12 (d := dfn "_law_deed" 16) rfl
  obtain ⟨fd_law_box, D_law_box⟩ := c.def_ 13 (d := dfn "_law_box" 17) rfl
  obtain ⟨fd_law_plan, D_law_plan⟩ := c.def_ 14 (d := dfn "_law_plan" 18) rfl
  obtain ⟨fd_law_labels_of, D_law_labels_of⟩ := c.def_ 15 (d := dfn "_law_labels_of" 19) rfl
  obtain ⟨fd_law_some, D_law_some⟩ := c.def_ 16 (d := dfn "_law_some" 20) rfl
  obtain ⟨fd_law_word, D_law_word⟩ := c.def_ 17 (d := dfn "_law_word" 21) rfl
  obtain ⟨fd_law_row, D_law_row⟩ := c.def_ 18 (d := dfn "_law_row" 22) rfl
  obtain ⟨fd_law_lines, D_law_lines⟩ := c.def_ 19 (d := dfn "_law_lines" 23) rfl
  obtain ⟨fd_law_wide, D_law_wide⟩ := c.def_ 20 (d := dfn "_law_wide" 24) rfl
  obtain ⟨fd_law_loose, D_law_loose⟩ := c.def_ 21 (d := dfn "_law_loose" 25) rfl
  obtain ⟨fd_law_written_right, D_law_written_right⟩ := c.def_ 22 (d := dfn "_law_written_right" 26) rfl
  obtain ⟨fd_law, D_law⟩ := c.def_ 23 (d := dfn "law" 27) rfl
  cases hfa.symm.trans g_law
  have bi := FunD.bindsA (ps := ["_law_script"]) D_law fun _ _ _ _ _ _ us hl => match us, hl with | [_], _ => rfl
  refine ⟨K, fd_law, fun _ => Option.none, inK, fun s v => bi s [v] rfl, fun base _ _ => ?_⟩
  have C_number_text : FnC PySem.Challenge.pw_enoughcharge_k06_texts_written w K mg base (fun _ => Option.none) 1 "number_text" 1 F_number_text [] := ok_number_text D_number_text g_number_text Mg 
  have C_expression_text : FnC PySem.Challenge.pw_enoughcharge_k06_texts_written w K mg base (fun _ => Option.none) 65 "expression_text" 1 (F_expression_text 64) [] := ok_expression_text D_expression_text g_expression_text Mg C_number_text 64
  have C_words_text : FnC PySem.Challenge.pw_enoughcharge_k06_texts_written w K mg base (fun _ => Option.none) 66 "words_text" 1 F_words_text [] := ok_words_text D_words_text g_words_text Mg C_expression_text
  have C_instruction_text : FnC PySem.Challenge.pw_enoughcharge_k06_texts_written w K mg base (fun _ => Option.none) 67 "instruction_text" 1 F_instruction_text [] := ok_instruction_text D_instruction_text g_instruction_text Mg C_words_text
  have C_program_text : FnC PySem.Challenge.pw_enoughcharge_k06_texts_written w K mg base (fun _ => Option.none) 68 "program_text" 1 F_program_text [] := ok_program_text D_program_text g_program_text Mg C_instruction_text C_words_text
  have C_law_mixed : FnC PySem.Challenge.pw_enoughcharge_k06_texts_written w K mg base (fun _ => Option.none) 1 "_law_mixed" 2 F_law_mixed [] := ok_law_mixed D_law_mixed g_law_mixed Mg 
  have C_law_feed : FnC PySem.Challenge.pw_enoughcharge_k06_texts_written w K mg base (fun _ => Option.none) 2 "_law_feed" 1 F_law_feed [] := ok_law_feed D_law_feed g_law_feed Mg C_law_mixed
  have C_law_draw : FnC PySem.Challenge.pw_enoughcharge_k06_texts_written w K mg base (fun _ => Option.none) 2 "_law_draw" 2 F_law_draw [] := ok_law_draw D_law_draw g_law_draw Mg C_law_mixed
  have C_law_pick : FnC PySem.Challenge.pw_enoughcharge_k06_texts_written w K mg base (fun _ => Option.none) 3 "_law_pick" 2 F_law_pick [] := ok_law_pick D_law_pick g_law_pick Mg C_law_draw
  have C_law_labels : FnC PySem.Challenge.pw_enoughcharge_k06_texts_written w K mg base (fun _ => Option.none) 4 "_law_labels" 2 F_law_labels [] := ok_law_labels D_law_labels g_law_labels Mg C_law_pick C_law_draw
  have C_law_sum : FnC PySem.Challenge.pw_enoughcharge_k06_texts_written w K mg base (fun _ => Option.none) 19 "_law_sum" 3 (F_law_sum 16) [] := ok_law_sum D_law_sum g_law_sum Mg C_law_draw C_law_pick 16
  have C_law_question : FnC PySem.Challenge.pw_enoughcharge_k06_texts_written w K mg base (fun _ => Option.none) 35 "_law_question" 3 (F_law_question 16) [] := ok_law_question D_law_question g_law_question Mg C_law_sum C_law_pick C_law_draw 16
  have C_law_deed : FnC PySem.Challenge.pw_enoughcharge_k06_texts_written w K mg base (fun _ => Option.none) 36 "_law_deed" 3 F_law_deed [] := ok_law_deed D_law_deed g_law_deed Mg C_law_question C_law_draw C_law_sum C_law_pick
  have C_law_box : FnC PySem.Challenge.pw_enoughcharge_k06_texts_written w K mg base (fun _ => Option.none) 4 "_law_box" 2 F_law_box [] := ok_law_box D_law_box g_law_box Mg C_law_draw C_law_pick
  have C_law_plan : FnC PySem.Challenge.pw_enoughcharge_k06_texts_written w K mg base (fun _ => Option.none) 37 "_law_plan" 1 F_law_plan [] := ok_law_plan D_law_plan g_law_plan Mg C_law_draw C_law_deed C_law_box C_law_labels
  have C_law_labels_of : FnC PySem.Challenge.pw_enoughcharge_k06_texts_written w K mg base (fun _ => Option.none) 1 "_law_labels_of" 1 F_law_labels_of [] := ok_law_labels_of D_law_labels_of g_law_labels_of Mg 
  have C_law_some : FnC PySem.Challenge.pw_enoughcharge_k06_texts_written w K mg base (fun _ => Option.none) 3 "_law_some" 2 F_law_some [] := ok_law_some D_law_some g_law_some Mg C_law_draw
  have C_law_word : FnC PySem.Challenge.pw_enoughcharge_k06_texts_written w K mg base (fun _ => Option.none) 64 "_law_word" 1 (F_law_word 64) [] := ok_law_word D_law_word g_law_word Mg  64
  have C_law_row : FnC PySem.Challenge.pw_enoughcharge_k06_texts_written w K mg base (fun _ => Option.none) 65 "_law_row" 1 F_law_row [] := ok_law_row D_law_row g_law_row Mg C_law_word
  have C_law_lines : FnC PySem.Challenge.pw_enoughcharge_k06_texts_written w K mg base (fun _ => Option.none) 66 "_law_lines" 1 F_law_lines [] := ok_law_lines D_law_lines g_law_lines Mg C_law_row
  have C_law_wide : FnC PySem.Challenge.pw_enoughcharge_k06_texts_written w K mg base (fun _ => Option.none) 1 "_law_wide" 0 F_law_wide [] := ok_law_wide D_law_wide g_law_wide Mg 
  have C_law_loose : FnC PySem.Challenge.pw_enoughcharge_k06_texts_written w K mg base (fun _ => Option.none) 37 "_law_loose" 1 F_law_loose [] := ok_law_loose D_law_loose g_law_loose Mg C_law_some C_law_draw C_law_deed C_law_box C_law_pick C_law_labels
  have C_law_written_right : FnC PySem.Challenge.pw_enoughcharge_k06_texts_written w K mg base (fun _ => Option.none) 69 "_law_written_right" 1 F_law_written_right [] := ok_law_written_right D_law_written_right g_law_written_right Mg C_instruction_text C_law_row C_program_text C_law_lines
  exact FnG.ofM (b := false) D_law sc_law (bd_law Mg C_instruction_text C_expression_text C_program_text C_law_word C_law_sum C_law_question C_law_labels_of C_law_written_right C_law_plan C_law_loose C_law_wide C_law_feed)
open PySem.W in
theorem holds_of (ev : ∀ (ns : List Int) (d : D), ns.length ≤ 63 → (∀ i ∈ ns, Builtin.Int.intBits i ≤ 1048576) → scr d ns → ∃ S, F_law [d] [] = some (.ok (.bl true), S)) : PySem.Challenge.rw_enoughcharge_k06_texts_written.Holds := by
  w_on; o_law
  refine HandSHeadRun.head_any (r := theRow) (q := theView) (H := theHook) (ob := seen) (M := 4000) (loose := loose) (d := HandSHeadRun.topDef theRow.prog 27) (kwd := []) seen_eq
    (by kernel_rfl) (fun t => by kernel_rfl) goes (by kernel_rfl) (by kernel_rfl) (by kernel_rfl) rfl (by first | assumption | decide +kernel) (by decide +kernel) ⟨rfl, rfl, rfl, rfl, rfl, by decide +kernel⟩ ?hw ?hc
  case hw => w_witness2
  case hc =>
    refine law_walk (l := PySem.Challenge.rw_enoughcharge_k06_texts_written) (k := 70) (x := "_law_script") (F := F_law) rfl (by kernel_rfl) ⟨rfl, by decide, by decide⟩ (fun w mg fa h Y G hmg => get w mg fa h Y G ?_) ev
    have e : (HandSHeadRun.topDef theRow.prog 27).name = ("law" : PySem.Str) := by kernel_rfl
    rwa [e] at hmg
end K06

namespace K06
open PySem PySem.Spec Pv
theorem eInt {i : Int} {S : Store} {P : D → Store → Prop} : Rn (oInt [.int i] S) P ↔ P (.int i) S := rn_ret
theorem oAddI {i j : Int} {S : Store} {P : D → Store → Prop} : Rn (oAdd (.int i) (.int j) S) P ↔ P (.int (i + j)) S := rn_ret
theorem oSubI {i j : Int} {S : Store} {P : D → Store → Prop} : Rn (oSub (.int i) (.int j) S) P ↔ P (.int (i - j)) S := rn_ret
theorem oMulI {i j : Int} {S : Store} {P : D → Store → Prop} : Rn (oMul (.int i) (.int j) S) P ↔ i.natAbs.log2 + j.natAbs.log2 < 1000000 ∧ P (.int (i * j)) S := by
  show Rn (guard' _ (ret _ _)) _ ↔ _
  rw [rn_guard, rn_ret, decide_eq_true_eq]
theorem oDivI {i j : Int} {S : Store} {P : D → Store → Prop} : Rn (oDiv (.int i) (.int j) S) P ↔ (0 < j ∧ j.natAbs.log2 < 9000) ∧ P (.int (i / j)) S := by
  show Rn (guard' _ (ret _ _)) _ ↔ _
  rw [rn_guard, rn_ret, Bool.and_eq_true, decide_eq_true_eq, decide_eq_true_eq]
theorem oModI {i j : Int} {S : Store} {P : D → Store → Prop} : Rn (oMod (.int i) (.int j) S) P ↔ 0 < j ∧ P (.int (i % j)) S := by
  show Rn (guard' _ (ret _ _)) _ ↔ _
  rw [rn_guard, rn_ret, decide_eq_true_eq]
theorem oLtI {i j : Int} {S : Store} {P : D → Store → Prop} : Rn (oLt (.int i) (.int j) S) P ↔ P (.bl (decide (i < j))) S := rn_ret
theorem oGtI {i j : Int} {S : Store} {P : D → Store → Prop} : Rn (oGt (.int i) (.int j) S) P ↔ P (.bl (decide (i > j))) S := rn_ret
theorem oGeI {i j : Int} {S : Store} {P : D → Store → Prop} : Rn (oGe (.int i) (.int j) S) P ↔ P (.bl (decide (i ≥ j))) S := rn_ret
theorem oEqI {i j : Int} {S : Store} {P : D → Store → Prop} : Rn (oEq (.int i) (.int j) S) P ↔ P (.bl (decide (i = j))) S := by
  have e : pyEq S (.int i) (.int j) = some (decide (i = j)) := by
    simp [pyEq, scEq, D.sc, L2.scal]
  unfold oEq
  rw [e]
  exact rn_ret
theorem log_lt {i : Int} {n : Nat} (h : i.natAbs < 2 ^ n) (hn : 0 < n) : i.natAbs.log2 < n := by
  by_cases h0 : i.natAbs = 0
  · rw [h0]; simpa using hn
  · exact (Nat.log2_lt h0).mpr h
/-- a drawn number, made small -/
def mx (n k : Int) : Int :=
  let h := (n * 48271 + k * 1103515245 + 12345) % 2147483647
  let h := (h * 69621 + h / 4099 * (h / 131)) % 2147483629
  h / 13 % 55440
theorem mx_lo (n k : Int) : 0 ≤ mx n k := Int.emod_nonneg _ (by decide)
theorem mx_hi (n k : Int) : mx n k < 55440 := Int.emod_lt_of_pos _ (by decide)
theorem log31 {i : Int} (h0 : 0 ≤ i) (h1 : i < 2147483648) : i.natAbs.log2 < 200 := log_lt (n := 200) (Nat.lt_of_lt_of_le (show i.natAbs < 2 ^ 31 by omega) (Nat.pow_le_pow_right (by decide) (by decide))) (by decide)
theorem logC {i : Int} (h0 : 0 ≤ i := by decide) (h1 : i < 2147483648 := by decide) : i.natAbs.log2 < 200 := log31 h0 h1
theorem sp_mixed {n k : Int} {S : Store} (hS : okS S) (hn : n.natAbs < 2 ^ 200) (hk : k.natAbs < 2 ^ 200) {P : D → Store → Prop} (p : P (.int (mx n k)) S) : Rn (F_law_mixed [.int n, .int k] S) P := by
  rw [F_law_mixed, rn_defF]
  show Rn (B_law_mixed [some (.int n), some (.int k), none] S) _
  unfold B_law_mixed
  simp only [rn_sSeq, rn_sSet, rn_sRet, rn_sIf, rn_sNil, rn_sDrop, rn_sPar, rn_sUnp, rn_sPut, after_nx, after_rt, rn_eBin, rn_eUn, rn_eBl, rn_eC, rn_eCons, rn_eNil, rn_eTup, rn_eLst, rn_eCall, rn_ar, rn_eTru, rn_byT_bl, rn_bNot, rn_bOr, rn_bAnd, rn_eIf, rn_ret, rn_guard, rn_eMk, rn_eApp, rn_eDisp, rn_eSl, rn_ePart_none, rn_ePart_some, rn_eM1, rn_eJs_nil, rn_eJs_cons, rn_eComp, rn_sFor, eVar, List.getElem?_cons_succ, List.getElem?_cons_zero, List.set_cons_succ, List.set_cons_zero, eInt, oAddI, oSubI, oMulI, oDivI, oModI, oLtI, oGtI, oGeI, oEqI]
  have l1 := log_lt hn (by decide)
  have l2 := log_lt hk (by decide)
  have m0 : 0 ≤ (n * 48271 + k * 1103515245 + 12345) % 2147483647 := Int.emod_nonneg _ (by decide)
  have m1 : (n * 48271 + k * 1103515245 + 12345) % 2147483647 < 2147483647 := Int.emod_lt_of_pos _ (by decide)
  have l3 := log31 m0 (by omega)
  have l4 : ((n * 48271 + k * 1103515245 + 12345) % 2147483647 / 4099).natAbs.log2 < 200 := log31 (by omega) (by omega)
  have l5 : ((n * 48271 + k * 1103515245 + 12345) % 2147483647 / 131).natAbs.log2 < 200 := log31 (by omega) (by omega)
  have c1 := logC (i := 48271)
  have c2 := logC (i := 1103515245)
  have c3 := logC (i := 69621)
  have c4 := logC (i := 4099)
  have c5 := logC (i := 131)
  have c6 := logC (i := 13)
  refine ⟨by omega, by omega, by decide, by omega, ⟨by decide, by omega⟩, ⟨by decide, by omega⟩, by omega, by decide, ⟨by decide, by omega⟩, by decide, ?_⟩
  refine end_pu rfl hS ?_
  rw [List.take_length]
  exact p
/-! ### the drawn numbers -/
theorem ix_at {f : Fd} {R : Store} {P : D → Store → Prop} : Rn (oIx (.cell 0) (.str "at") (f.c :: R)) P ↔ P (.int f.at_) (f.c :: R) := rn_ret
theorem ix_draws {f : Fd} {R : Store} {P : D → Store → Prop} : Rn (oIx (.cell 0) (.str "draws") (f.c :: R)) P ↔ P (.lst (f.ds.map D.int)) (f.c :: R) := rn_ret
theorem ix_total {f : Fd} {R : Store} {P : D → Store → Prop} : Rn (oIx (.cell 0) (.str "total") (f.c :: R)) P ↔ P (.int f.tot) (f.c :: R) := rn_ret
theorem put_at {f : Fd} {R : Store} {n : Nat} : oPut (.cell 0) (.str "at") (.int n) (f.c :: R) = some (({ f with at_ := n } : Fd).c :: R) := rfl
theorem len_lst {ds : List D} {S : Store} {P : D → Store → Prop} : Rn (oLen [.lst ds] S) P ↔ P (.int ds.length) S := rn_ret
theorem len_tup {ds : List D} {S : Store} {P : D → Store → Prop} : Rn (oLen [.tup ds] S) P ↔ P (.int ds.length) S := rn_ret
theorem ix_lst {ds : List D} {i : Int} {d : D} {S : Store} {P : D → Store → Prop} (h : L2.atI ds i = some d) : Rn (oIx (.lst ds) (.int i) S) P ↔ P d S := by
  have e : oIx (.lst ds) (.int i) S = (match L2.atI ds i with | some d => ret d S | none => none) := rfl
  rw [e, h]
  exact rn_ret
theorem ix_tup {ds : List D} {i : Int} {d : D} {S : Store} {P : D → Store → Prop} (h : L2.atI ds i = some d) : Rn (oIx (.tup ds) (.int i) S) P ↔ P d S := by
  have e : oIx (.tup ds) (.int i) S = (match L2.atI ds i with | some d => ret d S | none => none) := rfl
  rw [e, h]
  exact rn_ret
theorem atI_nat {ds : List D} {i : Nat} {d : D} (h : ds[i]? = some d) : L2.atI ds (i : Int) = some d := by
  have hl := (List.getElem?_eq_some_iff.mp h).1
  unfold L2.atI L2.ixN
  simp [hl]
  exact (List.getElem?_eq_some_iff.mp h).2
theorem atI_in {ds : List D} {i : Int} (h0 : 0 ≤ i) (h1 : i < ds.length) : ∃ d, L2.atI ds i = some d ∧ d ∈ ds := by
  obtain ⟨n, rfl⟩ := Int.eq_ofNat_of_zero_le h0
  have hl : n < ds.length := by omega
  exact ⟨ds[n], atI_nat (List.getElem?_eq_getElem hl), List.getElem_mem hl⟩
/-- the numbers behind at most k drawings -/
structure Nx (f f' : Fd) (k : Nat) : Prop where
  ds : f'.ds = f.ds
  tot : f'.tot = f.tot
  few : f'.at_ ≤ f.at_ + k
/-- k more can be drawn -/
structure Can (f : Fd) (k : Nat) : Prop where
  few : f.at_ + k ≤ 2 ^ 190
  tot0 : 0 ≤ f.tot
  tot1 : f.tot < 2147483629
theorem Can.le {f : Fd} {j k : Nat} (h : Can f k) (l : j ≤ k) : Can f j := ⟨by have := h.few; omega, h.tot0, h.tot1⟩
theorem Can.next {f f' : Fd} {i j k : Nat} (h : Can f k) (n : Nx f f' j) (l : j + i ≤ k) : Can f' i := ⟨by have := h.few; have := n.few; omega, by rw [n.tot]; exact h.tot0, by rw [n.tot]; exact h.tot1⟩
theorem Nx.refl {f : Fd} {k : Nat} : Nx f f k := ⟨rfl, rfl, by omega⟩
theorem Nx.trans {f g h : Fd} {i j k : Nat} (a : Nx f g i) (b : Nx g h j) (l : i + j ≤ k) : Nx f h k := ⟨b.ds.trans a.ds, b.tot.trans a.tot, by have := a.few; have := b.few; omega⟩
theorem take_all {f : Fd} {g : Fd} {R : Store} : (g.c :: R).take (f.c :: R).length = g.c :: R := List.take_of_length_le (by simp)
/-- a plain value is handed over by a def that draws -/
theorem end_dr {f g : Fd} {R : Store} {d : D} {P : D → Store → Prop} (hS : okS R) (hd : d.pu = true) (p : P d (g.c :: R)) : Rn (endF false (f.c :: R).length (.ok (.rt d), g.c :: R)) P := end_pu hd (hS.cons (Fd.pu _)) (by rw [take_all]; exact p)
/-- one number is drawn -/
theorem sp_draw {f : Fd} {R : Store} {m : Int} (hS : okS R) (hf : Can f 1) (hm : 0 < m) {P : D → Store → Prop} (p : ∀ (v : Int) (f' : Fd), Nx f f' 1 → 0 ≤ v → v < m → P (.int v) (f'.c :: R)) : Rn (F_law_draw [.cell 0, .int m] (f.c :: R)) P := by
  rw [F_law_draw, rn_defF]
  show Rn (B_law_draw [some (.cell 0), some (.int m), none, none] (f.c :: R)) _
  unfold B_law_draw
  simp only [rn_sSeq, rn_sSet, rn_sRet, rn_sIf, rn_sNil, rn_sDrop, rn_sPar, rn_sUnp, rn_sPut, after_nx, after_rt, rn_eBin, rn_eUn, rn_eBl, rn_eC, rn_eCons, rn_eNil, rn_eTup, rn_eLst, rn_eCall, rn_ar, rn_eTru, rn_byT_bl, rn_bNot, rn_bOr, rn_bAnd, rn_eIf, rn_ret, rn_guard, rn_eMk, rn_eApp, rn_eDisp, rn_eSl, rn_ePart_none, rn_ePart_some, rn_eM1, rn_eJs_nil, rn_eJs_cons, rn_eComp, rn_sFor, eVar, List.getElem?_cons_succ, List.getElem?_cons_zero, List.set_cons_succ, List.set_cons_zero, eInt, oAddI, oSubI, oMulI, oDivI, oModI, oLtI, oGtI, oGeI, oEqI]
  simp only [ix_at, ix_draws]
  refine ⟨_, rfl, ?_⟩
  simp only [rn_sSeq, rn_sSet, rn_sRet, rn_sIf, rn_sNil, rn_sDrop, rn_sPar, rn_sUnp, rn_sPut, after_nx, after_rt, rn_eBin, rn_eUn, rn_eBl, rn_eC, rn_eCons, rn_eNil, rn_eTup, rn_eLst, rn_eCall, rn_ar, rn_eTru, rn_byT_bl, rn_bNot, rn_bOr, rn_bAnd, rn_eIf, rn_ret, rn_guard, rn_eMk, rn_eApp, rn_eDisp, rn_eSl, rn_ePart_none, rn_ePart_some, rn_eM1, rn_eJs_nil, rn_eJs_cons, rn_eComp, rn_sFor, eVar, List.getElem?_cons_succ, List.getElem?_cons_zero, List.set_cons_succ, List.set_cons_zero, eInt, oAddI, oSubI, oMulI, oDivI, oModI, oLtI, oGtI, oGeI, oEqI]
  refine ⟨_, put_at, ?_⟩
  simp only [len_lst]
  simp only [rn_sSeq, rn_sSet, rn_sRet, rn_sIf, rn_sNil, rn_sDrop, rn_sPar, rn_sUnp, rn_sPut, after_nx, after_rt, rn_eBin, rn_eUn, rn_eBl, rn_eC, rn_eCons, rn_eNil, rn_eTup, rn_eLst, rn_eCall, rn_ar, rn_eTru, rn_byT_bl, rn_bNot, rn_bOr, rn_bAnd, rn_eIf, rn_ret, rn_guard, rn_eMk, rn_eApp, rn_eDisp, rn_eSl, rn_ePart_none, rn_ePart_some, rn_eM1, rn_eJs_nil, rn_eJs_cons, rn_eComp, rn_sFor, eVar, List.getElem?_cons_succ, List.getElem?_cons_zero, List.set_cons_succ, List.set_cons_zero, eInt, oAddI, oSubI, oMulI, oDivI, oModI, oLtI, oGtI, oGeI, oEqI]
  have few := hf.few
  have l1 : ((f.at_ : Int)).natAbs.log2 < 200 := log_lt (Nat.lt_of_le_of_lt (show (f.at_ : Int).natAbs ≤ 2 ^ 190 from by omega) (by decide)) (by decide)
  have l2 := logC (i := 977)
  have okF : okS (({ f with at_ := f.at_ + 1 } : Fd).c :: R) := hS.cons (Fd.pu _)
  have end_ : ∀ v : Int, 0 ≤ v → v < m → Rn (endF false (f.c :: R).length (.ok (.rt (.int v)), ({ f with at_ := f.at_ + 1 } : Fd).c :: R)) P := fun v h0 h1 => end_dr hS rfl (p v { f with at_ := f.at_ + 1 } ⟨rfl, rfl, Nat.le_refl _⟩ h0 h1)
  refine ⟨fun h => ?_, fun h => ?_⟩
  · have hl : f.at_ < f.ds.length := by simpa using h
    have e : L2.atI (f.ds.map D.int) (f.at_ : Int) = some (.int f.ds[f.at_]) := atI_nat (by simp [hl])
    refine (ix_lst e).mpr ?_
    simp only [rn_sSeq, rn_sSet, rn_sRet, rn_sIf, rn_sNil, rn_sDrop, rn_sPar, rn_sUnp, rn_sPut, after_nx, after_rt, rn_eBin, rn_eUn, rn_eBl, rn_eC, rn_eCons, rn_eNil, rn_eTup, rn_eLst, rn_eCall, rn_ar, rn_eTru, rn_byT_bl, rn_bNot, rn_bOr, rn_bAnd, rn_eIf, rn_ret, rn_guard, rn_eMk, rn_eApp, rn_eDisp, rn_eSl, rn_ePart_none, rn_ePart_some, rn_eM1, rn_eJs_nil, rn_eJs_cons, rn_eComp, rn_sFor, eVar, List.getElem?_cons_succ, List.getElem?_cons_zero, List.set_cons_succ, List.set_cons_zero, eInt, oAddI, oSubI, oMulI, oDivI, oModI, oLtI, oGtI, oGeI, oEqI]
    exact ⟨hm, end_ _ (Int.emod_nonneg _ (by omega)) (Int.emod_lt_of_pos _ hm)⟩
  · simp only [ix_total]
    simp only [rn_sSeq, rn_sSet, rn_sRet, rn_sIf, rn_sNil, rn_sDrop, rn_sPar, rn_sUnp, rn_sPut, after_nx, after_rt, rn_eBin, rn_eUn, rn_eBl, rn_eC, rn_eCons, rn_eNil, rn_eTup, rn_eLst, rn_eCall, rn_ar, rn_eTru, rn_byT_bl, rn_bNot, rn_bOr, rn_bAnd, rn_eIf, rn_ret, rn_guard, rn_eMk, rn_eApp, rn_eDisp, rn_eSl, rn_ePart_none, rn_ePart_some, rn_eM1, rn_eJs_nil, rn_eJs_cons, rn_eComp, rn_sFor, eVar, List.getElem?_cons_succ, List.getElem?_cons_zero, List.set_cons_succ, List.set_cons_zero, eInt, oAddI, oSubI, oMulI, oDivI, oModI, oLtI, oGtI, oGeI, oEqI]
    refine ⟨by omega, by simp, ?_⟩
    refine sp_mixed okF ?_ ?_ ?_
    · have h0 := hf.tot0
      have h1 := hf.tot1
      refine Nat.lt_of_le_of_lt (show _ ≤ 2147483629 + 977 * 2 ^ 190 from by omega) (by decide)
    · exact Nat.lt_of_le_of_lt (show (f.at_ : Int).natAbs ≤ 2 ^ 190 from by omega) (by decide)
    · simp only [rn_sSeq, rn_sSet, rn_sRet, rn_sIf, rn_sNil, rn_sDrop, rn_sPar, rn_sUnp, rn_sPut, after_nx, after_rt, rn_eBin, rn_eUn, rn_eBl, rn_eC, rn_eCons, rn_eNil, rn_eTup, rn_eLst, rn_eCall, rn_ar, rn_eTru, rn_byT_bl, rn_bNot, rn_bOr, rn_bAnd, rn_eIf, rn_ret, rn_guard, rn_eMk, rn_eApp, rn_eDisp, rn_eSl, rn_ePart_none, rn_ePart_some, rn_eM1, rn_eJs_nil, rn_eJs_cons, rn_eComp, rn_sFor, eVar, List.getElem?_cons_succ, List.getElem?_cons_zero, List.set_cons_succ, List.set_cons_zero, eInt, oAddI, oSubI, oMulI, oDivI, oModI, oLtI, oGtI, oGeI, oEqI]
      exact ⟨hm, end_ _ (Int.emod_nonneg _ (by omega)) (Int.emod_lt_of_pos _ hm)⟩
/-- one of some is drawn -/
theorem sp_pick {f : Fd} {R : Store} {ds : List D} (hS : okS R) (hf : Can f 1) (h0 : ds ≠ []) (hp : D.pus ds = true) {P : D → Store → Prop} (p : ∀ (d : D) (f' : Fd), Nx f f' 1 → d ∈ ds → P d (f'.c :: R)) : Rn (F_law_pick [.cell 0, .lst ds] (f.c :: R)) P := by
  rw [F_law_pick, rn_defF]
  show Rn (B_law_pick [some (.cell 0), some (.lst ds)] (f.c :: R)) _
  unfold B_law_pick
  simp only [rn_sSeq, rn_sSet, rn_sRet, rn_sIf, rn_sNil, rn_sDrop, rn_sPar, rn_sUnp, rn_sPut, after_nx, after_rt, rn_eBin, rn_eUn, rn_eBl, rn_eC, rn_eCons, rn_eNil, rn_eTup, rn_eLst, rn_eCall, rn_ar, rn_eTru, rn_byT_bl, rn_bNot, rn_bOr, rn_bAnd, rn_eIf, rn_ret, rn_guard, rn_eMk, rn_eApp, rn_eDisp, rn_eSl, rn_ePart_none, rn_ePart_some, rn_eM1, rn_eJs_nil, rn_eJs_cons, rn_eComp, rn_sFor, eVar, List.getElem?_cons_succ, List.getElem?_cons_zero, List.set_cons_succ, List.set_cons_zero, eInt, oAddI, oSubI, oMulI, oDivI, oModI, oLtI, oGtI, oGeI, oEqI]
  simp only [len_lst]
  have hl : 0 < ds.length := List.length_pos_iff.mpr h0
  refine ⟨rfl, sp_draw hS hf (by omega) fun v f' n v0 v1 => ?_⟩
  obtain ⟨d, e, m⟩ := atI_in v0 v1
  exact (ix_lst e).mpr (end_dr hS (pus_iff.mp hp d m) (p d f' n m))
end K06

namespace K06
open PySem PySem.Spec Pv
/-! ### names of cells -/
/-- a short text of plain signs -/
structure Lbl (s : Str) : Prop where
  len : s.length ≤ 30
  asc : ∀ c ∈ s.cps.toList, c < 128
def lblB (n : Nat) (s : Str) : Bool := decide (s.length ≤ n) && s.cps.toList.all fun c => decide (c < 128)
theorem lbl_of {s : Str} (h : lblB 30 s = true) : Lbl s := by
  simp only [lblB, Bool.and_eq_true, decide_eq_true_eq, List.all_eq_true] at h
  exact ⟨h.1, h.2⟩
def IsL (d : D) : Prop := ∃ s : Str, d = .str s ∧ Lbl s
theorem IsL.pu {d : D} (h : IsL d) : d.pu = true := by
  obtain ⟨s, rfl, _⟩ := h
  rfl
theorem islb {s : Str} (h : lblB 30 s = true) : IsL (.str s) := ⟨s, rfl, lbl_of h⟩
theorem app_len {a b : Str} : (a ++ b).length = a.length + b.length := Array.size_append ..
theorem app_cps {a b : Str} : (a ++ b).cps.toList = a.cps.toList ++ b.cps.toList := Array.toList_append ..
theorem oAddS {a b : Str} {S : Store} {P : D → Store → Prop} : Rn (oAdd (.str a) (.str b) S) P ↔ a.length + b.length ≤ line ∧ P (.str (a ++ b)) S := by
  show Rn (guard' _ (ret _ _)) _ ↔ _
  rw [rn_guard, rn_ret, decide_eq_true_eq]
/-- a sign of a text by its place -/
theorem ix_str {z : Str} {i : Int} {S : Store} {P : D → Store → Prop} (hl : z.length ≤ line) (h0 : 0 ≤ i) (h1 : i < z.length) (p : ∀ c : Nat, c ∈ z.cps.toList → P (.str ⟨#[c]⟩) S) : Rn (oIx (.str z) (.int i) S) P := by
  obtain ⟨n, rfl⟩ := Int.eq_ofNat_of_zero_le h0
  have hn : n < z.cps.toList.length := by
    have : z.length = z.cps.toList.length := by simp [Str.length]
    omega
  have e : L2.atI z.cps.toList (n : Int) = some z.cps.toList[n] := by
    unfold L2.atI L2.ixN
    simp only [Int.natCast_nonneg, if_true, Int.toNat_natCast]
    rw [if_pos (by exact_mod_cast hn)]
    simp only [Option.bind_some]
    exact List.getElem?_eq_getElem hn
  have e2 : oIx (.str z) (.int (n : Int)) S = guard' (decide (z.length ≤ line)) (match L2.atI z.cps.toList (n : Int) with
    | some k => ret (.str ⟨#[k]⟩) S
    | none => none) := rfl
  rw [e2, e, rn_guard, decide_eq_true_eq]
  exact ⟨hl, rn_ret.mpr (p _ (List.getElem_mem hn))⟩
theorem cut_sub {z : Str} {lo hi : Option Int} : (L2.cutS z lo hi).length ≤ z.length ∧ ∀ c ∈ (L2.cutS z lo hi).cps.toList, c ∈ z.cps.toList := by
  refine ⟨L2.cutS_length .., fun c h => ?_⟩
  unfold L2.cutS at h
  exact List.mem_of_mem_drop (List.mem_of_mem_take (by simpa using h))
/-- a range's items -/
theorem rn_iRg1 {S : Store} {P : Src → Store → Prop} {fs : Pv.Env → Store → Out (List D)} {ρ : Pv.Env} : Rn (iRg1 fs ρ S) P ↔ Rn (fs ρ S) fun ds S1 => ∃ j : Int, ds = [.int j] ∧ (-(2 ^ 62) ≤ j ∧ j < 2 ^ 62) ∧ P (.rng 0 j.toNat) S1 := by
  unfold iRg1
  rw [rn_bnd]
  constructor
  · rintro ⟨ds, S1, e, h⟩
    refine ⟨ds, S1, e, ?_⟩
    split at h
    · rw [rn_guard, rn_ret] at h
      simp only [Bool.and_eq_true, decide_eq_true_eq] at h
      exact ⟨_, rfl, h.1, h.2⟩
    · exact (rn_none.mp h).elim
  · rintro ⟨ds, S1, e, j, rfl, h1, h2⟩
    refine ⟨_, S1, e, ?_⟩
    show Rn (guard' _ (ret _ _)) _
    rw [rn_guard, rn_ret]
    exact ⟨by simp only [Bool.and_eq_true, decide_eq_true_eq]; exact h1, h2⟩
theorem rng_get {n k : Nat} {d : D} {ds : List D} (hs : (Src.rng 0 n).items = some ds) (h : ds[k]? = some d) : k < n ∧ d = .int (k : Int) := by
  simp only [Src.items, Option.some.injEq] at hs
  subst hs
  rw [List.getElem?_map] at h
  cases e : (List.range n)[k]? with
  | none => rw [e] at h; cases h
  | some j =>
    rw [e] at h
    have hk : k < n := by
      have := (List.getElem?_eq_some_iff.mp e).1
      simpa using this
    have hj : j = k := by
      have := (List.getElem?_eq_some_iff.mp e).2
      simpa using this.symm
    subst hj
    cases h
    exact ⟨hk, by simp⟩
theorem rng_len {n : Nat} {ds : List D} (hs : (Src.rng 0 n).items = some ds) : ds.length = n := by
  simp only [Src.items, Option.some.injEq] at hs
  subst hs
  simp
/-! ### comprehensions -/
section
variable {tg : Tg} {fe : Pv.Env → Store → Out D} {s : Src} {ds : List D} {ρ : Pv.Env} {m : Nat} {Q : Nat → D → Prop} {P : List D → Store → Prop}
/-- nothing is drawn, nothing changed -/
theorem comp_pure {S : Store} (hs : s.items = some ds) (few : ds.length ≤ line) (hm : ds.length < m) (step : ∀ k d, ds[k]? = some d → ∃ ρ1, setT tg d ρ = some ρ1 ∧ ∀ P : D → Store → Prop, (∀ x, Q k x → P x S) → Rn (fe ρ1 S) P)
    (fin : ∀ xs : List D, xs.length = ds.length → (∀ k x, xs[k]? = some x → Q k x) → P xs S) : Rn (compL tg none fe s ρ m 0 [] S) P := by
  refine rn_comp hs (fun k acc T => T = S ∧ acc.length = k ∧ ∀ j x, acc[j]? = some x → Q j x) (fun k acc T h => Nat.le_of_eq h.2.1) ?_ ?_ few m 0 [] S (by omega) (Nat.zero_le _) ⟨rfl, rfl, fun j x h => by simp at h⟩
  · rintro k d acc T e ⟨rfl, hl, ha⟩
    obtain ⟨ρ1, e1, h⟩ := step k d e
    refine ⟨ρ1, e1, rn_ret.mpr ⟨fun _ => h _ fun x q => ⟨rfl, by simp [hl], fun j y hj => ?_⟩, fun z => nomatch z⟩⟩
    by_cases hjk : j < acc.length
    · rw [List.getElem?_append_left hjk] at hj
      exact ha j y hj
    · have : j = k := by
        have := (List.getElem?_eq_some_iff.mp hj).1
        simp at this
        omega
      subst this
      rw [List.getElem?_append_right (by omega), hl, Nat.sub_self] at hj
      cases hj
      exact q
  · rintro acc T ⟨rfl, hl, ha⟩
    exact fin acc hl ha
/-- at most c numbers are drawn for each -/
theorem comp_draw {f : Fd} {R : Store} {c : Nat} (hs : s.items = some ds) (few : ds.length ≤ line) (hm : ds.length < m) (hf : Can f (c * ds.length)) (step : ∀ k d g, ds[k]? = some d → Can g c → ∃ ρ1, setT tg d ρ = some ρ1 ∧ ∀ P : D → Store → Prop, (∀ x g', Nx g g' c → Q k x → P x (g'.c :: R)) → Rn (fe ρ1 (g.c :: R)) P)
    (fin : ∀ (xs : List D) (f' : Fd), Nx f f' (c * ds.length) → xs.length = ds.length → (∀ k x, xs[k]? = some x → Q k x) → P xs (f'.c :: R)) : Rn (compL tg none fe s ρ m 0 [] (f.c :: R)) P := by
  refine rn_comp hs (fun k acc T => acc.length = k ∧ (∀ j x, acc[j]? = some x → Q j x) ∧ ∃ g, T = g.c :: R ∧ Nx f g (c * k)) (fun k acc T h => Nat.le_of_eq h.1) ?_ ?_ few m 0 [] _ (by omega) (Nat.zero_le _) ⟨rfl, fun j x h => by simp at h, f, rfl, .refl⟩
  · rintro k d acc T e ⟨hl, ha, g, rfl, n⟩
    have hk : k < ds.length := (List.getElem?_eq_some_iff.mp e).1
    have hc : c * k + c ≤ c * ds.length := by
      have := Nat.mul_le_mul_left c hk
      rwa [Nat.mul_succ] at this
    obtain ⟨ρ1, e1, h⟩ := step k d g e (hf.next n hc)
    refine ⟨ρ1, e1, rn_ret.mpr ⟨fun _ => h _ fun x g' n' q => ⟨by simp [hl], fun j y hj => ?_, g', rfl, n.trans n' (by rw [Nat.mul_succ]; exact Nat.le_refl _)⟩, fun z => nomatch z⟩⟩
    by_cases hjk : j < acc.length
    · rw [List.getElem?_append_left hjk] at hj
      exact ha j y hj
    · have : j = k := by
        have := (List.getElem?_eq_some_iff.mp hj).1
        simp at this
        omega
      subst this
      rw [List.getElem?_append_right (by omega), hl, Nat.sub_self] at hj
      cases hj
      exact q
  · rintro acc T ⟨hl, ha, g, rfl, n⟩
    exact fin acc g n hl ha
end
theorem all_of {xs : List D} {Q : D → Prop} (h : ∀ (k : Nat) (x : D), xs[k]? = some x → Q x) : ∀ d ∈ xs, Q d := fun d m => by
  obtain ⟨k, e⟩ := List.getElem?_of_mem m
  exact h k d e
theorem lst_pu {ds : List D} (h : ∀ d ∈ ds, IsL d) : (D.lst ds).pu = true := pus_iff.mpr fun d m => (h d m).pu
theorem abc_len : (Str.ofString "abcdefghijklmnopqrstuvwxyz").length = 26 := by decide +kernel
theorem abc_asc : ∀ c ∈ (Str.ofString "abcdefghijklmnopqrstuvwxyz").cps.toList, c < 128 := by decide +kernel
theorem sp_labels {f : Fd} {R : Store} {m : Nat} (hS : okS R) (hf : Can f 20) (hm : m ≤ 1000) {P : D → Store → Prop} (p : ∀ (ds : List D) (f' : Fd), Nx f f' 20 → ds.length = m → (∀ d ∈ ds, IsL d) → P (.lst ds) (f'.c :: R)) : Rn (F_law_labels [.cell 0, .int m] (f.c :: R)) P := by
  rw [F_law_labels, rn_defF]
  show Rn (B_law_labels [some (.cell 0), some (.int m), none, none, none, none, none, none, none] (f.c :: R)) _
  unfold B_law_labels
  simp only [rn_sSeq, rn_sSet, rn_sRet, rn_sIf, rn_sNil, rn_sDrop, rn_sPar, rn_sUnp, rn_sPut, after_nx, after_rt, rn_eBin, rn_eUn, rn_eBl, rn_eC, rn_eCons, rn_eNil, rn_eTup, rn_eLst, rn_eCall, rn_ar, rn_eTru, rn_byT_bl, rn_bNot, rn_bOr, rn_bAnd, rn_eIf, rn_ret, rn_guard, rn_eMk, rn_eApp, rn_eDisp, rn_eSl, rn_ePart_none, rn_ePart_some, rn_eM1, rn_eJs_nil, rn_eJs_cons, rn_eComp, rn_sFor, eVar, List.getElem?_cons_succ, List.getElem?_cons_zero, List.set_cons_succ, List.set_cons_zero, eInt, oAddI, oSubI, oMulI, oDivI, oModI, oLtI, oGtI, oGeI, oEqI]
  refine ⟨rfl, sp_draw hS (hf.le (by decide)) (by decide) fun way f1 n1 w0 w1 => ⟨rfl, sp_draw hS (hf.next n1 (i := 1) (by decide)) (by decide) fun first f2 n2 s0 s1 => ?_⟩⟩
  refine ⟨by show (3 : Nat) ≤ line; decide, _, _, rfl, rfl, ?_⟩
  have n12 : Nx f f2 2 := n1.trans n2 (by decide)
  -- the end, whichever way
  have fin : ∀ (xs : List D) (f' : Fd), Nx f f' 20 → xs.length = m → (∀ d ∈ xs, IsL d) → Rn (endF false (f.c :: R).length (.ok (.rt (.lst xs)), f'.c :: R)) P := fun xs f' n h1 h2 => end_dr hS (lst_pu h2) (p xs f' n h1 h2)
  have items : (Src.rng 0 m).items = some ((List.range m).map fun k => D.int (0 + (k : Nat))) := rfl
  have ilen : ((List.range m).map fun k => D.int (0 + (k : Nat))).length = m := by simp
  simp only [rn_sSeq, rn_sSet, rn_sRet, rn_sIf, rn_sNil, rn_sDrop, rn_sPar, rn_sUnp, rn_sPut, after_nx, after_rt, rn_eBin, rn_eUn, rn_eBl, rn_eC, rn_eCons, rn_eNil, rn_eTup, rn_eLst, rn_eCall, rn_ar, rn_eTru, rn_byT_bl, rn_bNot, rn_bOr, rn_bAnd, rn_eIf, rn_ret, rn_guard, rn_eMk, rn_eApp, rn_eDisp, rn_eSl, rn_ePart_none, rn_ePart_some, rn_eM1, rn_eJs_nil, rn_eJs_cons, rn_eComp, rn_sFor, eVar, List.getElem?_cons_succ, List.getElem?_cons_zero, List.set_cons_succ, List.set_cons_zero, eInt, oAddI, oSubI, oMulI, oDivI, oModI, oLtI, oGtI, oGeI, oEqI]
  refine ⟨fun h => ?_, fun h => ?_⟩
  · refine ⟨by show (8 : Nat) ≤ line; decide, ?_⟩
    simp only [rn_iRg1]
    simp only [rn_sSeq, rn_sSet, rn_sRet, rn_sIf, rn_sNil, rn_sDrop, rn_sPar, rn_sUnp, rn_sPut, after_nx, after_rt, rn_eBin, rn_eUn, rn_eBl, rn_eC, rn_eCons, rn_eNil, rn_eTup, rn_eLst, rn_eCall, rn_ar, rn_eTru, rn_byT_bl, rn_bNot, rn_bOr, rn_bAnd, rn_eIf, rn_ret, rn_guard, rn_eMk, rn_eApp, rn_eDisp, rn_eSl, rn_ePart_none, rn_ePart_some, rn_eM1, rn_eJs_nil, rn_eJs_cons, rn_eComp, rn_sFor, eVar, List.getElem?_cons_succ, List.getElem?_cons_zero, List.set_cons_succ, List.set_cons_zero, eInt, oAddI, oSubI, oMulI, oDivI, oModI, oLtI, oGtI, oGeI, oEqI]
    refine ⟨_, rfl, ⟨by omega, by omega⟩, ?_⟩
    rw [Int.toNat_natCast]
    refine comp_pure (Q := fun _ d => IsL d) items (by rw [ilen]; exact Nat.le_trans hm (by decide)) (by rw [ilen]; omega) (fun k d e => ?_) fun xs hl hx => ?_
    · obtain ⟨hk, rfl⟩ := rng_get items e
      refine ⟨_, rfl, fun P hP => ?_⟩
      show Rn (eBin _ _ _ [some (.cell 0), some (.int m), _, some (.int way), some (.int first), _, some (.int k), none, none] _) _
      simp only [rn_sSeq, rn_sSet, rn_sRet, rn_sIf, rn_sNil, rn_sDrop, rn_sPar, rn_sUnp, rn_sPut, after_nx, after_rt, rn_eBin, rn_eUn, rn_eBl, rn_eC, rn_eCons, rn_eNil, rn_eTup, rn_eLst, rn_eCall, rn_ar, rn_eTru, rn_byT_bl, rn_bNot, rn_bOr, rn_bAnd, rn_eIf, rn_ret, rn_guard, rn_eMk, rn_eApp, rn_eDisp, rn_eSl, rn_ePart_none, rn_ePart_some, rn_eM1, rn_eJs_nil, rn_eJs_cons, rn_eComp, rn_sFor, eVar, List.getElem?_cons_succ, List.getElem?_cons_zero, List.set_cons_succ, List.set_cons_zero, eInt, oAddI, oSubI, oMulI, oDivI, oModI, oLtI, oGtI, oGeI, oEqI]
      refine ⟨?_, by decide, ?_⟩
      · have := logC (i := 3)
        have : ((k : Int)).natAbs.log2 < 200 := log31 (by omega) (by omega)
        omega
      · obtain ⟨d, e, hd⟩ := atI_in (ds := [D.str "set", D.str "mark", D.str "plus", D.str "not", D.str "told", D.str "quick", D.str "end", D.str "cell"]) (i := (first + 3 * (k : Int)) % 8) (Int.emod_nonneg _ (by decide)) (Int.emod_lt_of_pos _ (by decide))
        refine (ix_lst e).mpr (hP d ?_)
        simp only [List.mem_cons, List.not_mem_nil, or_false] at hd
        rcases hd with rfl | rfl | rfl | rfl | rfl | rfl | rfl | rfl <;> exact islb (by decide +kernel)
    · exact fin xs f2 (n12.trans (.refl (k := 18)) (by decide)) (hl.trans ilen) (all_of hx)
  · -- the stem: one to seven letters
    simp only [rn_iRg1]
    simp only [rn_sSeq, rn_sSet, rn_sRet, rn_sIf, rn_sNil, rn_sDrop, rn_sPar, rn_sUnp, rn_sPut, after_nx, after_rt, rn_eBin, rn_eUn, rn_eBl, rn_eC, rn_eCons, rn_eNil, rn_eTup, rn_eLst, rn_eCall, rn_ar, rn_eTru, rn_byT_bl, rn_bNot, rn_bOr, rn_bAnd, rn_eIf, rn_ret, rn_guard, rn_eMk, rn_eApp, rn_eDisp, rn_eSl, rn_ePart_none, rn_ePart_some, rn_eM1, rn_eJs_nil, rn_eJs_cons, rn_eComp, rn_sFor, eVar, List.getElem?_cons_succ, List.getElem?_cons_zero, List.set_cons_succ, List.set_cons_zero, eInt, oAddI, oSubI, oMulI, oDivI, oModI, oLtI, oGtI, oGeI, oEqI]
    refine ⟨rfl, sp_draw hS (hf.next n12 (i := 1) (by decide)) (by decide) fun many f3 n3 c0 c1 => ?_⟩
    have n13 : Nx f f3 3 := n12.trans n3 (by decide)
    obtain ⟨j, rfl⟩ := Int.eq_ofNat_of_zero_le c0
    simp only [rn_sSeq, rn_sSet, rn_sRet, rn_sIf, rn_sNil, rn_sDrop, rn_sPar, rn_sUnp, rn_sPut, after_nx, after_rt, rn_eBin, rn_eUn, rn_eBl, rn_eC, rn_eCons, rn_eNil, rn_eTup, rn_eLst, rn_eCall, rn_ar, rn_eTru, rn_byT_bl, rn_bNot, rn_bOr, rn_bAnd, rn_eIf, rn_ret, rn_guard, rn_eMk, rn_eApp, rn_eDisp, rn_eSl, rn_ePart_none, rn_ePart_some, rn_eM1, rn_eJs_nil, rn_eJs_cons, rn_eComp, rn_sFor, eVar, List.getElem?_cons_succ, List.getElem?_cons_zero, List.set_cons_succ, List.set_cons_zero, eInt, oAddI, oSubI, oMulI, oDivI, oModI, oLtI, oGtI, oGeI, oEqI]
    refine ⟨_, rfl, ⟨by omega, by omega⟩, ?_⟩
    have hj : ((1 : Int) + (j : Int)).toNat = j + 1 := by omega
    rw [hj]
    have it2 : (Src.rng 0 (j + 1)).items = some ((List.range (j + 1)).map fun k => D.int (0 + (k : Nat))) := rfl
    have il2 : ((List.range (j + 1)).map fun k => D.int (0 + (k : Nat))).length = j + 1 := by simp
    refine rn_for it2 (fun k ρ S => ∃ (st : Str) (g : Fd) (e6 : Option D), ρ = [some (.cell 0), some (.int m), some (.str "abcdefghijklmnopqrstuvwxyz"), some (.int way), some (.int first), none, e6, some (.str st), none] ∧ S = g.c :: R ∧ Nx f g (3 + k) ∧ st.length ≤ k ∧ ∀ c ∈ st.cps.toList, c < 128) ?_ ?_ 1000000 0 _ _ (by rw [il2]; omega) (Nat.zero_le _) ⟨Str.ofString "", f3, none, rfl, rfl, n13, by decide +kernel, by decide +kernel⟩
    · rintro k d ρ S e ⟨st, g, e6, rfl, rfl, ng, sl, sa⟩
      obtain ⟨hk, rfl⟩ := rng_get it2 e
      refine ⟨_, rfl, ?_⟩
      show Rn (sSeq _ _ [some (.cell 0), some (.int m), some (.str "abcdefghijklmnopqrstuvwxyz"), some (.int way), some (.int first), none, some (.int k), some (.str st), none] _) _
      simp only [rn_sSeq, rn_sSet, rn_sRet, rn_sIf, rn_sNil, rn_sDrop, rn_sPar, rn_sUnp, rn_sPut, after_nx, after_rt, rn_eBin, rn_eUn, rn_eBl, rn_eC, rn_eCons, rn_eNil, rn_eTup, rn_eLst, rn_eCall, rn_ar, rn_eTru, rn_byT_bl, rn_bNot, rn_bOr, rn_bAnd, rn_eIf, rn_ret, rn_guard, rn_eMk, rn_eApp, rn_eDisp, rn_eSl, rn_ePart_none, rn_ePart_some, rn_eM1, rn_eJs_nil, rn_eJs_cons, rn_eComp, rn_sFor, eVar, List.getElem?_cons_succ, List.getElem?_cons_zero, List.set_cons_succ, List.set_cons_zero, eInt, oAddI, oSubI, oMulI, oDivI, oModI, oLtI, oGtI, oGeI, oEqI]
      refine ⟨rfl, sp_draw hS (hf.next ng (i := 1) (by omega)) (by decide) fun v g' n' v0 v1 => ?_⟩
      refine ix_str (by rw [abc_len]; decide) v0 (by rw [abc_len]; omega) fun c hc => ?_
      simp only [oAddS]
      refine ⟨by show st.length + 1 ≤ line; exact Nat.le_trans (by omega : _ ≤ 100) (by decide), st ++ ⟨#[c]⟩, g', _, rfl, rfl, ng.trans n' (by omega), ?_, fun y hy => ?_⟩
      · rw [app_len]
        show st.length + 1 ≤ k + 1
        omega
      · rw [app_cps] at hy
        rcases List.mem_append.mp hy with h | h
        · exact sa y h
        · have : y = c := by simpa using h
          subst this
          exact abc_asc y hc
    · rintro ρ S ⟨st, g, e6, rfl, rfl, ng, sl, sa⟩
      rw [il2] at ng sl
      have ng : Nx f g 10 := ⟨ng.ds, ng.tot, by have := ng.few; omega⟩
      have sl : st.length ≤ 7 := by omega
      show Rn (sSeq _ _ [some (.cell 0), some (.int m), some (.str "abcdefghijklmnopqrstuvwxyz"), some (.int way), some (.int first), none, e6, some (.str st), none] _) _
      simp only [rn_sSeq, rn_sSet, rn_sRet, rn_sIf, rn_sNil, rn_sDrop, rn_sPar, rn_sUnp, rn_sPut, after_nx, after_rt, rn_eBin, rn_eUn, rn_eBl, rn_eC, rn_eCons, rn_eNil, rn_eTup, rn_eLst, rn_eCall, rn_ar, rn_eTru, rn_byT_bl, rn_bNot, rn_bOr, rn_bAnd, rn_eIf, rn_ret, rn_guard, rn_eMk, rn_eApp, rn_eDisp, rn_eSl, rn_ePart_none, rn_ePart_some, rn_eM1, rn_eJs_nil, rn_eJs_cons, rn_eComp, rn_sFor, eVar, List.getElem?_cons_succ, List.getElem?_cons_zero, List.set_cons_succ, List.set_cons_zero, eInt, oAddI, oSubI, oMulI, oDivI, oModI, oLtI, oGtI, oGeI, oEqI]
      refine ⟨fun _ => ?_, fun _ => ?_⟩
      · simp only [rn_iRg1]
        simp only [rn_sSeq, rn_sSet, rn_sRet, rn_sIf, rn_sNil, rn_sDrop, rn_sPar, rn_sUnp, rn_sPut, after_nx, after_rt, rn_eBin, rn_eUn, rn_eBl, rn_eC, rn_eCons, rn_eNil, rn_eTup, rn_eLst, rn_eCall, rn_ar, rn_eTru, rn_byT_bl, rn_bNot, rn_bOr, rn_bAnd, rn_eIf, rn_ret, rn_guard, rn_eMk, rn_eApp, rn_eDisp, rn_eSl, rn_ePart_none, rn_ePart_some, rn_eM1, rn_eJs_nil, rn_eJs_cons, rn_eComp, rn_sFor, eVar, List.getElem?_cons_succ, List.getElem?_cons_zero, List.set_cons_succ, List.set_cons_zero, eInt, oAddI, oSubI, oMulI, oDivI, oModI, oLtI, oGtI, oGeI, oEqI]
        refine ⟨_, rfl, ⟨by omega, by omega⟩, ?_⟩
        rw [Int.toNat_natCast]
        refine comp_pure (Q := fun _ d => IsL d) items (by rw [ilen]; exact Nat.le_trans hm (by decide)) (by rw [ilen]; omega) (fun k d e => ?_) fun xs hl hx => fin xs g (ng.trans (.refl (k := 10)) (by decide)) (hl.trans ilen) (all_of hx)
        obtain ⟨hk, rfl⟩ := rng_get items e
        refine ⟨_, rfl, fun P hP => ?_⟩
        show Rn (eSl _ _ _ [some (.cell 0), some (.int m), some (.str "abcdefghijklmnopqrstuvwxyz"), some (.int way), some (.int first), none, some (.int k), some (.str st), none] _) _
        simp only [rn_sSeq, rn_sSet, rn_sRet, rn_sIf, rn_sNil, rn_sDrop, rn_sPar, rn_sUnp, rn_sPut, after_nx, after_rt, rn_eBin, rn_eUn, rn_eBl, rn_eC, rn_eCons, rn_eNil, rn_eTup, rn_eLst, rn_eCall, rn_ar, rn_eTru, rn_byT_bl, rn_bNot, rn_bOr, rn_bAnd, rn_eIf, rn_ret, rn_guard, rn_eMk, rn_eApp, rn_eDisp, rn_eSl, rn_ePart_none, rn_ePart_some, rn_eM1, rn_eJs_nil, rn_eJs_cons, rn_eComp, rn_sFor, eVar, List.getElem?_cons_succ, List.getElem?_cons_zero, List.set_cons_succ, List.set_cons_zero, eInt, oAddI, oSubI, oMulI, oDivI, oModI, oLtI, oGtI, oGeI, oEqI]
        simp only [oAddS]
        have l8 : (Str.ofString "aaaaaaaa").length = 8 := by decide +kernel
        refine ⟨Nat.le_trans (by omega : _ ≤ 100) (by decide), by rw [app_len, l8]; exact Nat.le_trans (by omega : _ ≤ 100) (by decide), _, rfl, ?_⟩
        show Rn (guard' _ (ret _ _)) _
        rw [rn_guard, rn_ret, decide_eq_true_eq, app_len, app_len, l8]
        have a8 : ∀ c ∈ (Str.ofString "aaaaaaaa").cps.toList, c < 128 := by decide +kernel
        obtain ⟨q1, q2⟩ := cut_sub (z := st ++ st ++ Str.ofString "aaaaaaaa") (lo := none) (hi := some ((k : Int) + 1))
        refine ⟨Nat.le_trans (by omega : _ ≤ 100) (by decide), hP _ ⟨_, rfl, ?_, fun c hc => ?_⟩⟩
        · rw [app_len, app_len, l8] at q1
          omega
        · have := q2 c hc
          rw [app_cps, app_cps] at this
          simp only [List.mem_append] at this
          rcases this with (h | h) | h
          · exact sa c h
          · exact sa c h
          · exact a8 c h
      · refine ⟨by show (4 : Nat) ≤ line; decide, rfl, sp_pick hS (hf.next ng (i := 1) (by decide)) (by simp) rfl fun d g' n' hd => ?_⟩
        obtain ⟨z, rfl, z0, z1⟩ : ∃ z : Int, d = .int z ∧ 0 ≤ z ∧ z < 8 := by
          simp only [List.mem_cons, List.not_mem_nil, or_false] at hd
          rcases hd with rfl | rfl | rfl | rfl <;> exact ⟨_, rfl, by decide, by decide⟩
        simp only [rn_iRg1]
        simp only [rn_sSeq, rn_sSet, rn_sRet, rn_sIf, rn_sNil, rn_sDrop, rn_sPar, rn_sUnp, rn_sPut, after_nx, after_rt, rn_eBin, rn_eUn, rn_eBl, rn_eC, rn_eCons, rn_eNil, rn_eTup, rn_eLst, rn_eCall, rn_ar, rn_eTru, rn_byT_bl, rn_bNot, rn_bOr, rn_bAnd, rn_eIf, rn_ret, rn_guard, rn_eMk, rn_eApp, rn_eDisp, rn_eSl, rn_ePart_none, rn_ePart_some, rn_eM1, rn_eJs_nil, rn_eJs_cons, rn_eComp, rn_sFor, eVar, List.getElem?_cons_succ, List.getElem?_cons_zero, List.set_cons_succ, List.set_cons_zero, eInt, oAddI, oSubI, oMulI, oDivI, oModI, oLtI, oGtI, oGeI, oEqI]
        refine ⟨_, rfl, ⟨by omega, by omega⟩, ?_⟩
        rw [Int.toNat_natCast]
        refine comp_pure (Q := fun _ d => IsL d) items (by rw [ilen]; exact Nat.le_trans hm (by decide)) (by rw [ilen]; omega) (fun k d e => ?_) fun xs hl hx => fin xs g' (ng.trans n' (by decide)) (hl.trans ilen) (all_of hx)
        obtain ⟨hk, rfl⟩ := rng_get items e
        refine ⟨_, rfl, fun P hP => ?_⟩
        show Rn (eBin _ _ _ [some (.cell 0), some (.int m), some (.str "abcdefghijklmnopqrstuvwxyz"), some (.int way), some (.int first), none, some (.int k), some (.str st), some (.int z)] _) _
        simp only [rn_sSeq, rn_sSet, rn_sRet, rn_sIf, rn_sNil, rn_sDrop, rn_sPar, rn_sUnp, rn_sPut, after_nx, after_rt, rn_eBin, rn_eUn, rn_eBl, rn_eC, rn_eCons, rn_eNil, rn_eTup, rn_eLst, rn_eCall, rn_ar, rn_eTru, rn_byT_bl, rn_bNot, rn_bOr, rn_bAnd, rn_eIf, rn_ret, rn_guard, rn_eMk, rn_eApp, rn_eDisp, rn_eSl, rn_ePart_none, rn_ePart_some, rn_eM1, rn_eJs_nil, rn_eJs_cons, rn_eComp, rn_sFor, eVar, List.getElem?_cons_succ, List.getElem?_cons_zero, List.set_cons_succ, List.set_cons_zero, eInt, oAddI, oSubI, oMulI, oDivI, oModI, oLtI, oGtI, oGeI, oEqI]
        have k31 : ((k : Int)).natAbs.log2 < 200 := log31 (by omega) (by omega)
        have z31 : z.natAbs.log2 < 200 := log31 (by omega) (by omega)
        refine ⟨by omega, by decide, ix_str (by rw [abc_len]; decide) (Int.emod_nonneg _ (by decide)) (by rw [abc_len]; exact Int.emod_lt_of_pos _ (by decide)) fun c hc => ?_⟩
        simp only [oAddS]
        refine ⟨by show st.length + 1 ≤ line; exact Nat.le_trans (by omega : _ ≤ 100) (by decide), hP _ ⟨_, rfl, ?_, fun y hy => ?_⟩⟩
        · rw [app_len]
          show st.length + 1 ≤ 30
          omega
        · rw [app_cps] at hy
          rcases List.mem_append.mp hy with h | h
          · exact sa y h
          · have : y = c := by simpa using h
            subst this
            exact abc_asc y hc
end K06

namespace K06
open PySem PySem.Spec Pv
/-! ### comparisons -/
theorem oEqS {a b : Str} {S : Store} {P : D → Store → Prop} : Rn (oEq (.str a) (.str b) S) P ↔ P (.bl (decide (a = b))) S := by
  have e : pyEq S (.str a) (.str b) = some (decide (a = b)) := by simp [pyEq, scEq, D.sc, L2.scal]
  unfold oEq
  rw [e]
  exact rn_ret
theorem oNeS {a b : Str} {S : Store} {P : D → Store → Prop} : Rn (oNe (.str a) (.str b) S) P ↔ P (.bl (!decide (a = b))) S := by
  have e : pyEq S (.str a) (.str b) = some (decide (a = b)) := by simp [pyEq, scEq, D.sc, L2.scal]
  unfold oNe
  rw [e]
  exact rn_ret
theorem Lbl.ok {s : Str} (h : Lbl s) : PyData.strOk s = true := by
  unfold PyData.strOk
  rw [Array.all_eq_true']
  intro c hc
  have := h.asc c (by simpa using hc)
  simp only [decide_eq_true_eq]
  omega
theorem pys_lbl : ∀ {ls : List D}, (∀ d ∈ ls, IsL d) → ∃ ps, D.pys ls = some ps ∧ PyData.canLayAll0 ps = true ∧ PyData.depthAll ps = 0 ∧ ps.length = ls.length
  | [], _ => ⟨[], rfl, rfl, rfl, rfl⟩
  | d :: ls, h => by
    obtain ⟨ps, e, h1, h2, h3⟩ := pys_lbl (ls := ls) fun x m => h x (List.mem_cons_of_mem _ m)
    obtain ⟨s, rfl, hs⟩ := h d (List.mem_cons_self ..)
    refine ⟨.str s :: ps, by simp only [D.pys, D.py0, e], ?_, ?_, by simp [h3]⟩
    · simp only [PyData.canLayAll0, PyData.canLay0, hs.ok, h1, Bool.and_self]
    · simp only [PyData.depthAll, PyData.depth, h2, Nat.max_self]
theorem oNe_nil {ls : List D} {S : Store} {P : D → Store → Prop} (h : ∀ d ∈ ls, IsL d) : Rn (oNe (.lst ls) (.lst []) S) P ↔ P (.bl (!ls.isEmpty)) S := by
  obtain ⟨ps, e, h1, h2, h3⟩ := pys_lbl h
  have sh : ∀ qs, PyData.canLayAll0 qs = true → PyData.depthAll qs = 0 → SeqAt.shaped (.list qs) = true := fun qs a b => by
    unfold SeqAt.shaped
    simp only [PyData.canLay0, a, PyData.depth, b, Bool.true_and, decide_eq_true_eq]
    decide
  have q : pyEq S (.lst ls) (.lst []) = some ls.isEmpty := by
    have e1 : scEq (.lst ls) (.lst []) = none := rfl
    have e2 : D.py S (.lst ls) = some (.list ps) := by
      show D.py0 (.lst ls) = _
      simp only [D.py0, e]
    have e3 : D.py S (.lst []) = some (.list []) := rfl
    unfold pyEq
    rw [e1, e2, e3]
    simp only [sh ps h1 h2, sh [] rfl rfl, Bool.and_self, if_true]
    cases ls with
    | nil =>
      cases ps with
      | nil => rfl
      | cons _ _ => simp at h3
    | cons _ _ =>
      cases ps with
      | nil => simp at h3
      | cons _ _ => rfl
  unfold oNe
  rw [q]
  exact rn_ret
/-! ### what can be written -/
mutual
def txt : D → Str
  | .int i => toString i
  | .str s => s
  | .tup ds => (match txts ds with
    | w :: ws => w ++ "(" ++ Txt.join "," ws ++ ")"
    | [] => Str.empty)
  | _ => Str.empty
def txts : List D → List Str
  | [] => []
  | d :: ds => txt d :: txts ds
end
/-- of depth n at most -/
inductive Tx : Nat → D → Prop
  | int {n : Nat} {i : Int} : 0 ≤ i → i < 10 ^ 60 → Tx n (.int i)
  | str {n : Nat} {s : Str} : Lbl s → Tx n (.str s)
  | tup {n : Nat} {w : Str} {ds : List D} : Lbl w → (∀ d ∈ ds, Tx n d) → Tx (n + 1) (.tup (.str w :: ds))
theorem Tx.mono {n m : Nat} {d : D} (h : Tx n d) (l : n ≤ m) : Tx m d := by
  induction h generalizing m with
  | int h1 h2 => exact .int h1 h2
  | str h => exact .str h
  | @tup n w ds hw _ ih =>
    obtain ⟨k, rfl⟩ : ∃ k, m = k + 1 := ⟨m - 1, by omega⟩
    exact .tup hw fun d hd => ih d hd (by omega)
theorem Tx.pu {n : Nat} {d : D} (h : Tx n d) : d.pu = true := by
  induction h with
  | int => rfl
  | str => rfl
  | @tup n w ds _ _ ih =>
    show D.pus (.str w :: ds) = true
    exact pus_iff.mpr fun d hd => (List.mem_cons.mp hd).elim (fun e => by rw [e]; rfl) (ih d)
theorem Tx.of {n : Nat} {d : D} (h : IsL d) : Tx n d := by
  obtain ⟨s, rfl, hs⟩ := h
  exact .str hs
theorem one_len (s : Str) : (Txt.join "," [s]).length = s.length := rfl
theorem two_len (a b : Str) : (Txt.join "," [a, b]).length = a.length + 1 + b.length := by
  show (a.cps ++ (Str.ofString ",").cps ++ b.cps).size = _
  rw [Array.size_append, Array.size_append]
  rfl
theorem txt1_len (w : Str) (a : D) : (txt (.tup [.str w, a])).length = w.length + 2 + (txt a).length := by
  show (w ++ Str.ofString "(" ++ Txt.join "," [txt a] ++ Str.ofString ")").length = _
  rw [app_len, app_len, app_len, one_len]
  show w.length + 1 + (txt a).length + 1 = _
  omega
theorem txt2_len (w : Str) (a b : D) : (txt (.tup [.str w, a, b])).length = w.length + 3 + (txt a).length + (txt b).length := by
  show (w ++ Str.ofString "(" ++ Txt.join "," [txt a, txt b] ++ Str.ofString ")").length = _
  rw [app_len, app_len, app_len, two_len]
  show w.length + 1 + ((txt a).length + 1 + (txt b).length) + 1 = _
  omega
/-- a digit's text -/
theorem dig_len {v : Int} (h0 : 0 ≤ v) (h1 : v < 1000) : (txt (.int v)).length ≤ 3 := by
  obtain ⟨n, rfl⟩ := Int.eq_ofNat_of_zero_le h0
  have : ∀ n : Nat, n < 1000 → (txt (.int (n : Int))).length ≤ 3 := by decide +kernel
  exact this n (by omega)
/-- the words of sums -/
theorem sum_words {d : D} (h : d ∈ [D.str "plus", D.str "minus", D.str "times"]) : ∃ w, d = .str w ∧ Lbl w ∧ w.length ≤ 5 := by
  simp only [List.mem_cons, List.not_mem_nil, or_false] at h
  rcases h with rfl | rfl | rfl <;> exact ⟨_, rfl, lbl_of (by decide +kernel), by decide +kernel⟩
def cS : Nat → Nat
  | 0 => 2
  | n + 1 => 2 + 2 * cS n
def lS : Nat → Nat
  | 0 => 30
  | n + 1 => 8 + 2 * lS n
theorem cS_ge (n : Nat) : 2 ≤ cS n := by cases n <;> simp only [cS] <;> omega
theorem lS_ge (n : Nat) : 30 ≤ lS n := by
  induction n with
  | zero => exact Nat.le_refl _
  | succ n ih => simp only [lS]; omega
theorem sp_sum {R : Store} {ls : List D} (hS : okS R) (hls : ∀ d ∈ ls, IsL d) : ∀ (n k : Nat) (f : Fd) (P : D → Store → Prop), n < k → n < 100 → Can f (cS n) → (∀ (d : D) (f' : Fd), Nx f f' (cS n) → Tx n d → (txt d).length ≤ lS n → P d (f'.c :: R)) →
    Rn (F_law_sum k [.cell 0, .lst ls, .int n] (f.c :: R)) P := by
  have base : ∀ (n : Nat) (k : Nat) (f g : Fd) (way : Int) (P : D → Store → Prop), Nx f g 1 → 0 ≤ way → Can f (cS n) → (∀ (d : D) (f' : Fd), Nx f f' (cS n) → Tx n d → (txt d).length ≤ lS n → P d (f'.c :: R)) →
      Rn (sSeq (sIf (bAnd (eTru (eBin oNe (eVar 1) (eLst eNil))) (eTru (eBin oEq (eBin oMod (eBl oInt (eCons (eVar 3) eNil)) (eC (.int 2))) (eC (.int 1))))) (sSeq (sRet (eCall (ar 2 F_law_pick) [] (eCons (eVar 0) (eCons (eVar 1) eNil)))) sNil) sNil)
        (sSeq (sRet (eCall (ar 2 F_law_draw) [] (eCons (eVar 0) (eCons (eC (.int 10)) eNil)))) sNil) [some (.cell 0), some (.lst ls), some (.int n), some (.int way), none] (g.c :: R)) fun fl S1 => Rn (endF false (f.c :: R).length (.ok fl, S1)) P := by
    intro n k f g way P n1 w0 hf p
    have c2 := cS_ge n
    have l30 := lS_ge n
    have fin : ∀ (d : D) (g' : Fd), Nx g g' 1 → Tx n d → (txt d).length ≤ lS n → Rn (endF false (f.c :: R).length (.ok (.rt d), g'.c :: R)) P := fun d g' n' t l => end_dr hS t.pu (p d g' (n1.trans n' (by omega)) t l)
    have last : Rn (F_law_draw [.cell 0, .int 10] (g.c :: R)) fun d S => Rn (endF false (f.c :: R).length (.ok (.rt d), S)) P :=
      sp_draw hS (hf.next n1 (i := 1) (by omega)) (by decide) fun v g' n' v0 v1 => fin _ g' n' (.int v0 (by omega)) (Nat.le_trans (dig_len v0 (by omega)) (by omega))
    simp only [rn_sSeq, rn_sSet, rn_sRet, rn_sIf, rn_sNil, rn_sDrop, rn_sPar, rn_sUnp, rn_sPut, after_nx, after_rt, rn_eBin, rn_eUn, rn_eBl, rn_eC, rn_eCons, rn_eNil, rn_eTup, rn_eLst, rn_eCall, rn_ar, rn_eTru, rn_byT_bl, rn_bNot, rn_bOr, rn_bAnd, rn_eIf, rn_ret, rn_guard, rn_eMk, rn_eApp, rn_eDisp, rn_eSl, rn_ePart_none, rn_ePart_some, rn_eM1, rn_eJs_nil, rn_eJs_cons, rn_eComp, rn_sFor, eVar, List.getElem?_cons_succ, List.getElem?_cons_zero, List.set_cons_succ, List.set_cons_zero, eInt, oAddI, oSubI, oMulI, oDivI, oModI, oLtI, oGtI, oGeI, oEqI]
    simp only [oNe_nil hls]
    simp only [rn_sSeq, rn_sSet, rn_sRet, rn_sIf, rn_sNil, rn_sDrop, rn_sPar, rn_sUnp, rn_sPut, after_nx, after_rt, rn_eBin, rn_eUn, rn_eBl, rn_eC, rn_eCons, rn_eNil, rn_eTup, rn_eLst, rn_eCall, rn_ar, rn_eTru, rn_byT_bl, rn_bNot, rn_bOr, rn_bAnd, rn_eIf, rn_ret, rn_guard, rn_eMk, rn_eApp, rn_eDisp, rn_eSl, rn_ePart_none, rn_ePart_some, rn_eM1, rn_eJs_nil, rn_eJs_cons, rn_eComp, rn_sFor, eVar, List.getElem?_cons_succ, List.getElem?_cons_zero, List.set_cons_succ, List.set_cons_zero, eInt, oAddI, oSubI, oMulI, oDivI, oModI, oLtI, oGtI, oGeI, oEqI]
    refine ⟨by decide, fun h => ?_, fun _ => ⟨fun h => (nomatch h), fun _ => ⟨rfl, last⟩⟩⟩
    refine ⟨by decide, fun _ => ⟨rfl, sp_pick hS (hf.next n1 (i := 1) (by omega)) (fun e => by rw [e] at h; cases h) (pus_iff.mpr fun d m => (hls d m).pu) fun d g' n' hd => ?_⟩, fun _ => ⟨rfl, last⟩⟩
    obtain ⟨s, rfl, hs⟩ := hls d hd
    exact fin _ g' n' (.str hs) (Nat.le_trans hs.len l30)
  intro n
  induction n with
  | zero =>
    intro k f P hk _ hf p
    obtain ⟨k, rfl⟩ : ∃ j, k = j + 1 := ⟨k - 1, by omega⟩
    rw [F_law_sum, rn_defF]
    show Rn (B_law_sum _ [some (.cell 0), some (.lst ls), some (.int 0), none, none] (f.c :: R)) _
    unfold B_law_sum
    rw [rn_sSeq]
    simp only [rn_sSet, rn_eCall, rn_ar, rn_eCons, rn_eNil, rn_eC, eVar, List.getElem?_cons_zero, rn_ret]
    refine ⟨rfl, sp_draw hS (hf.le (by decide)) (by decide) fun way f1 n1 w0 w1 => ?_⟩
    rw [after_nx, rn_sSeq]
    simp only [rn_sIf, rn_bAnd, rn_eTru, rn_eBin, rn_eC, eVar, List.set_cons_succ, List.set_cons_zero, List.getElem?_cons_succ, List.getElem?_cons_zero, rn_ret, oGtI, rn_byT_bl, rn_sNil]
    refine ⟨fun h => absurd h (by decide), fun _ => ⟨fun h => (nomatch h), fun _ => ?_⟩⟩
    exact base 0 k f f1 way P n1 w0 hf p
  | succ n ih =>
    intro k f P hk hn hf p
    obtain ⟨k, rfl⟩ : ∃ j, k = j + 1 := ⟨k - 1, by omega⟩
    rw [F_law_sum, rn_defF]
    show Rn (B_law_sum _ [some (.cell 0), some (.lst ls), some (.int ((n + 1 : Nat) : Int)), none, none] (f.c :: R)) _
    unfold B_law_sum
    rw [rn_sSeq]
    simp only [rn_sSet, rn_eCall, rn_ar, rn_eCons, rn_eNil, rn_eC, eVar, List.getElem?_cons_zero, rn_ret]
    refine ⟨rfl, sp_draw hS (hf.le (by simp only [cS]; omega)) (by decide) fun way f1 n1 w0 w1 => ?_⟩
    rw [after_nx, rn_sSeq]
    simp only [rn_sIf, rn_bAnd, rn_eTru, rn_eBin, rn_eC, eVar, List.set_cons_succ, List.set_cons_zero, List.getElem?_cons_succ, List.getElem?_cons_zero, rn_ret, oGtI, rn_byT_bl, rn_sNil]
    have cs : cS (n + 1) = 2 + 2 * cS n := rfl
    have e1 : ((n + 1 : Nat) : Int) - 1 = (n : Int) := by omega
    refine ⟨fun _ => ⟨fun _ => ?_, fun _ => base (n + 1) k f f1 way P n1 w0 hf p⟩, fun h => absurd h (by simp)⟩
    simp only [rn_sSeq, rn_sSet, rn_sRet, rn_sIf, rn_sNil, rn_sDrop, rn_sPar, rn_sUnp, rn_sPut, after_nx, after_rt, rn_eBin, rn_eUn, rn_eBl, rn_eC, rn_eCons, rn_eNil, rn_eTup, rn_eLst, rn_eCall, rn_ar, rn_eTru, rn_byT_bl, rn_bNot, rn_bOr, rn_bAnd, rn_eIf, rn_ret, rn_guard, rn_eMk, rn_eApp, rn_eDisp, rn_eSl, rn_ePart_none, rn_ePart_some, rn_eM1, rn_eJs_nil, rn_eJs_cons, rn_eComp, rn_sFor, eVar, List.getElem?_cons_succ, List.getElem?_cons_zero, List.set_cons_succ, List.set_cons_zero, eInt, oAddI, oSubI, oMulI, oDivI, oModI, oLtI, oGtI, oGeI, oEqI]
    refine ⟨by decide, rfl, sp_pick hS (hf.next n1 (i := 1) (by omega)) (by simp) rfl fun d f2 n2 hd => ?_⟩
    obtain ⟨w, rfl, hw, lw⟩ := sum_words hd
    have n12 := n1.trans n2 (k := 2) (by decide)
    rw [e1]
    refine ⟨rfl, ih k f2 _ (by omega) (by omega) (hf.next n12 (by omega)) fun a f3 n3 ta la => ⟨rfl, ih k f3 _ (by omega) (by omega) (hf.next (n12.trans n3 (Nat.le_refl _)) (by omega)) fun b f4 n4 tb lb => ?_⟩⟩
    refine ⟨by show (3 : Nat) ≤ line; decide, ?_⟩
    have t : Tx (n + 1) (.tup [.str w, a, b]) := .tup hw fun d hd => by
      simp only [List.mem_cons, List.not_mem_nil, or_false] at hd
      rcases hd with rfl | rfl
      · exact ta
      · exact tb
    refine end_dr hS t.pu (p _ f4 ((n12.trans n3 (Nat.le_refl _)).trans n4 (by omega)) t ?_)
    rw [txt2_len]
    simp only [lS]
    omega
end K06

namespace K06
open PySem PySem.Spec Pv
def cQ : Nat → Nat
  | 0 => 2 + 2 * cS 0
  | n + 1 => 2 + 2 * cS (n + 1) + cQ n
def lQ : Nat → Nat
  | 0 => 8 + 2 * lS 0
  | n + 1 => 8 + 2 * lS (n + 1) + lQ n
theorem ask_words {d : D} (h : d ∈ [D.str "less", D.str "equal"]) : ∃ w, d = .str w ∧ Lbl w ∧ w.length ≤ 5 := by
  simp only [List.mem_cons, List.not_mem_nil, or_false] at h
  rcases h with rfl | rfl <;> exact ⟨_, rfl, lbl_of (by decide +kernel), by decide +kernel⟩
theorem tx2 {n : Nat} {w : Str} {a b : D} (hw : Lbl w) (ha : Tx n a) (hb : Tx n b) : Tx (n + 1) (.tup [.str w, a, b]) := .tup hw fun d hd => by
  simp only [List.mem_cons, List.not_mem_nil, or_false] at hd
  rcases hd with rfl | rfl
  · exact ha
  · exact hb
theorem tx1 {n : Nat} {w : Str} {a : D} (hw : Lbl w) (ha : Tx n a) : Tx (n + 1) (.tup [.str w, a]) := .tup hw fun d hd => by
  simp only [List.mem_cons, List.not_mem_nil, or_false] at hd
  rcases hd with rfl
  exact ha
theorem sp_question {R : Store} {ls : List D} (hS : okS R) (hls : ∀ d ∈ ls, IsL d) : ∀ (n k : Nat) (f : Fd) (P : D → Store → Prop), n < k → n < 16 → Can f (cQ n) → (∀ (d : D) (f' : Fd), Nx f f' (cQ n) → Tx (n + 1) d → (txt d).length ≤ lQ n → P d (f'.c :: R)) →
    Rn (F_law_question k [.cell 0, .lst ls, .int n] (f.c :: R)) P := by
  have base : ∀ (n : Nat) (f g : Fd) (P : D → Store → Prop), Nx f g 1 → n < 16 → Can f (2 + 2 * cS n) → (∀ (d : D) (f' : Fd), Nx f f' (2 + 2 * cS n) → Tx (n + 1) d → (txt d).length ≤ 8 + 2 * lS n → P d (f'.c :: R)) →
      Rn (sSeq (sSet 3 (eCall (ar 2 F_law_pick) [] (eCons (eVar 0) (eCons (eLst (eCons (eC (.str "less")) (eCons (eC (.str "equal")) eNil))) eNil))))
        (sSeq (sRet (eTup (eCons (eVar 3) (eCons (eCall (ar 3 (F_law_sum 16)) [] (eCons (eVar 0) (eCons (eVar 1) (eCons (eVar 2) eNil)))) (eCons (eCall (ar 3 (F_law_sum 16)) [] (eCons (eVar 0) (eCons (eVar 1) (eCons (eVar 2) eNil)))) eNil))))) sNil) [some (.cell 0), some (.lst ls), some (.int n), none] (g.c :: R)) fun fl S1 => Rn (endF false (f.c :: R).length (.ok fl, S1)) P := by
    intro n f g P n1 hn hf p
    simp only [rn_sSeq, rn_sSet, rn_sRet, rn_sIf, rn_sNil, rn_sDrop, rn_sPar, rn_sUnp, rn_sPut, after_nx, after_rt, rn_eBin, rn_eUn, rn_eBl, rn_eC, rn_eCons, rn_eNil, rn_eTup, rn_eLst, rn_eCall, rn_ar, rn_eTru, rn_byT_bl, rn_bNot, rn_bOr, rn_bAnd, rn_eIf, rn_ret, rn_guard, rn_eMk, rn_eApp, rn_eDisp, rn_eSl, rn_ePart_none, rn_ePart_some, rn_eM1, rn_eJs_nil, rn_eJs_cons, rn_eComp, rn_sFor, eVar, List.getElem?_cons_succ, List.getElem?_cons_zero, List.set_cons_succ, List.set_cons_zero, eInt, oAddI, oSubI, oMulI, oDivI, oModI, oLtI, oGtI, oGeI, oEqI]
    refine ⟨by decide, rfl, sp_pick hS (hf.next n1 (i := 1) (by omega)) (by simp) rfl fun d f2 n2 hd => ?_⟩
    obtain ⟨w, rfl, hw, lw⟩ := ask_words hd
    have n12 := n1.trans n2 (k := 2) (by decide)
    refine ⟨rfl, sp_sum hS hls n 16 f2 _ hn (by omega) (hf.next n12 (by omega)) fun a f3 n3 ta la => ⟨rfl, sp_sum hS hls n 16 f3 _ hn (by omega) (hf.next (n12.trans n3 (Nat.le_refl _)) (by omega)) fun b f4 n4 tb lb => ?_⟩⟩
    refine ⟨by show (3 : Nat) ≤ line; decide, ?_⟩
    have t := tx2 hw ta tb
    refine end_dr hS t.pu (p _ f4 ((n12.trans n3 (Nat.le_refl _)).trans n4 (by omega)) t ?_)
    rw [txt2_len]
    omega
  intro n
  induction n with
  | zero =>
    intro k f P hk hn hf p
    obtain ⟨k, rfl⟩ : ∃ j, k = j + 1 := ⟨k - 1, by omega⟩
    rw [F_law_question, rn_defF]
    show Rn (B_law_question _ [some (.cell 0), some (.lst ls), some (.int 0), none] (f.c :: R)) _
    unfold B_law_question
    rw [rn_sSeq]
    simp only [rn_sIf, rn_bAnd, rn_eTru, rn_eBin, rn_eC, eVar, List.getElem?_cons_succ, List.getElem?_cons_zero, rn_ret, oGtI, rn_byT_bl, rn_sNil]
    refine ⟨fun h => absurd h (by decide), fun _ => ⟨fun h => (nomatch h), fun _ => ?_⟩⟩
    exact base 0 f f P .refl (by decide) hf fun d f' n' t l => p d f' n' t l
  | succ n ih =>
    intro k f P hk hn hf p
    obtain ⟨k, rfl⟩ : ∃ j, k = j + 1 := ⟨k - 1, by omega⟩
    rw [F_law_question, rn_defF]
    show Rn (B_law_question _ [some (.cell 0), some (.lst ls), some (.int ((n + 1 : Nat) : Int)), none] (f.c :: R)) _
    unfold B_law_question
    rw [rn_sSeq]
    simp only [rn_sIf, rn_bAnd, rn_eTru, rn_eBin, rn_eC, eVar, List.getElem?_cons_succ, List.getElem?_cons_zero, rn_ret, oGtI, rn_byT_bl, rn_sNil, rn_eCall, rn_ar, rn_eCons, rn_eNil]
    have cq : cQ (n + 1) = 2 + 2 * cS (n + 1) + cQ n := rfl
    have e1 : ((n + 1 : Nat) : Int) - 1 = (n : Int) := by omega
    refine ⟨fun _ => ⟨rfl, sp_draw hS (hf.le (by omega)) (by decide) fun v f1 n1 v0 v1 => ?_⟩, fun h => absurd h (by simp)⟩
    simp only [oEqI, rn_byT_bl, rn_ret]
    refine ⟨fun _ => ?_, fun _ => base (n + 1) f f1 P n1 hn (hf.le (by omega)) fun d f' n' t l => p d f' ⟨n'.ds, n'.tot, by have := n'.few; omega⟩ t (by simp only [lQ]; omega)⟩
    simp only [rn_sSeq, rn_sSet, rn_sRet, rn_sIf, rn_sNil, rn_sDrop, rn_sPar, rn_sUnp, rn_sPut, after_nx, after_rt, rn_eBin, rn_eUn, rn_eBl, rn_eC, rn_eCons, rn_eNil, rn_eTup, rn_eLst, rn_eCall, rn_ar, rn_eTru, rn_byT_bl, rn_bNot, rn_bOr, rn_bAnd, rn_eIf, rn_ret, rn_guard, rn_eMk, rn_eApp, rn_eDisp, rn_eSl, rn_ePart_none, rn_ePart_some, rn_eM1, rn_eJs_nil, rn_eJs_cons, rn_eComp, rn_sFor, eVar, List.getElem?_cons_succ, List.getElem?_cons_zero, List.set_cons_succ, List.set_cons_zero, eInt, oAddI, oSubI, oMulI, oDivI, oModI, oLtI, oGtI, oGeI, oEqI]
    rw [e1]
    refine ⟨rfl, ih k f1 _ (by omega) (by omega) (hf.next n1 (by omega)) fun a f2 n2 ta la => ?_⟩
    refine ⟨by show (2 : Nat) ≤ line; decide, ?_⟩
    have t := tx1 (w := "not") (lbl_of (by decide +kernel)) ta
    refine end_dr hS t.pu (p _ f2 (n1.trans n2 (by omega)) t ?_)
    rw [txt1_len]
    have : (Str.ofString "not").length = 3 := by decide +kernel
    simp only [lQ]
    omega
/-! ### instructions, cells -/
/-- a row of words: its first a word, all can be written, none too long -/
def IsRow (d : D) : Prop := ∃ w ds, d = .tup (.str w :: ds) ∧ Lbl w ∧ ds.length ≤ 4 ∧ ∀ x ∈ ds, Tx 5 x ∧ (txt x).length ≤ 600
theorem IsRow.pu {d : D} (h : IsRow d) : d.pu = true := by
  obtain ⟨w, ds, rfl, _, _, h⟩ := h
  exact pus_iff.mpr fun d hd => (List.mem_cons.mp hd).elim (fun e => by rw [e]; rfl) fun m => (h d m).1.pu
theorem num_len {i : Int} (h0 : 0 ≤ i) (h1 : i < 10 ^ 60) : (txt (.int i)).length ≤ 61 := by
  show (Str.ofString (toString i)).length ≤ 61
  rw [ofString_length]
  exact int_text_length_le10 (k := 60) (by decide) (by omega)
theorem tx_num {i : Int} (h0 : 0 ≤ i) (h1 : i < 10 ^ 60) : Tx 5 (.int i) ∧ (txt (.int i)).length ≤ 600 := ⟨.int h0 h1, Nat.le_trans (num_len h0 h1) (by decide)⟩
theorem tx_lbl {d : D} (h : IsL d) : Tx 5 d ∧ (txt d).length ≤ 600 := by
  obtain ⟨s, rfl, hs⟩ := h
  exact ⟨.str hs, Nat.le_trans hs.len (by decide)⟩
def deedWords (e : Bool) : List D := [D.str "jump", .str "unless", .str "mark", .str "off", .str "end"] ++ if e then [] else [.str "set", .str "ask", .str "set"]
theorem deed_words {e : Bool} {d : D} (h : d ∈ deedWords e) : ∃ w, d = .str w ∧ Lbl w := by
  have key : ∀ e, ∀ d ∈ deedWords e, IsL d := by
    intro e d h
    cases e <;> simp only [deedWords, List.mem_append, List.mem_cons, List.not_mem_nil, or_false, if_true, Bool.false_eq_true, if_false] at h
    · rcases h with (rfl | rfl | rfl | rfl | rfl) | (rfl | rfl | rfl) <;> exact islb (by decide +kernel)
    · rcases h with rfl | rfl | rfl | rfl | rfl <;> exact islb (by decide +kernel)
  exact key e d h
theorem deed_set {e : Bool} {w : Str} (h : D.str w ∈ deedWords e) (hw : w = "set" ∨ w = "ask") : e = false := by
  cases e with
  | false => rfl
  | true =>
    exfalso
    simp only [deedWords, List.mem_append, List.mem_cons, List.not_mem_nil, or_false, if_true, D.str.injEq] at h
    rcases hw with rfl | rfl <;> rcases h with h | h | h | h | h <;> revert h <;> decide +kernel
theorem oAddL {a b : List D} {S : Store} {P : D → Store → Prop} : Rn (oAdd (.lst a) (.lst b) S) P ↔ a.length + b.length ≤ line ∧ P (.lst (a ++ b)) S := by
  show Rn (guard' _ (ret _ _)) _ ↔ _
  rw [rn_guard, rn_ret, decide_eq_true_eq]
/-- how many numbers an instruction asks for -/
def cD : Nat := 3 + cQ 2
theorem sp_deed {R : Store} {ls : List D} {size : Int} (hS : okS R) (hls : ∀ d ∈ ls, IsL d) (s0 : 0 < size) (s1 : size ≤ 100000) {f : Fd} (hf : Can f cD) {P : D → Store → Prop} (p : ∀ (d : D) (f' : Fd), Nx f f' cD → IsRow d → P d (f'.c :: R)) :
    Rn (F_law_deed [.cell 0, .lst ls, .int size] (f.c :: R)) P := by
  rw [F_law_deed, rn_defF]
  show Rn (B_law_deed [some (.cell 0), some (.lst ls), some (.int size), none, none, none, none] (f.c :: R)) _
  unfold B_law_deed
  have cd : cD = 3 + cQ 2 := rfl
  have cq : cQ 2 = 2 + 2 * cS 2 + (2 + 2 * cS 1 + (2 + 2 * cS 0)) := rfl
  have fin : ∀ (w : Str) (ds : List D) (g : Fd), Nx f g cD → Lbl w → ds.length ≤ 4 → (∀ x ∈ ds, Tx 5 x ∧ (txt x).length ≤ 600) → Rn (endF false (f.c :: R).length (.ok (.rt (.tup (.str w :: ds))), g.c :: R)) P := fun w ds g n hw hl hd =>
    have h : IsRow (.tup (.str w :: ds)) := ⟨w, ds, rfl, hw, hl, hd⟩
    end_dr hS h.pu (p _ g n h)
  rw [rn_sSeq]
  refine Rn.imp (P := fun fl S => fl = Fl.nx [some (.cell 0), some (.lst ls), some (.int size), some (.lst (deedWords ls.isEmpty)), none, none, none] ∧ S = f.c :: R) ?_ ?_
  · simp only [rn_sSeq, rn_sSet, rn_sRet, rn_sIf, rn_sNil, rn_sDrop, rn_sPar, rn_sUnp, rn_sPut, after_nx, after_rt, rn_eBin, rn_eUn, rn_eBl, rn_eC, rn_eCons, rn_eNil, rn_eTup, rn_eLst, rn_eCall, rn_ar, rn_eTru, rn_byT_bl, rn_bNot, rn_bOr, rn_bAnd, rn_eIf, rn_ret, rn_guard, rn_eMk, rn_eApp, rn_eDisp, rn_eSl, rn_ePart_none, rn_ePart_some, rn_eM1, rn_eJs_nil, rn_eJs_cons, rn_eComp, rn_sFor, eVar, List.getElem?_cons_succ, List.getElem?_cons_zero, List.set_cons_succ, List.set_cons_zero, eInt, oAddI, oSubI, oMulI, oDivI, oModI, oLtI, oGtI, oGeI, oEqI]
    simp only [oNe_nil hls]
    simp only [rn_sSeq, rn_sSet, rn_sRet, rn_sIf, rn_sNil, rn_sDrop, rn_sPar, rn_sUnp, rn_sPut, after_nx, after_rt, rn_eBin, rn_eUn, rn_eBl, rn_eC, rn_eCons, rn_eNil, rn_eTup, rn_eLst, rn_eCall, rn_ar, rn_eTru, rn_byT_bl, rn_bNot, rn_bOr, rn_bAnd, rn_eIf, rn_ret, rn_guard, rn_eMk, rn_eApp, rn_eDisp, rn_eSl, rn_ePart_none, rn_ePart_some, rn_eM1, rn_eJs_nil, rn_eJs_cons, rn_eComp, rn_sFor, eVar, List.getElem?_cons_succ, List.getElem?_cons_zero, List.set_cons_succ, List.set_cons_zero, eInt, oAddI, oSubI, oMulI, oDivI, oModI, oLtI, oGtI, oGeI, oEqI]
    refine ⟨by show (5 : Nat) ≤ line; decide, by show (0 : Nat) ≤ line; decide, fun h => ⟨by show (3 : Nat) ≤ line; decide, ?_⟩, fun h => ?_⟩
    · have e : ls.isEmpty = false := by simpa using h
      rw [e]
      exact oAddL.mpr ⟨by show (8 : Nat) ≤ line; decide, rfl, rfl⟩
    · have e : ls.isEmpty = true := by simpa using h
      rw [e]
      exact ⟨by show (0 : Nat) ≤ line; decide, oAddL.mpr ⟨by show (5 : Nat) ≤ line; decide, rfl, rfl⟩⟩
  rintro _ _ ⟨rfl, rfl⟩
  have ne : deedWords ls.isEmpty ≠ [] := by
    cases ls.isEmpty <;> simp [deedWords]
  rw [after_nx, rn_sSeq]
  simp only [rn_sPar, rn_eCons, rn_eNil, rn_eCall, rn_ar, rn_eBin, rn_eC, eVar, List.getElem?_cons_succ, List.getElem?_cons_zero, rn_ret]
  refine ⟨rfl, sp_pick hS (hf.le (by omega)) ne (pus_iff.mpr fun d m => (by obtain ⟨w, rfl, _⟩ := deed_words m; rfl)) fun d f1 n1 hd => ⟨rfl, sp_draw hS (hf.next n1 (i := 1) (by omega)) (by decide) fun v f2 n2 v0 v1 => ?_⟩⟩
  obtain ⟨w, rfl, hw⟩ := deed_words hd
  have n12 := n1.trans n2 (k := 2) (by decide)
  have price := tx_num (i := 1 + v) (by omega) (by omega)
  have one : ∀ {a : D}, (Tx 5 a ∧ (txt a).length ≤ 600) → ∀ x ∈ [a], Tx 5 x ∧ (txt x).length ≤ 600 := fun h x m => by
    rw [List.mem_singleton.mp m]
    exact h
  simp only [oAddI]
  refine ⟨_, rfl, ?_⟩
  have up : ∀ {a : D} {n l : Nat}, Tx n a → (txt a).length ≤ l → n ≤ 5 → l ≤ 600 → Tx 5 a ∧ (txt a).length ≤ 600 := fun t l h1 h2 => ⟨t.mono h1, Nat.le_trans l h2⟩
  rw [after_nx, rn_sSeq]
  simp only [rn_sIf, rn_eTru, rn_eBin, rn_eC, eVar, List.getElem?_cons_succ, List.getElem?_cons_zero, List.set_cons_succ, List.set_cons_zero, rn_ret, oEqS, rn_byT_bl, rn_sNil, rn_sSeq, rn_sRet, rn_eTup, rn_eCons, rn_eNil, after_rt, decide_eq_true_eq, decide_eq_false_iff_not]
  refine ⟨fun _ => ⟨by show (1 : Nat) ≤ line; decide, fin _ [] f2 (n12.trans (.refl (k := 1 + cQ 2)) (by omega)) (lbl_of (by decide +kernel)) (by simp) (by simp)⟩, fun _ => ?_⟩
  rw [after_nx, rn_sSeq]
  simp only [rn_sIf, rn_bOr, rn_eTru, rn_eBin, rn_eC, eVar, List.getElem?_cons_succ, List.getElem?_cons_zero, rn_ret, oEqS, rn_byT_bl, rn_sNil, rn_sSeq, rn_sRet, rn_eTup, rn_eCons, rn_eNil, after_rt, decide_eq_true_eq, decide_eq_false_iff_not]
  have two : [D.str w, D.int (1 + v)].length ≤ line ∧ Rn (endF false (f.c :: R).length (.ok (.rt (.tup [.str w, .int (1 + v)])), f2.c :: R)) P := ⟨by show (2 : Nat) ≤ line; decide, fin w _ f2 (n12.trans (.refl (k := 1 + cQ 2)) (by omega)) hw (by simp) (one price)⟩
  have skip : ∀ {A : Prop}, True → (true = false → A) := fun _ h => nomatch h
  refine ⟨fun _ => ⟨fun _ => two, fun h => (nomatch h)⟩, fun _ => ⟨fun _ => two, fun _ => ?_⟩⟩
  rw [after_nx, rn_sSeq]
  simp only [rn_sIf, rn_eTru, rn_eBin, rn_eC, eVar, List.getElem?_cons_succ, List.getElem?_cons_zero, rn_ret, oEqS, rn_byT_bl, rn_sNil, rn_sSeq, rn_sRet, rn_eTup, rn_eCons, rn_eNil, after_rt, decide_eq_true_eq, decide_eq_false_iff_not, rn_eCall, rn_ar]
  have there : w = "set" ∨ w = "ask" → ls ≠ [] := fun h e => by
    have := deed_set hd h
    rw [e] at this
    cases this
  have lpu : D.pus ls = true := pus_iff.mpr fun d m => (hls d m).pu
  refine ⟨fun e => ⟨rfl, sp_pick hS (hf.next n12 (i := 1) (by omega)) (there (.inr e)) lpu fun a f3 n3 ha => ⟨by show (3 : Nat) ≤ line; decide, fin w _ f3 ((n12.trans n3 (Nat.le_refl _)).trans (.refl (k := cQ 2)) (by omega)) hw (by simp) ?_⟩⟩, fun _ => ?_⟩
  · intro x m
    simp only [List.mem_cons, List.not_mem_nil, or_false] at m
    rcases m with rfl | rfl
    · exact tx_lbl (hls _ ha)
    · exact price
  rw [after_nx, rn_sSeq]
  simp only [rn_sIf, rn_eTru, rn_eBin, rn_eC, eVar, List.getElem?_cons_succ, List.getElem?_cons_zero, rn_ret, oEqS, rn_byT_bl, rn_sNil, rn_sSeq, rn_sRet, rn_eTup, rn_eCons, rn_eNil, after_rt, decide_eq_true_eq, decide_eq_false_iff_not, rn_eCall, rn_ar]
  refine ⟨fun e => ⟨rfl, sp_pick hS (hf.next n12 (i := 1) (by omega)) (there (.inl e)) lpu fun a f3 n3 ha => ⟨rfl, sp_sum hS hls 2 16 f3 _ (by decide) (by decide) (hf.next (n12.trans n3 (Nat.le_refl _)) (by omega)) fun b f4 n4 tb lb => ⟨by show (4 : Nat) ≤ line; decide, fin w _ f4 ((n12.trans n3 (Nat.le_refl _)).trans n4 (by omega)) hw (by simp) ?_⟩⟩⟩, fun _ => ?_⟩
  · intro x m
    simp only [List.mem_cons, List.not_mem_nil, or_false] at m
    rcases m with rfl | rfl | rfl
    · exact tx_lbl (hls _ ha)
    · exact up tb lb (by decide) (by decide)
    · exact price
  rw [after_nx, rn_sSeq]
  simp only [rn_sSet, rn_eCall, rn_ar, rn_eCons, rn_eNil, eVar, List.getElem?_cons_succ, List.getElem?_cons_zero, rn_ret]
  refine ⟨rfl, sp_draw hS (hf.next n12 (i := 1) (by omega)) s0 fun z f3 n3 z0 z1 => ?_⟩
  have spot := tx_num (i := z) z0 (by omega)
  have n123 := n12.trans n3 (Nat.le_refl _)
  rw [after_nx, rn_sSeq]
  simp only [rn_sIf, rn_eTru, rn_eBin, rn_eC, eVar, List.getElem?_cons_succ, List.getElem?_cons_zero, rn_ret, oEqS, rn_byT_bl, rn_sNil, rn_sSeq, rn_sRet, rn_eTup, rn_eCons, rn_eNil, after_rt, decide_eq_true_eq, decide_eq_false_iff_not, rn_eCall, rn_ar, List.set_cons_succ, List.set_cons_zero, after_nx, rn_eC]
  refine ⟨fun _ => ⟨by show (3 : Nat) ≤ line; decide, fin w _ f3 (n123.trans (.refl (k := cQ 2)) (by omega)) hw (by simp) ?_⟩, fun _ => ⟨rfl, sp_question hS hls 2 16 f3 _ (by decide) (by decide) (hf.next n123 (by omega)) fun b f4 n4 tb lb => ⟨by show (4 : Nat) ≤ line; decide, fin w _ f4 (n123.trans n4 (by omega)) hw (by simp) ?_⟩⟩⟩
  · intro x m
    simp only [List.mem_cons, List.not_mem_nil, or_false] at m
    rcases m with rfl | rfl
    · exact spot
    · exact price
  · intro x m
    simp only [List.mem_cons, List.not_mem_nil, or_false] at m
    rcases m with rfl | rfl | rfl
    · exact up tb lb (by decide) (by decide)
    · exact spot
    · exact price
/-- a cell -/
theorem sp_box {R : Store} {l : D} (hS : okS R) (hl : IsL l) {f : Fd} (hf : Can f 3) {P : D → Store → Prop} (p : ∀ (a b : D) (w : Str) (u v : Int) (f' : Fd), Nx f f' 3 → IsL a → IsRow (.tup [a, .str w, .int u, .int v]) → a = l → P (.tup [a, .str w, .int u, .int v]) (f'.c :: R)) :
    Rn (F_law_box [.cell 0, l] (f.c :: R)) P := by
  rw [F_law_box, rn_defF]
  show Rn (B_law_box [some (.cell 0), some l, none] (f.c :: R)) _
  unfold B_law_box
  rw [rn_sSeq]
  simp only [rn_sSet, rn_eCall, rn_ar, rn_eCons, rn_eNil, rn_eC, eVar, List.getElem?_cons_succ, List.getElem?_cons_zero, rn_ret]
  refine ⟨rfl, sp_draw hS (hf.le (by decide)) (by decide) fun u f1 n1 u0 u1 => ?_⟩
  simp only [rn_sSeq, rn_sSet, rn_sRet, rn_sIf, rn_sNil, rn_sDrop, rn_sPar, rn_sUnp, rn_sPut, after_nx, after_rt, rn_eBin, rn_eUn, rn_eBl, rn_eC, rn_eCons, rn_eNil, rn_eTup, rn_eLst, rn_eCall, rn_ar, rn_eTru, rn_byT_bl, rn_bNot, rn_bOr, rn_bAnd, rn_eIf, rn_ret, rn_guard, rn_eMk, rn_eApp, rn_eDisp, rn_eSl, rn_ePart_none, rn_ePart_some, rn_eM1, rn_eJs_nil, rn_eJs_cons, rn_eComp, rn_sFor, eVar, List.getElem?_cons_succ, List.getElem?_cons_zero, List.set_cons_succ, List.set_cons_zero, eInt, oAddI, oSubI, oMulI, oDivI, oModI, oLtI, oGtI, oGeI, oEqI]
  refine ⟨by show (3 : Nat) ≤ line; decide, rfl, sp_pick hS (hf.next n1 (i := 1) (by decide)) (by simp) rfl fun d f2 n2 hd => ⟨rfl, sp_draw hS (hf.next (n1.trans n2 (k := 2) (by decide)) (i := 1) (by decide)) (by omega) fun v f3 n3 v0 v1 => ⟨by show (4 : Nat) ≤ line; decide, ?_⟩⟩⟩
  obtain ⟨w, rfl, hw⟩ : ∃ w, d = .str w ∧ Lbl w := by
    simp only [List.mem_cons, List.not_mem_nil, or_false] at hd
    rcases hd with rfl | rfl | rfl <;> exact ⟨_, rfl, lbl_of (by decide +kernel)⟩
  obtain ⟨s, rfl, hs⟩ := hl
  have row : IsRow (.tup [.str s, .str w, .int u, .int v]) := ⟨s, _, rfl, hs, by simp, fun x m => by
    simp only [List.mem_cons, List.not_mem_nil, or_false] at m
    rcases m with rfl | rfl | rfl
    · exact tx_lbl ⟨w, rfl, hw⟩
    · exact tx_num u0 (by omega)
    · exact tx_num v0 (by omega)⟩
  exact end_dr hS row.pu (p _ .non w u v f3 ((n1.trans n2 (k := 2) (by decide)).trans n3 (by decide)) ⟨s, rfl, hs⟩ row rfl)
end K06

namespace K06
open PySem PySem.Spec Pv
/-- some of the items, by a test that draws at most c numbers -/
theorem comp_filt {tg : Tg} {t : Pv.Env → Store → Out Bool} {fe : Pv.Env → Store → Out D} {s : Src} {ds : List D} {ρ : Pv.Env} {m : Nat} {Q : D → Prop} {P : List D → Store → Prop} {f : Fd} {R : Store} {c : Nat} (hs : s.items = some ds) (few : ds.length ≤ line) (hm : ds.length < m) (hf : Can f (c * ds.length))
    (step : ∀ (k : Nat) (d : D) (g : Fd), ds[k]? = some d → Can g c → ∃ ρ1, setT tg d ρ = some ρ1 ∧ (∀ P : Bool → Store → Prop, (∀ b g', Nx g g' c → P b (g'.c :: R)) → Rn (t ρ1 (g.c :: R)) P) ∧ ∀ (g' : Fd) (P : D → Store → Prop), (∀ x, Q x → P x (g'.c :: R)) → Rn (fe ρ1 (g'.c :: R)) P)
    (fin : ∀ (xs : List D) (f' : Fd), Nx f f' (c * ds.length) → xs.length ≤ ds.length → (∀ x ∈ xs, Q x) → P xs (f'.c :: R)) : Rn (compL tg (some t) fe s ρ m 0 [] (f.c :: R)) P := by
  refine rn_comp hs (fun k acc T => acc.length ≤ k ∧ (∀ x ∈ acc, Q x) ∧ ∃ g, T = g.c :: R ∧ Nx f g (c * k)) (fun k acc T h => h.1) ?_ ?_ few m 0 [] _ (by omega) (Nat.zero_le _) ⟨Nat.le_refl _, fun x h => (nomatch h), f, rfl, .refl⟩
  · rintro k d acc T e ⟨hl, ha, g, rfl, n⟩
    have hk : k < ds.length := (List.getElem?_eq_some_iff.mp e).1
    have hc : c * k + c ≤ c * ds.length := by
      have := Nat.mul_le_mul_left c hk
      rwa [Nat.mul_succ] at this
    obtain ⟨ρ1, e1, h1, h2⟩ := step k d g e (hf.next n hc)
    refine ⟨ρ1, e1, h1 _ fun b g' n' => ?_⟩
    have nn : Nx f g' (c * (k + 1)) := n.trans n' (by rw [Nat.mul_succ]; exact Nat.le_refl _)
    exact ⟨fun _ => h2 g' _ fun x q => ⟨by simp only [List.length_append, List.length_cons, List.length_nil]; omega, fun y hy => (List.mem_append.mp hy).elim (ha y) fun h => by rw [List.mem_singleton.mp h]; exact q, g', rfl, nn⟩, fun _ => ⟨by omega, ha, g', rfl, nn⟩⟩
  · rintro acc T ⟨hl, ha, g, rfl, n⟩
    exact fin acc g n hl ha
theorem rn_iSeq_lst {fe : Pv.Env → Store → Out D} {ρ : Pv.Env} {S : Store} {P : Src → Store → Prop} : Rn (fe ρ S) (fun d S1 => ∃ ds, d = .lst ds ∧ P (.seq (.lst ds)) S1) → Rn (iSeq fe ρ S) P := by
  intro h
  unfold iSeq
  rw [rn_bnd]
  refine h.imp fun d S1 ⟨ds, e, p⟩ => ?_
  subst e
  exact rn_ret.mpr p
theorem rn_iSeq_tup {fe : Pv.Env → Store → Out D} {ρ : Pv.Env} {S : Store} {P : Src → Store → Prop} : Rn (fe ρ S) (fun d S1 => ∃ ds, d = .tup ds ∧ P (.seq (.tup ds)) S1) → Rn (iSeq fe ρ S) P := by
  intro h
  unfold iSeq
  rw [rn_bnd]
  refine h.imp fun d S1 ⟨ds, e, p⟩ => ?_
  subst e
  exact rn_ret.mpr p
theorem tuple_lst {ds : List D} {S : Store} {P : D → Store → Prop} : Rn (oTuple [.lst ds] S) P ↔ P (.tup ds) S := rn_ret
theorem tuple_cell {c : Cell} {ds : List D} {R : Store} {P : D → Store → Prop} : Rn (oTuple [.cell 1] (c :: .lst ds :: R)) P ↔ P (.tup ds) (c :: .lst ds :: R) := rn_ret
theorem app_cell {c : Cell} {ds : List D} {d : D} {R : Store} {P : D → Store → Prop} : Rn (oApp (.cell 1) [d] (c :: .lst ds :: R)) P ↔ ds.length < line ∧ P .non (c :: .lst (ds ++ [d]) :: R) := by
  show Rn (guard' _ (ret _ _)) _ ↔ _
  rw [rn_guard, rn_ret, decide_eq_true_eq]
  rfl
theorem lbls {ds : List D} (h : ∀ d ∈ ds, IsL d) : ∃ ys : List Str, ds = ys.map D.str ∧ ∀ y ∈ ys, Lbl y := by
  induction ds with
  | nil => exact ⟨[], rfl, fun _ h => (nomatch h)⟩
  | cons d ds ih =>
    obtain ⟨ys, rfl, hy⟩ := ih fun x m => h x (List.mem_cons_of_mem _ m)
    obtain ⟨s, rfl, hs⟩ := h d (List.mem_cons_self ..)
    exact ⟨s :: ys, rfl, fun y m => (List.mem_cons.mp m).elim (fun e => by rw [e]; exact hs) (hy y)⟩
theorem strs_of : ∀ (ys : List Str), strsD (ys.map D.str) = some ys
  | [] => rfl
  | y :: ys => by simp only [List.map_cons, strsD, strs_of ys, Option.map_some]
theorem sorted_lbl {ds : List D} {S : Store} {P : D → Store → Prop} (h : ∀ d ∈ ds, IsL d) (hl : ds.length < 64) (p : ∀ xs : List D, xs.length = ds.length → (∀ x ∈ xs, IsL x) → P (.lst xs) S) : Rn (oSorted [.lst ds] S) P := by
  obtain ⟨ys, rfl, hy⟩ := lbls h
  have e : oSorted [.lst (ys.map D.str)] S = (match strsD (ys.map D.str) with
    | some ys => guard' (decide (ys.length < 64)) (ret (.lst ((srtS ys).map D.str)) S)
    | none => none) := rfl
  rw [e, strs_of]
  show Rn (guard' _ (ret _ _)) _
  rw [rn_guard, rn_ret, decide_eq_true_eq]
  have pm : (srtS ys).Perm ys := List.mergeSort_perm ys leS
  refine ⟨by simpa using hl, p _ (by simp [pm.length_eq]) fun x m => ?_⟩
  obtain ⟨y, my, rfl⟩ := List.mem_map.mp m
  exact ⟨y, rfl, hy y (pm.mem_iff.mp my)⟩
/-- a box of a plan, more closely -/
def IsBox (d : D) : Prop := ∃ (s w : Str) (u v : Int), d = .tup [.str s, .str w, .int u, .int v] ∧ Lbl s ∧ IsRow d
theorem IsBox.pu {d : D} (h : IsBox d) : d.pu = true := let ⟨_, _, _, _, _, _, r⟩ := h; r.pu
/-- a program as it is drawn -/
structure IsPlan (bs cs hs : List D) : Prop where
  lb : bs.length ≤ 8
  lc : cs.length ≤ 30
  lh : hs.length ≤ 8
  rb : ∀ d ∈ bs, IsBox d
  rc : ∀ d ∈ cs, IsRow d
  rh : ∀ d ∈ hs, IsL d
def plan (bs cs hs : List D) : D := .tup [.tup bs, .tup cs, .tup hs]
theorem IsPlan.pu {bs cs hs : List D} (h : IsPlan bs cs hs) : (plan bs cs hs).pu = true := by
  have b : D.pus bs = true := pus_iff.mpr fun d m => (h.rb d m).pu
  have c : D.pus cs = true := pus_iff.mpr fun d m => (h.rc d m).pu
  have k : D.pus hs = true := pus_iff.mpr fun d m => (h.rh d m).pu
  show (D.pus bs && (D.pus cs && (D.pus hs && true))) = true
  rw [b, c, k]
  rfl
theorem end_row : IsRow (.tup [.str "end"]) := ⟨_, [], rfl, lbl_of (by decide +kernel), by simp, fun _ h => (nomatch h)⟩
theorem jump_row {i j : Int} (i0 : 0 ≤ i) (i1 : i < 10 ^ 60) (j0 : 0 ≤ j) (j1 : j < 10 ^ 60) : IsRow (.tup [.str "jump", .int i, .int j]) := ⟨_, _, rfl, lbl_of (by decide +kernel), by simp, fun x m => by
  simp only [List.mem_cons, List.not_mem_nil, or_false] at m
  rcases m with rfl | rfl
  · exact tx_num i0 i1
  · exact tx_num j0 j1⟩
theorem sp_plan {f : Fd} (hf : Can f 1000000) {P : D → Store → Prop} (p : ∀ (bs cs hs : List D) (f' : Fd), Nx f f' 1000000 → IsPlan bs cs hs → P (plan bs cs hs) [f'.c]) : Rn (F_law_plan [.cell 0] [f.c]) P := by
  rw [F_law_plan, rn_defF]
  show Rn (B_law_plan [some (.cell 0), none, none, none, none, none, none, none, none, none] [f.c]) _
  unfold B_law_plan
  rw [rn_sSeq]
  simp only [rn_sSet, rn_eCall, rn_ar, rn_eCons, rn_eNil, rn_eC, rn_eBl, eVar, List.getElem?_cons_succ, List.getElem?_cons_zero, rn_ret]
  refine ⟨rfl, sp_draw okS.nil (hf.le (by decide)) (by decide) fun m f1 n1 m0 m1 => ?_⟩
  obtain ⟨m, rfl⟩ := Int.eq_ofNat_of_zero_le m0
  refine ⟨rfl, sp_labels okS.nil (hf.next n1 (by decide)) (by omega) fun ls f2 n2 ll hl => ?_⟩
  refine sorted_lbl hl (by omega) fun xs lx hx => ?_
  have n12 : Nx f f2 30 := n1.trans n2 (by decide)
  rw [ll] at lx
  rw [after_nx, rn_sSeq, rn_sSet, rn_eComp]
  refine rn_iSeq_lst ?_
  simp only [eVar, List.getElem?_cons_succ, List.getElem?_cons_zero, List.set_cons_succ, List.set_cons_zero, rn_ret]
  refine ⟨xs, rfl, ?_⟩
  refine comp_draw (c := 3) (Q := fun _ d => IsBox d) (s := .seq (.lst xs)) rfl (by rw [lx]; exact Nat.le_trans (by omega : m ≤ 10) (by decide)) (by rw [lx]; omega) (hf.next n12 (by rw [lx]; omega)) (fun k d g e hg => ⟨_, rfl, fun P hP => ?_⟩) fun bs f3 n3 lb hb => ?_
  · show Rn (eCall _ _ _ [some (.cell 0), some (.lst xs), none, some d, none, none, none, none, none, none] _) _
    simp only [rn_sSeq, rn_sSet, rn_sRet, rn_sIf, rn_sNil, rn_sDrop, rn_sPar, rn_sUnp, rn_sPut, after_nx, after_rt, rn_eBin, rn_eUn, rn_eBl, rn_eC, rn_eCons, rn_eNil, rn_eTup, rn_eLst, rn_eCall, rn_ar, rn_eTru, rn_byT_bl, rn_bNot, rn_bOr, rn_bAnd, rn_eIf, rn_ret, rn_guard, rn_eMk, rn_eApp, rn_eDisp, rn_eSl, rn_ePart_none, rn_ePart_some, rn_eM1, rn_eJs_nil, rn_eJs_cons, rn_eComp, rn_sFor, eVar, List.getElem?_cons_succ, List.getElem?_cons_zero, List.set_cons_succ, List.set_cons_zero, eInt, oAddI, oSubI, oMulI, oDivI, oModI, oLtI, oGtI, oGeI, oEqI]
    refine ⟨rfl, sp_box okS.nil (hx d (List.mem_of_getElem? e)) hg fun a b w u v g' n' ha row ea => hP _ g' n' ?_⟩
    obtain ⟨s, rfl, hs⟩ := ha
    exact ⟨s, w, u, v, rfl, hs, row⟩
  have hb := all_of hb
  have n13 : Nx f f3 60 := ⟨n3.ds.trans n12.ds, n3.tot.trans n12.tot, by have h1 := n3.few; have h2 := n12.few; omega⟩
  have cd : cD = 53 := rfl
  -- how many instructions
  rw [after_nx, rn_sSeq]
  simp only [rn_sSet, rn_eBin, rn_eCall, rn_ar, rn_eCons, rn_eNil, rn_eC, eVar, List.getElem?_cons_succ, List.getElem?_cons_zero, List.set_cons_succ, List.set_cons_zero, rn_ret]
  refine ⟨rfl, sp_draw okS.nil (hf.next n13 (i := 1) (by decide)) (by decide) fun z f4 n4 z0 z1 => ?_⟩
  obtain ⟨z, rfl⟩ := Int.eq_ofNat_of_zero_le z0
  simp only [oAddI]
  have n14 : Nx f f4 61 := n13.trans n4 (by decide)
  rw [after_nx, rn_sSeq]
  simp only [rn_sSet, rn_eMk, rn_eComp, rn_iRg1, rn_eBin, rn_eCons, rn_eNil, rn_eC, eVar, List.getElem?_cons_succ, List.getElem?_cons_zero, List.set_cons_succ, List.set_cons_zero, rn_ret, oSubI]
  refine ⟨_, rfl, ⟨by omega, by omega⟩, ?_⟩
  have hz : ((1 : Int) + (z : Int) - 1).toNat = z := by omega
  rw [hz]
  have it : (Src.rng 0 z).items = some ((List.range z).map fun k => D.int (0 + (k : Nat))) := rfl
  have il : ((List.range z).map fun k => D.int (0 + (k : Nat))).length = z := by simp
  have cz : cD * z ≤ 53 * 7 := Nat.mul_le_mul (Nat.le_of_eq cd) (by omega)
  refine comp_draw (c := cD) (Q := fun _ d => IsRow d) it (by rw [il]; exact Nat.le_trans (by omega : z ≤ 10) (by decide)) (by rw [il]; omega) (hf.next n14 (by rw [il]; omega)) (fun k d g e hg => ?_) fun cs f5 n5 lc hc => ?_
  · obtain ⟨hk, rfl⟩ := rng_get it e
    refine ⟨_, rfl, fun P hP => ?_⟩
    show Rn (eCall _ _ _ [some (.cell 0), some (.lst xs), some (.lst bs), none, some (.int (1 + (z : Int))), none, some (.int k), none, none, none] _) _
    simp only [rn_sSeq, rn_sSet, rn_sRet, rn_sIf, rn_sNil, rn_sDrop, rn_sPar, rn_sUnp, rn_sPut, after_nx, after_rt, rn_eBin, rn_eUn, rn_eBl, rn_eC, rn_eCons, rn_eNil, rn_eTup, rn_eLst, rn_eCall, rn_ar, rn_eTru, rn_byT_bl, rn_bNot, rn_bOr, rn_bAnd, rn_eIf, rn_ret, rn_guard, rn_eMk, rn_eApp, rn_eDisp, rn_eSl, rn_ePart_none, rn_ePart_some, rn_eM1, rn_eJs_nil, rn_eJs_cons, rn_eComp, rn_sFor, eVar, List.getElem?_cons_succ, List.getElem?_cons_zero, List.set_cons_succ, List.set_cons_zero, eInt, oAddI, oSubI, oMulI, oDivI, oModI, oLtI, oGtI, oGeI, oEqI]
    exact ⟨rfl, sp_deed okS.nil hx (by omega) (by omega) hg fun d g' n' row => hP _ g' n' row⟩
  have hc := all_of hc
  rw [il] at n5 lc
  have n15 : Nx f f5 500 := ⟨n5.ds.trans n14.ds, n5.tot.trans n14.tot, by have h1 := n5.few; have h2 := n14.few; have : cD * z ≤ 53 * 7 := Nat.mul_le_mul (Nat.le_of_eq cd) (by omega); omega⟩
  have cpu : D.pus cs = true := pus_iff.mpr fun d m => (hc d m).pu
  have okR : okS [.lst cs] := okS.nil.cons cpu
  refine ⟨cs, rfl, ?_⟩
  show After' _ _ (.nx [some (.cell 0), some (.lst xs), some (.lst bs), none, some (.int (1 + (z : Int))), some (.cell 1), none, none, none, none]) [f5.c, .lst cs]
  -- the last instruction
  rw [after_nx, rn_sSeq]
  refine Rn.imp (P := fun fl S => fl = Fl.nx [some (.cell 0), some (.lst xs), some (.lst bs), none, some (.int (1 + (z : Int))), some (.cell 1), none, none, none, none] ∧ ∃ (e : D) (g : Fd), IsRow e ∧ Nx f g 510 ∧ S = [g.c, .lst (cs ++ [e])]) ?_ ?_
  · have few : cs.length < line := Nat.lt_of_le_of_lt (by omega : cs.length ≤ 10) (by decide)
    have lst1 : ∀ {g : Fd}, isList [g.c, .lst cs] (.cell 1) = true := rfl
    simp only [rn_sDrop, rn_eApp, rn_eIf, rn_eTru, rn_eTup, rn_eBin, rn_eCall, rn_ar, rn_eCons, rn_eNil, rn_eC, eVar, List.getElem?_cons_succ, List.getElem?_cons_zero, rn_ret]
    refine ⟨rfl, rfl, sp_draw (R := [.lst cs]) okR (hf.next n15 (i := 1) (by decide)) (by decide) fun v f6 n6 v0 v1 => ?_⟩
    simp only [oEqI, rn_byT_bl, rn_ret, decide_eq_true_eq, decide_eq_false_iff_not]
    refine ⟨fun _ => ⟨by show (1 : Nat) ≤ line; decide, app_cell.mpr ⟨few, trivial, _, f6, end_row, n15.trans n6 (by decide), rfl⟩⟩, fun _ => ⟨rfl, sp_draw (R := [.lst cs]) okR (hf.next (n15.trans n6 (k := 501) (by decide)) (i := 1) (by decide)) (by omega) fun a f7 n7 a0 a1 => ⟨rfl, sp_draw (R := [.lst cs]) okR (hf.next ((n15.trans n6 (k := 501) (by decide)).trans n7 (k := 502) (by decide)) (i := 1) (by decide)) (by decide) fun b f8 n8 b0 b1 => ?_⟩⟩⟩
    simp only [oAddI]
    exact ⟨by show (3 : Nat) ≤ line; decide, app_cell.mpr ⟨few, trivial, _, f8, jump_row a0 (by omega) (by omega) (by omega), ((n15.trans n6 (k := 501) (by decide)).trans n7 (k := 502) (by decide)).trans n8 (by decide), rfl⟩⟩
  rintro _ _ ⟨rfl, e, f9, re, n9, rfl⟩
  have hc' : ∀ d ∈ cs ++ [e], IsRow d := fun d m => (List.mem_append.mp m).elim (hc d) fun h => by
    rw [List.mem_singleton.mp h]
    exact re
  have okR' : okS [.lst (cs ++ [e])] := okS.nil.cons (pus_iff.mpr fun d m => (hc' d m).pu)
  have bfew : bs.length ≤ 10 := by omega
  -- the cells that stay
  rw [after_nx, rn_sSeq, rn_sSet, rn_eComp]
  refine rn_iSeq_lst ?_
  simp only [eVar, List.getElem?_cons_succ, List.getElem?_cons_zero, rn_ret]
  refine ⟨bs, rfl, ?_⟩
  refine comp_filt (c := 0) (Q := IsL) (R := [.lst (cs ++ [e])]) (s := .seq (.lst bs)) rfl (Nat.le_trans bfew (by decide)) (by omega) (hf.next n9 (by omega)) (fun k d g ed hg => ?_) fun st f10 n10 ls10 hst => ?_
  · obtain ⟨s, w, u, v, rfl, hs, row⟩ := hb d (List.mem_of_getElem? ed)
    refine ⟨_, rfl, fun P hP => ?_, fun g' P hP => ?_⟩
    · show Rn (eTru _ [some (.cell 0), some (.lst xs), some (.lst bs), none, some (.int (1 + (z : Int))), some (.cell 1), none, none, some (.tup [.str s, .str w, .int u, .int v]), none] _) _
      simp only [rn_sSeq, rn_sSet, rn_sRet, rn_sIf, rn_sNil, rn_sDrop, rn_sPar, rn_sUnp, rn_sPut, after_nx, after_rt, rn_eBin, rn_eUn, rn_eBl, rn_eC, rn_eCons, rn_eNil, rn_eTup, rn_eLst, rn_eCall, rn_ar, rn_eTru, rn_byT_bl, rn_bNot, rn_bOr, rn_bAnd, rn_eIf, rn_ret, rn_guard, rn_eMk, rn_eApp, rn_eDisp, rn_eSl, rn_ePart_none, rn_ePart_some, rn_eM1, rn_eJs_nil, rn_eJs_cons, rn_eComp, rn_sFor, eVar, List.getElem?_cons_succ, List.getElem?_cons_zero, List.set_cons_succ, List.set_cons_zero, eInt, oAddI, oSubI, oMulI, oDivI, oModI, oLtI, oGtI, oGeI, oEqI]
      simp only [ix_tup (ds := [D.str s, D.str w, D.int u, D.int v]) (i := 1) (d := .str w) rfl, oNeS]
      simp only [rn_sSeq, rn_sSet, rn_sRet, rn_sIf, rn_sNil, rn_sDrop, rn_sPar, rn_sUnp, rn_sPut, after_nx, after_rt, rn_eBin, rn_eUn, rn_eBl, rn_eC, rn_eCons, rn_eNil, rn_eTup, rn_eLst, rn_eCall, rn_ar, rn_eTru, rn_byT_bl, rn_bNot, rn_bOr, rn_bAnd, rn_eIf, rn_ret, rn_guard, rn_eMk, rn_eApp, rn_eDisp, rn_eSl, rn_ePart_none, rn_ePart_some, rn_eM1, rn_eJs_nil, rn_eJs_cons, rn_eComp, rn_sFor, eVar, List.getElem?_cons_succ, List.getElem?_cons_zero, List.set_cons_succ, List.set_cons_zero, eInt, oAddI, oSubI, oMulI, oDivI, oModI, oLtI, oGtI, oGeI, oEqI]
      exact hP _ g .refl
    · show Rn (eBin _ _ _ [some (.cell 0), some (.lst xs), some (.lst bs), none, some (.int (1 + (z : Int))), some (.cell 1), none, none, some (.tup [.str s, .str w, .int u, .int v]), none] _) _
      simp only [rn_sSeq, rn_sSet, rn_sRet, rn_sIf, rn_sNil, rn_sDrop, rn_sPar, rn_sUnp, rn_sPut, after_nx, after_rt, rn_eBin, rn_eUn, rn_eBl, rn_eC, rn_eCons, rn_eNil, rn_eTup, rn_eLst, rn_eCall, rn_ar, rn_eTru, rn_byT_bl, rn_bNot, rn_bOr, rn_bAnd, rn_eIf, rn_ret, rn_guard, rn_eMk, rn_eApp, rn_eDisp, rn_eSl, rn_ePart_none, rn_ePart_some, rn_eM1, rn_eJs_nil, rn_eJs_cons, rn_eComp, rn_sFor, eVar, List.getElem?_cons_succ, List.getElem?_cons_zero, List.set_cons_succ, List.set_cons_zero, eInt, oAddI, oSubI, oMulI, oDivI, oModI, oLtI, oGtI, oGeI, oEqI]
      exact (ix_tup (ds := [D.str s, D.str w, D.int u, D.int v]) (i := 0) (d := .str s) rfl).mpr (hP _ ⟨s, rfl, hs⟩)
  have n10 : Nx f f10 510 := ⟨n10.ds.trans n9.ds, n10.tot.trans n9.tot, by have h1 := n10.few; have h2 := n9.few; omega⟩
  -- those that are told
  rw [after_nx, rn_sSeq, rn_sSet, rn_eComp]
  refine rn_iSeq_lst ?_
  simp only [eVar, List.getElem?_cons_succ, List.getElem?_cons_zero, List.set_cons_succ, List.set_cons_zero, rn_ret]
  refine ⟨st, rfl, ?_⟩
  refine comp_filt (c := 1) (Q := IsL) (R := [.lst (cs ++ [e])]) (s := .seq (.lst st)) rfl (Nat.le_trans (Nat.le_trans ls10 bfew) (by decide)) (by omega) (hf.next n10 (by omega)) (fun k d g ed hg => ?_) fun hs f11 n11 lh hh => ?_
  · have hd := hst d (List.mem_of_getElem? ed)
    refine ⟨_, rfl, fun P hP => ?_, fun g' P hP => ?_⟩
    · show Rn (eTru _ [some (.cell 0), some (.lst xs), some (.lst bs), some d, some (.int (1 + (z : Int))), some (.cell 1), none, some (.lst st), none, none] _) _
      simp only [rn_sSeq, rn_sSet, rn_sRet, rn_sIf, rn_sNil, rn_sDrop, rn_sPar, rn_sUnp, rn_sPut, after_nx, after_rt, rn_eBin, rn_eUn, rn_eBl, rn_eC, rn_eCons, rn_eNil, rn_eTup, rn_eLst, rn_eCall, rn_ar, rn_eTru, rn_byT_bl, rn_bNot, rn_bOr, rn_bAnd, rn_eIf, rn_ret, rn_guard, rn_eMk, rn_eApp, rn_eDisp, rn_eSl, rn_ePart_none, rn_ePart_some, rn_eM1, rn_eJs_nil, rn_eJs_cons, rn_eComp, rn_sFor, eVar, List.getElem?_cons_succ, List.getElem?_cons_zero, List.set_cons_succ, List.set_cons_zero, eInt, oAddI, oSubI, oMulI, oDivI, oModI, oLtI, oGtI, oGeI, oEqI]
      refine ⟨rfl, sp_draw okR' hg (by decide) fun v g' n' v0 v1 => ?_⟩
      simp only [oGtI, rn_byT_bl, rn_ret]
      exact hP _ g' n'
    · show Rn (eVar 3 [some (.cell 0), some (.lst xs), some (.lst bs), some d, some (.int (1 + (z : Int))), some (.cell 1), none, some (.lst st), none, none] _) _
      simp only [rn_sSeq, rn_sSet, rn_sRet, rn_sIf, rn_sNil, rn_sDrop, rn_sPar, rn_sUnp, rn_sPut, after_nx, after_rt, rn_eBin, rn_eUn, rn_eBl, rn_eC, rn_eCons, rn_eNil, rn_eTup, rn_eLst, rn_eCall, rn_ar, rn_eTru, rn_byT_bl, rn_bNot, rn_bOr, rn_bAnd, rn_eIf, rn_ret, rn_guard, rn_eMk, rn_eApp, rn_eDisp, rn_eSl, rn_ePart_none, rn_ePart_some, rn_eM1, rn_eJs_nil, rn_eJs_cons, rn_eComp, rn_sFor, eVar, List.getElem?_cons_succ, List.getElem?_cons_zero, List.set_cons_succ, List.set_cons_zero, eInt, oAddI, oSubI, oMulI, oDivI, oModI, oLtI, oGtI, oGeI, oEqI]
      exact hP _ hd
  have n11 : Nx f f11 600 := ⟨n11.ds.trans n10.ds, n11.tot.trans n10.tot, by have h1 := n11.few; have h2 := n10.few; omega⟩
  rw [after_nx, rn_sSeq]
  simp only [rn_sRet, rn_eTup, rn_eBl, rn_eCons, rn_eNil, eVar, List.getElem?_cons_succ, List.getElem?_cons_zero, List.set_cons_succ, List.set_cons_zero, rn_ret, tuple_lst, tuple_cell, after_rt]
  have good : IsPlan bs (cs ++ [e]) hs := ⟨by omega, by simp; omega, by omega, hb, hc', hh⟩
  refine ⟨by show (3 : Nat) ≤ line; decide, end_pu (good.pu) (okR'.cons (Fd.pu _)) ?_⟩
  exact p bs (cs ++ [e]) hs f11 ⟨n11.ds, n11.tot, by have := n11.few; omega⟩ good
end K06

namespace K06
open PySem PySem.Spec Pv
theorem sp_some {f : Fd} {R : Store} {ds : List D} (hS : okS R) (h : ∀ d ∈ ds, IsL d) (few : ds.length ≤ 100) (hf : Can f 100) {P : D → Store → Prop} (p : ∀ (xs : List D) (f' : Fd), Nx f f' 100 → xs.length ≤ ds.length → (∀ x ∈ xs, IsL x) → P (.tup xs) (f'.c :: R)) :
    Rn (F_law_some [.cell 0, .lst ds] (f.c :: R)) P := by
  rw [F_law_some, rn_defF]
  show Rn (B_law_some [some (.cell 0), some (.lst ds), none] (f.c :: R)) _
  unfold B_law_some
  simp only [rn_sSeq, rn_sRet, rn_eBl, rn_eCons, rn_eComp]
  refine rn_iSeq_lst ?_
  simp only [eVar, List.getElem?_cons_succ, List.getElem?_cons_zero, rn_ret]
  refine ⟨ds, rfl, ?_⟩
  refine comp_filt (c := 1) (Q := IsL) (s := .seq (.lst ds)) rfl (Nat.le_trans few (by decide)) (by omega) (hf.le (by omega)) (fun k d g e hg => ?_) fun xs f' n' lx hx => ?_
  · have hd := h d (List.mem_of_getElem? e)
    refine ⟨_, rfl, fun P hP => ?_, fun g' P hP => ?_⟩
    · show Rn (eTru _ [some (.cell 0), some (.lst ds), some d] _) _
      simp only [rn_sSeq, rn_sSet, rn_sRet, rn_sIf, rn_sNil, rn_sDrop, rn_sPar, rn_sUnp, rn_sPut, after_nx, after_rt, rn_eBin, rn_eUn, rn_eBl, rn_eC, rn_eCons, rn_eNil, rn_eTup, rn_eLst, rn_eCall, rn_ar, rn_eTru, rn_byT_bl, rn_bNot, rn_bOr, rn_bAnd, rn_eIf, rn_ret, rn_guard, rn_eMk, rn_eApp, rn_eDisp, rn_eSl, rn_ePart_none, rn_ePart_some, rn_eM1, rn_eJs_nil, rn_eJs_cons, rn_eComp, rn_sFor, eVar, List.getElem?_cons_succ, List.getElem?_cons_zero, List.set_cons_succ, List.set_cons_zero, eInt, oAddI, oSubI, oMulI, oDivI, oModI, oLtI, oGtI, oGeI, oEqI]
      refine ⟨rfl, sp_draw hS hg (by decide) fun v g' n' v0 v1 => ?_⟩
      simp only [oEqI, rn_byT_bl, rn_ret]
      exact hP _ g' n'
    · show Rn (eVar 2 [some (.cell 0), some (.lst ds), some d] _) _
      simp only [rn_sSeq, rn_sSet, rn_sRet, rn_sIf, rn_sNil, rn_sDrop, rn_sPar, rn_sUnp, rn_sPut, after_nx, after_rt, rn_eBin, rn_eUn, rn_eBl, rn_eC, rn_eCons, rn_eNil, rn_eTup, rn_eLst, rn_eCall, rn_ar, rn_eTru, rn_byT_bl, rn_bNot, rn_bOr, rn_bAnd, rn_eIf, rn_ret, rn_guard, rn_eMk, rn_eApp, rn_eDisp, rn_eSl, rn_ePart_none, rn_ePart_some, rn_eM1, rn_eJs_nil, rn_eJs_cons, rn_eComp, rn_sFor, eVar, List.getElem?_cons_succ, List.getElem?_cons_zero, List.set_cons_succ, List.set_cons_zero, eInt, oAddI, oSubI, oMulI, oDivI, oModI, oLtI, oGtI, oGeI, oEqI]
      exact hP _ hd
  · simp only [rn_eNil, tuple_lst, after_rt]
    exact end_dr hS (pus_iff.mpr fun d m => (hx d m).pu) (p xs f' ⟨n'.ds, n'.tot, by have := n'.few; omega⟩ lx hx)
theorem pow4 : ((10 : Int) ^ (4 : Int).toNat) = 10000 := by decide
theorem oPowI {i j : Int} {S : Store} {P : D → Store → Prop} : Rn (oPow (.int i) (.int j) S) P ↔ ((0 ≤ j ∧ j ≤ 1000) ∧ i.natAbs < 2 ^ 64) ∧ P (.int (i ^ j.toNat)) S := by
  show Rn (guard' _ (ret _ _)) _ ↔ _
  rw [rn_guard, rn_ret]
  simp only [Bool.and_eq_true, decide_eq_true_eq]
theorem sp_loose {f : Fd} (hf : Can f 1000000) {P : D → Store → Prop} (p : ∀ (bs cs hs : List D) (f' : Fd), Nx f f' 1000000 → IsPlan bs cs hs → P (plan bs cs hs) [f'.c]) : Rn (F_law_loose [.cell 0] [f.c]) P := by
  rw [F_law_loose, rn_defF]
  show Rn (B_law_loose [some (.cell 0), none, none, none, none] [f.c]) _
  unfold B_law_loose
  have cd : cD = 53 := rfl
  rw [rn_sSeq]
  simp only [rn_sSet, rn_eCall, rn_ar, rn_eCons, rn_eNil, rn_eC, eVar, List.getElem?_cons_succ, List.getElem?_cons_zero, rn_ret]
  refine ⟨rfl, sp_labels (m := 4) okS.nil (hf.le (by decide)) (by decide) fun ls f1 n1 ll hl => ?_⟩
  have lne : ls ≠ [] := fun e => by rw [e] at ll; cases ll
  have lpu : D.pus ls = true := pus_iff.mpr fun d m => (hl d m).pu
  -- cells
  rw [after_nx, rn_sSeq]
  simp only [rn_sSet, rn_eComp, rn_iRg1, rn_eCall, rn_ar, rn_eCons, rn_eNil, rn_eC, eVar, List.getElem?_cons_succ, List.getElem?_cons_zero, List.set_cons_succ, List.set_cons_zero, rn_ret]
  refine ⟨rfl, sp_draw okS.nil (hf.next n1 (i := 1) (by decide)) (by decide) fun z f2 n2 z0 z1 => ?_⟩
  obtain ⟨z, rfl⟩ := Int.eq_ofNat_of_zero_le z0
  refine ⟨_, rfl, ⟨by omega, by omega⟩, ?_⟩
  rw [Int.toNat_natCast]
  have n12 : Nx f f2 30 := n1.trans n2 (by decide)
  have it : (Src.rng 0 z).items = some ((List.range z).map fun k => D.int (0 + (k : Nat))) := rfl
  have il : ((List.range z).map fun k => D.int (0 + (k : Nat))).length = z := by simp
  refine comp_draw (c := 4) (Q := fun _ d => IsBox d) it (by rw [il]; exact Nat.le_trans (by omega : z ≤ 10) (by decide)) (by rw [il]; omega) (hf.next n12 (by rw [il]; omega)) (fun k d g e hg => ?_) fun bs f3 n3 lb hb => ?_
  · obtain ⟨hk, rfl⟩ := rng_get it e
    refine ⟨_, rfl, fun P hP => ?_⟩
    show Rn (eCall _ _ _ [some (.cell 0), some (.lst ls), none, some (.int k), none] _) _
    simp only [rn_sSeq, rn_sSet, rn_sRet, rn_sIf, rn_sNil, rn_sDrop, rn_sPar, rn_sUnp, rn_sPut, after_nx, after_rt, rn_eBin, rn_eUn, rn_eBl, rn_eC, rn_eCons, rn_eNil, rn_eTup, rn_eLst, rn_eCall, rn_ar, rn_eTru, rn_byT_bl, rn_bNot, rn_bOr, rn_bAnd, rn_eIf, rn_ret, rn_guard, rn_eMk, rn_eApp, rn_eDisp, rn_eSl, rn_ePart_none, rn_ePart_some, rn_eM1, rn_eJs_nil, rn_eJs_cons, rn_eComp, rn_sFor, eVar, List.getElem?_cons_succ, List.getElem?_cons_zero, List.set_cons_succ, List.set_cons_zero, eInt, oAddI, oSubI, oMulI, oDivI, oModI, oLtI, oGtI, oGeI, oEqI]
    refine ⟨rfl, sp_pick okS.nil (hg.le (by decide)) lne lpu fun d g1 m1 hd => ⟨rfl, sp_box okS.nil (hl d hd) (hg.next m1 (by decide)) fun a b w u v g2 m2 ha row ea => hP _ g2 (m1.trans m2 (by decide)) ?_⟩⟩
    obtain ⟨s, rfl, hs⟩ := ha
    exact ⟨s, w, u, v, rfl, hs, row⟩
  have hb := all_of hb
  rw [il] at n3 lb
  have n13 : Nx f f3 60 := ⟨n3.ds.trans n12.ds, n3.tot.trans n12.tot, by have h1 := n3.few; have h2 := n12.few; omega⟩
  -- instructions
  rw [after_nx, rn_sSeq]
  simp only [rn_sSet, rn_eMk, rn_eComp, rn_iRg1, rn_eBin, rn_eCall, rn_ar, rn_eCons, rn_eNil, rn_eC, eVar, List.getElem?_cons_succ, List.getElem?_cons_zero, List.set_cons_succ, List.set_cons_zero, rn_ret]
  refine ⟨rfl, sp_draw okS.nil (hf.next n13 (i := 1) (by decide)) (by decide) fun y f4 n4 y0 y1 => ?_⟩
  obtain ⟨y, rfl⟩ := Int.eq_ofNat_of_zero_le y0
  simp only [oAddI]
  refine ⟨_, rfl, ⟨by omega, by omega⟩, ?_⟩
  have hy : ((1 : Int) + (y : Int)).toNat = y + 1 := by omega
  rw [hy]
  have n14 : Nx f f4 61 := n13.trans n4 (by decide)
  have it2 : (Src.rng 0 (y + 1)).items = some ((List.range (y + 1)).map fun k => D.int (0 + (k : Nat))) := rfl
  have il2 : ((List.range (y + 1)).map fun k => D.int (0 + (k : Nat))).length = y + 1 := by simp
  have cz : cD * (y + 1) ≤ 53 * 5 := Nat.mul_le_mul (Nat.le_of_eq cd) (by omega)
  refine comp_draw (c := cD) (Q := fun _ d => IsRow d) it2 (by rw [il2]; exact Nat.le_trans (by omega : y + 1 ≤ 10) (by decide)) (by rw [il2]; omega) (hf.next n14 (by rw [il2]; omega)) (fun k d g e hg => ?_) fun cs f5 n5 lc hc => ?_
  · obtain ⟨hk, rfl⟩ := rng_get it2 e
    refine ⟨_, rfl, fun P hP => ?_⟩
    show Rn (eCall _ _ _ [some (.cell 0), some (.lst ls), some (.lst bs), some (.int k), none] _) _
    simp only [rn_eCall, rn_ar, rn_eCons, rn_eNil, rn_eC, rn_eBin, eVar, List.getElem?_cons_succ, List.getElem?_cons_zero, rn_ret, oPowI, pow4]
    exact ⟨⟨⟨by decide, by decide⟩, by decide⟩, rfl, sp_deed okS.nil hl (by decide) (by decide) hg fun d g' n' row => hP _ g' n' row⟩
  have hc := all_of hc
  rw [il2] at n5 lc
  have n15 : Nx f f5 500 := ⟨n5.ds.trans n14.ds, n5.tot.trans n14.tot, by have h1 := n5.few; have h2 := n14.few; omega⟩
  have cpu : D.pus cs = true := pus_iff.mpr fun d m => (hc d m).pu
  have okR : okS [.lst cs] := okS.nil.cons cpu
  refine ⟨cs, rfl, ?_⟩
  show After' _ _ (.nx [some (.cell 0), some (.lst ls), some (.lst bs), none, some (.cell 1)]) [f5.c, .lst cs]
  rw [after_nx, rn_sSeq]
  refine Rn.imp (P := fun fl S => fl = Fl.nx [some (.cell 0), some (.lst ls), some (.lst bs), none, some (.cell 1)] ∧ ∃ (es : List D) (g : Fd), (∀ d ∈ es, IsRow d) ∧ es.length ≤ 10 ∧ Nx f g 510 ∧ S = [g.c, .lst es]) ?_ ?_
  · have few : cs.length < line := Nat.lt_of_le_of_lt (by omega : cs.length ≤ 10) (by decide)
    simp only [rn_sIf, rn_eTru, rn_eBin, rn_eCall, rn_ar, rn_eCons, rn_eNil, rn_eC, eVar, List.getElem?_cons_succ, List.getElem?_cons_zero, rn_ret]
    refine ⟨rfl, sp_draw (R := [.lst cs]) okR (hf.next n15 (i := 1) (by decide)) (by decide) fun v f6 n6 v0 v1 => ?_⟩
    have n16 : Nx f f6 510 := n15.trans n6 (by decide)
    simp only [oEqI, rn_byT_bl, rn_ret, decide_eq_true_eq, decide_eq_false_iff_not]
    refine ⟨fun _ => ?_, fun _ => rn_ret.mpr ⟨rfl, cs, f6, hc, by omega, n16, rfl⟩⟩
    simp only [rn_sSeq, rn_sDrop, rn_eApp, rn_eTup, rn_eBin, rn_eCons, rn_eNil, rn_eC, eVar, List.getElem?_cons_succ, List.getElem?_cons_zero, rn_ret, oPowI, oSubI, after_nx, rn_sNil]
    refine ⟨rfl, ⟨⟨by decide, by decide⟩, by decide⟩, ⟨⟨by decide, by decide⟩, by decide⟩, by show (3 : Nat) ≤ line; decide, app_cell.mpr ⟨few, trivial, _, f6, fun d m => (List.mem_append.mp m).elim (hc d) fun h => ?_, by simp; omega, n16, rfl⟩⟩
    rw [List.mem_singleton.mp h]
    exact jump_row (by decide) (by decide) (by decide) (by decide)
  rintro _ _ ⟨rfl, es, f7, he, le, n7, rfl⟩
  have epu : D.pus es = true := pus_iff.mpr fun d m => (he d m).pu
  have okE : okS [.lst es] := okS.nil.cons epu
  rw [after_nx, rn_sSeq]
  simp only [rn_sRet, rn_eTup, rn_eBl, rn_eCons, rn_eNil, rn_eCall, rn_ar, eVar, List.getElem?_cons_succ, List.getElem?_cons_zero, rn_ret, tuple_lst, tuple_cell, after_rt]
  refine sorted_lbl hl (by omega) fun xs lx hx => ⟨rfl, sp_some okE hx (by omega) (hf.next n7 (by decide)) fun hs f8 n8 lh hh => ?_⟩
  have good : IsPlan bs es hs := ⟨by omega, by omega, by omega, hb, he, hh⟩
  refine ⟨by show (3 : Nat) ≤ line; decide, end_pu (good.pu) (okE.cons (Fd.pu _)) ?_⟩
  exact p bs es hs f8 ((n7.trans n8 (k := 610) (by decide)).trans (.refl (k := 100)) (by decide)) good
end K06

namespace K06
open PySem PySem.Spec Pv
/-! ### texts joined -/
def sumL (ws : List Str) : Nat := (ws.map (·.length)).sum
theorem glue_len (sep : Str) : ∀ (ws : List Str) (acc : Array Nat), (ws.foldl (fun acc p => acc ++ sep.cps ++ p.cps) acc).size = acc.size + sumL ws + ws.length * sep.length
  | [], acc => by simp [sumL]
  | w :: ws, acc => by
    rw [List.foldl_cons, glue_len sep ws]
    simp only [Array.size_append, sumL, List.map_cons, List.sum_cons, List.length_cons, Str.length]
    rw [Nat.succ_mul]
    omega
theorem join_len (sep w : Str) (ws : List Str) : (Txt.join sep (w :: ws)).length = w.length + sumL ws + ws.length * sep.length := by
  show (((w :: ws).drop 1).foldl (fun acc p => acc ++ sep.cps ++ p.cps) ((w :: ws).headD Str.empty).cps).size = _
  exact glue_len sep ws w.cps
theorem sum_cons (w : Str) (ws : List Str) : sumL (w :: ws) = w.length + sumL ws := rfl
theorem sum_mem {w : Str} : ∀ {ws : List Str}, w ∈ ws → w.length ≤ sumL ws
  | [], h => nomatch h
  | x :: ws, h => by
    rw [sum_cons]
    rcases List.mem_cons.mp h with e | h
    · rw [e]; omega
    · have := sum_mem h
      omega
/-- a list is joined: what must be seen to -/
theorem rn_join {sep : Str} {ws : List Str} {S : Store} {P : D → Store → Prop} (h : sumL ws + ws.length * sep.length ≤ line) (p : P (.str (Txt.join sep ws)) S) : Rn (oJoin (.str sep) (.lst (ws.map D.str)) S) P := by
  have e : oJoin (.str sep) (.lst (ws.map D.str)) S = (match strsD (ws.map D.str) with
    | some ys => guard' (decide ((ys.map (·.length)).sum + ys.length * sep.length ≤ line)) (ret (.str (Txt.join sep ys)) S)
    | none => none) := rfl
  rw [e, strs_of]
  show Rn (guard' _ (ret _ _)) _
  rw [rn_guard, rn_ret, decide_eq_true_eq]
  exact ⟨h, p⟩
theorem txts_map : ∀ ds : List D, txts ds = ds.map txt
  | [] => rfl
  | d :: ds => by simp only [txts, List.map_cons, txts_map ds]
theorem txt_tup (w : Str) (ds : List D) : txt (.tup (.str w :: ds)) = w ++ "(" ++ Txt.join "," (ds.map txt) ++ ")" := by
  simp only [txt, txts, txts_map]
/-- the length of such a text, from below -/
theorem txt_ge (w : Str) (ds : List D) : w.length + 1 + sumL (ds.map txt) + ds.length ≤ (txt (.tup (.str w :: ds))).length := by
  rw [txt_tup, app_len, app_len, app_len]
  have h1 : (Str.ofString "(").length = 1 := by decide +kernel
  have h2 : (Str.ofString ")").length = 1 := by decide +kernel
  have h3 : (Str.ofString ",").length = 1 := by decide +kernel
  cases ds with
  | nil => simp only [List.map_nil, sumL, List.sum_nil, List.length_nil]; omega
  | cons d ds =>
    simp only [List.map_cons, join_len, sum_cons, List.length_cons, List.length_map, h3, Nat.mul_one]
    omega
/-! ### slices, kinds -/
theorem cut1 {d : D} {ds : List D} : cutG (d :: ds) (some 1) none = ds := by
  simp [cutG, HT.sIx]
theorem sl1 {d : D} {ds : List D} {S : Store} {P : D → Store → Prop} : Rn (oSl (.tup (d :: ds)) (some 1) none S) P ↔ P (.tup ds) S := by
  show Rn (ret (.tup (cutG (d :: ds) (some 1) none)) S) P ↔ _
  rw [cut1, rn_ret]
theorem at0 {d : D} {ds : List D} : L2.atI (d :: ds) 0 = some d := atI_nat (i := 0) rfl
theorem isi {T n : String} {d : D} {b : Bool} {S : Store} {P : D → Store → Prop} (h : tyD S d = some n) (hk : L2.kitB n T = some b) : Rn (oIsi T d S) P ↔ P (.bl b) S := by
  unfold oIsi
  rw [h]
  simp only [hk, rn_ret]
theorem k_ss : L2.kitB "str" "str" = some true := by decide +kernel
theorem k_st : L2.kitB "str" "tuple" = some false := by decide +kernel
theorem k_is : L2.kitB "int" "str" = some false := by decide +kernel
theorem k_it : L2.kitB "int" "tuple" = some false := by decide +kernel
theorem k_ts : L2.kitB "tuple" "str" = some false := by decide +kernel
theorem k_tt : L2.kitB "tuple" "tuple" = some true := by decide +kernel
theorem big_log {i : Int} (h0 : 0 ≤ i) (h1 : i < 10 ^ 60) : i.natAbs.log2 < 200 := log_lt (n := 200) (Nat.lt_of_lt_of_le (show i.natAbs < 10 ^ 60 by omega) (by decide)) (by decide)
theorem str_int {i : Int} {S : Store} {P : D → Store → Prop} (h0 : 0 ≤ i) (h1 : i < 10 ^ 60) : Rn (oStr [.int i] S) P ↔ P (.str (txt (.int i))) S := by
  show Rn (guard' _ (ret _ _)) _ ↔ _
  rw [rn_guard, rn_ret, decide_eq_true_eq]
  have := big_log h0 h1
  exact ⟨fun h => h.2, fun h => ⟨by omega, h⟩⟩
theorem str_str {s : Str} {S : Store} {P : D → Store → Prop} : Rn (oStr [.str s] S) P ↔ P (.str s) S := rn_ret
theorem fmt_str {s : Str} {S : Store} {P : D → Store → Prop} : Rn (oFmt (.str s) S) P ↔ s.length ≤ line ∧ P (.str s) S := by
  show Rn (guard' _ (ret _ _)) _ ↔ _
  rw [rn_guard, rn_ret, decide_eq_true_eq]
/-- texts made one by one -/
theorem map_of {xs ds : List D} (hl : xs.length = ds.length) (h : ∀ (k : Nat) (x : D), xs[k]? = some x → ∃ d, ds[k]? = some d ∧ x = .str (txt d)) : xs = (ds.map txt).map D.str := by
  refine List.ext_getElem? fun k => ?_
  rw [List.getElem?_map, List.getElem?_map]
  cases e : xs[k]? with
  | none =>
    have : ds[k]? = none := by
      rw [List.getElem?_eq_none_iff] at e ⊢
      omega
    rw [this]
    rfl
  | some x =>
    obtain ⟨d, h1, h2⟩ := h k x e
    rw [h1, h2]
    rfl
def big : Nat := 40000
theorem big_line {n : Nat} (h : n ≤ big) : n ≤ line := Nat.le_trans h (by decide)
/-- the law's own writer -/
theorem word_ok {n : Nat} {d : D} (t : Tx n d) : ∀ (k : Nat) {S : Store} {P : D → Store → Prop}, okS S → n < k → (txt d).length ≤ big → P (.str (txt d)) S → Rn (F_law_word k [d] S) P := by
  induction t with
  | @int n i h0 h1 =>
    intro k S P hS hk hl p
    obtain ⟨k, rfl⟩ : ∃ j, k = j + 1 := ⟨k - 1, by omega⟩
    rw [F_law_word, rn_defF]
    show Rn (B_law_word _ [some (.int i), none] S) _
    unfold B_law_word
    simp only [rn_sSeq, rn_sIf, rn_bNot, rn_eTru, rn_eUn, eVar, List.getElem?_cons_zero, rn_ret, isi (d := .int i) rfl k_it, rn_byT_bl, rn_sRet, rn_eBl, rn_eCons, rn_eNil, str_int h0 h1, after_rt]
    exact ⟨fun _ => end_pu rfl hS (by rw [List.take_length]; exact p), fun h => (nomatch h)⟩
  | @str n s hs =>
    intro k S P hS hk hl p
    obtain ⟨k, rfl⟩ : ∃ j, k = j + 1 := ⟨k - 1, by omega⟩
    rw [F_law_word, rn_defF]
    show Rn (B_law_word _ [some (.str s), none] S) _
    unfold B_law_word
    simp only [rn_sSeq, rn_sIf, rn_bNot, rn_eTru, rn_eUn, eVar, List.getElem?_cons_zero, rn_ret, isi (d := .str s) rfl k_st, rn_byT_bl, rn_sRet, rn_eBl, rn_eCons, rn_eNil, str_str, after_rt]
    exact ⟨fun _ => end_pu rfl hS (by rw [List.take_length]; exact p), fun h => (nomatch h)⟩
  | @tup n w ds hw hd ih =>
    intro k S P hS hk hl p
    obtain ⟨k, rfl⟩ : ∃ j, k = j + 1 := ⟨k - 1, by omega⟩
    rw [F_law_word, rn_defF]
    show Rn (B_law_word _ [some (.tup (.str w :: ds)), none] S) _
    unfold B_law_word
    have ge := txt_ge w ds
    have c1 : (Str.ofString ",").length = 1 := by decide +kernel
    simp only [rn_sSeq, rn_sIf, rn_bNot, rn_eTru, rn_eUn, eVar, List.getElem?_cons_zero, rn_ret, isi (d := .tup (.str w :: ds)) rfl k_tt, rn_byT_bl]
    refine ⟨fun h => (nomatch h), fun _ => ?_⟩
    simp only [rn_sNil, after_nx, rn_sSeq, rn_sRet, rn_eBin, rn_eC, eVar, List.getElem?_cons_zero, rn_ret, ix_tup (ds := D.str w :: ds) (i := 0) (d := .str w) at0, oAddS, rn_eM1, rn_eComp]
    have p1 : (Str.ofString "(").length = 1 := by decide +kernel
    have p2 : (Str.ofString ")").length = 1 := by decide +kernel
    refine ⟨big_line (by omega), rfl, rn_iSeq_tup ?_⟩
    simp only [rn_eSl, rn_ePart_none, rn_ePart_some, rn_eC, eVar, List.getElem?_cons_zero, rn_ret]
    refine ⟨1, rfl, sl1.mpr ⟨ds, rfl, ?_⟩⟩
    refine comp_pure (Q := fun k x => ∃ d, ds[k]? = some d ∧ x = .str (txt d)) (s := .seq (.tup ds)) rfl (big_line (by omega)) (Nat.lt_of_le_of_lt (by omega : ds.length ≤ big) (by decide)) (fun j d e => ⟨_, rfl, fun P hP => ?_⟩) fun xs lx hx => ?_
    · show Rn (eCall _ _ _ [some (.tup (.str w :: ds)), some d] _) _
      have m := List.mem_of_getElem? e
      have := sum_mem (List.mem_map_of_mem (f := txt) m)
      simp only [rn_sSeq, rn_sSet, rn_sRet, rn_sIf, rn_sNil, rn_sDrop, rn_sPar, rn_sUnp, rn_sPut, after_nx, after_rt, rn_eBin, rn_eUn, rn_eBl, rn_eC, rn_eCons, rn_eNil, rn_eTup, rn_eLst, rn_eCall, rn_ar, rn_eTru, rn_byT_bl, rn_bNot, rn_bOr, rn_bAnd, rn_eIf, rn_ret, rn_guard, rn_eMk, rn_eApp, rn_eDisp, rn_eSl, rn_ePart_none, rn_ePart_some, rn_eM1, rn_eJs_nil, rn_eJs_cons, rn_eComp, rn_sFor, eVar, List.getElem?_cons_succ, List.getElem?_cons_zero, List.set_cons_succ, List.set_cons_zero, eInt, oAddI, oSubI, oMulI, oDivI, oModI, oLtI, oGtI, oGeI, oEqI]
      exact ⟨rfl, ih d m k hS (by omega) (by omega) (hP _ ⟨d, e, rfl⟩)⟩
    · rw [map_of lx hx]
      refine rn_join (big_line (by rw [List.length_map, c1]; omega)) ?_
      have e := txt_tup w ds
      have l2 : (w ++ Str.ofString "(" ++ Txt.join "," (ds.map txt)).length + 1 = (txt (.tup (.str w :: ds))).length := by
        rw [e, app_len (b := Str.ofString ")"), p2]
      have l1 : (w ++ Str.ofString "(").length + (Txt.join "," (ds.map txt)).length = (w ++ Str.ofString "(" ++ Txt.join "," (ds.map txt)).length := app_len.symm
      simp only [oAddS, after_rt]
      refine ⟨big_line (by omega), big_line (by omega), ?_⟩
      rw [← e]
      exact end_pu rfl hS (by rw [List.take_length]; exact p)
end K06

namespace K06
open PySem PySem.Spec Pv
theorem app_last {S : Store} {ds : List D} {d : D} {P : D → Store → Prop} : Rn (oApp (.cell S.length) [d] (S ++ [.lst ds])) P ↔ ds.length < line ∧ P .non (S ++ [.lst (ds ++ [d])]) := by
  have e : oApp (.cell S.length) [d] (S ++ [.lst ds]) = (match (S ++ [Cell.lst ds])[S.length]? with
    | some (.lst ds') => guard' (decide (ds'.length < line)) (ret .non ((S ++ [Cell.lst ds]).set S.length (.lst (ds' ++ [d]))))
    | _ => none) := rfl
  have e1 : (S ++ [Cell.lst ds])[S.length]? = some (.lst ds) := by simp
  have e2 : (S ++ [Cell.lst ds]).set S.length (.lst (ds ++ [d])) = S ++ [.lst (ds ++ [d])] := by simp
  rw [e, e1]
  show Rn (guard' _ (ret _ _)) _ ↔ _
  rw [rn_guard, rn_ret, decide_eq_true_eq, e2]
theorem isl_last {S : Store} {ds : List D} : isList (S ++ [.lst ds]) (.cell S.length) = true := by
  unfold isList asL
  simp
theorem rev_last {S : Store} {ds : List D} {P : D → Store → Prop} : Rn (oRev (.cell S.length) (S ++ [.lst ds])) P ↔ P (.lst ds.reverse) (S ++ [.lst ds]) := by
  have e : asL (S ++ [Cell.lst ds]) (.cell S.length) = some ds := by
    unfold asL
    simp
  unfold oRev
  rw [e]
  exact rn_ret
theorem add_last {S : Store} {ds es : List D} {P : D → Store → Prop} : Rn (oAdd (.cell S.length) (.lst es) (S ++ [.lst ds])) P ↔ ds.length + es.length ≤ line ∧ P (.lst (ds ++ es)) (S ++ [.lst ds]) := by
  have e : asM (S ++ [Cell.lst ds]) (.cell S.length) = some ds := by
    unfold asM
    simp
  have e2 : oAdd (.cell S.length) (.lst es) (S ++ [.lst ds]) = (match asM (S ++ [Cell.lst ds]) (.cell S.length) with
    | some a => guard' (decide (a.length + es.length ≤ line)) (ret (.lst (a ++ es)) (S ++ [.lst ds]))
    | none => none) := rfl
  rw [e2, e]
  show Rn (guard' _ (ret _ _)) _ ↔ _
  rw [rn_guard, rn_ret, decide_eq_true_eq]
theorem take_last {S : Store} {c : Cell} : (S ++ [c]).take S.length = S := by simp
theorem while_stop {t : Pv.Env → Store → Out Bool} {b : SemS} {m : Nat} {ρ : Pv.Env} {S : Store} {P : Fl → Store → Prop} (h : Rn (t ρ S) fun k S1 => k = false ∧ P (.nx ρ) S1) : Rn (whileL t b (m + 1) ρ S) P := by
  unfold whileL
  rw [rn_bnd]
  refine h.imp fun k S1 ⟨e, p⟩ => ?_
  subst e
  exact rn_ret.mpr p
theorem empty_app (s : Str) : Str.empty ++ s = s := by
  show Str.mk (#[] ++ s.cps) = s
  rw [Array.empty_append]
theorem join_one (sep s : Str) : Txt.join sep [s] = s := rfl
/-- a number's text by the program -/
theorem num_ok {i : Int} {S : Store} {P : D → Store → Prop} (hS : okS S) (h0 : 0 ≤ i) (h1 : i < 10 ^ 60) (p : P (.str (txt (.int i))) S) : Rn (F_number_text [.int i] S) P := by
  rw [F_number_text, rn_defF]
  show Rn (B_number_text [some (.int i), none, none] S) _
  unfold B_number_text
  simp only [rn_sSeq, rn_sSet, rn_eMk, rn_eLst, rn_eNil, eVar, List.getElem?_cons_zero, List.getElem?_cons_succ, List.set_cons_succ, List.set_cons_zero, rn_ret, after_nx]
  refine ⟨by show (0 : Nat) ≤ line; decide, [], rfl, while_stop (m := 999999) ?_⟩
  simp only [rn_eTru, rn_eBin, rn_eC, eVar, List.getElem?_cons_zero, List.getElem?_cons_succ, rn_ret, oGeI, rn_byT_bl, decide_eq_false_iff_not]
  refine ⟨by omega, ?_⟩
  simp only [after_nx, rn_sSeq, rn_sDrop, rn_eApp, rn_eBl, rn_eCons, rn_eNil, eVar, List.getElem?_cons_zero, List.getElem?_cons_succ, rn_ret, str_int h0 h1, isl_last, app_last, rn_sRet, rn_eM1, rn_eC, rn_eUn, after_rt, rev_last]
  refine ⟨trivial, by show (0 : Nat) < line; decide, rfl, ?_⟩
  have e : ([] ++ [D.str (txt (.int i))] : List D).reverse = [txt (.int i)].map D.str := rfl
  rw [e]
  have l := num_len h0 h1
  have z : (Str.ofString "").length = 0 := by decide +kernel
  have sl : sumL [txt (.int i)] + [txt (.int i)].length * (Str.ofString "").length ≤ big := by
    rw [sum_cons, z]
    show (txt (.int i)).length + 0 + 0 ≤ big
    exact Nat.le_trans l (by decide)
  refine rn_join (big_line sl) ?_
  rw [join_one]
  exact end_pu rfl (hS.one rfl) (by rw [take_last]; exact p)
/-- an expression's text by the program -/
theorem expr_ok {n : Nat} {d : D} (t : Tx n d) : ∀ (k : Nat) {S : Store} {P : D → Store → Prop}, okS S → n < k → (txt d).length ≤ big → P (.str (txt d)) S → Rn (F_expression_text k [d] S) P := by
  induction t with
  | @int n i h0 h1 =>
    intro k S P hS hk hl p
    obtain ⟨k, rfl⟩ : ∃ j, k = j + 1 := ⟨k - 1, by omega⟩
    rw [F_expression_text, rn_defF]
    show Rn (B_expression_text _ [some (.int i), none, none] S) _
    unfold B_expression_text
    simp only [rn_sSeq, rn_sIf, rn_eTru, rn_eUn, eVar, List.getElem?_cons_zero, rn_ret, isi (d := .int i) rfl k_it, isi (d := .int i) rfl k_is, rn_byT_bl, rn_sRet, rn_eCons, rn_eNil, after_rt, rn_sNil, after_nx, rn_eCall, rn_ar]
    exact ⟨fun h => (nomatch h), fun _ => ⟨fun h => (nomatch h), fun _ => ⟨rfl, num_ok hS h0 h1 (end_pu rfl hS (by rw [List.take_length]; exact p))⟩⟩⟩
  | @str n s hs =>
    intro k S P hS hk hl p
    obtain ⟨k, rfl⟩ : ∃ j, k = j + 1 := ⟨k - 1, by omega⟩
    rw [F_expression_text, rn_defF]
    show Rn (B_expression_text _ [some (.str s), none, none] S) _
    unfold B_expression_text
    rw [rn_sSeq]
    simp only [rn_sSeq, rn_sIf, rn_eTru, rn_eUn, eVar, List.getElem?_cons_zero, rn_ret, isi (d := .str s) rfl k_ss, rn_byT_bl, rn_sRet, after_rt]
    exact ⟨fun _ => end_pu rfl hS (by rw [List.take_length]; exact p), fun h => (nomatch h)⟩
  | @tup n w ds hw hd ih =>
    intro k S P hS hk hl p
    obtain ⟨k, rfl⟩ : ∃ j, k = j + 1 := ⟨k - 1, by omega⟩
    rw [F_expression_text, rn_defF]
    show Rn (B_expression_text _ [some (.tup (.str w :: ds)), none, none] S) _
    unfold B_expression_text
    have ge := txt_ge w ds
    have c1 : (Str.ofString ",").length = 1 := by decide +kernel
    rw [rn_sSeq]
    simp only [rn_sIf, rn_eTru, rn_eUn, eVar, List.getElem?_cons_zero, rn_ret, isi (d := .tup (.str w :: ds)) rfl k_ts, rn_byT_bl, rn_sNil, after_nx]
    refine ⟨fun h => (nomatch h), fun _ => ?_⟩
    rw [rn_sSeq]
    simp only [rn_sIf, rn_eTru, rn_eUn, eVar, List.getElem?_cons_zero, rn_ret, isi (d := .tup (.str w :: ds)) rfl k_tt, rn_byT_bl]
    refine ⟨fun _ => ?_, fun h => (nomatch h)⟩
    rw [rn_sSeq]
    simp only [rn_sSet, rn_eM1, rn_eC, rn_eComp]
    refine ⟨rfl, rn_iSeq_tup ?_⟩
    simp only [rn_eSl, rn_ePart_none, rn_ePart_some, rn_eC, eVar, List.getElem?_cons_zero, rn_ret]
    refine ⟨1, rfl, sl1.mpr ⟨ds, rfl, ?_⟩⟩
    refine comp_pure (Q := fun k x => ∃ d, ds[k]? = some d ∧ x = .str (txt d)) (s := .seq (.tup ds)) rfl (big_line (by omega)) (Nat.lt_of_le_of_lt (by omega : ds.length ≤ big) (by decide)) (fun j d e => ⟨_, rfl, fun P hP => ?_⟩) fun xs lx hx => ?_
    · show Rn (eCall _ _ _ [some (.tup (.str w :: ds)), none, some d] _) _
      have m := List.mem_of_getElem? e
      have := sum_mem (List.mem_map_of_mem (f := txt) m)
      simp only [rn_sSeq, rn_sSet, rn_sRet, rn_sIf, rn_sNil, rn_sDrop, rn_sPar, rn_sUnp, rn_sPut, after_nx, after_rt, rn_eBin, rn_eUn, rn_eBl, rn_eC, rn_eCons, rn_eNil, rn_eTup, rn_eLst, rn_eCall, rn_ar, rn_eTru, rn_byT_bl, rn_bNot, rn_bOr, rn_bAnd, rn_eIf, rn_ret, rn_guard, rn_eMk, rn_eApp, rn_eDisp, rn_eSl, rn_ePart_none, rn_ePart_some, rn_eM1, rn_eJs_nil, rn_eJs_cons, rn_eComp, rn_sFor, eVar, List.getElem?_cons_succ, List.getElem?_cons_zero, List.set_cons_succ, List.set_cons_zero, eInt, oAddI, oSubI, oMulI, oDivI, oModI, oLtI, oGtI, oGeI, oEqI]
      exact ⟨rfl, ih d m k hS (by omega) (by omega) (hP _ ⟨d, e, rfl⟩)⟩
    · rw [map_of lx hx]
      refine rn_join (big_line (by rw [List.length_map, c1]; omega)) ?_
      have e := txt_tup w ds
      have p1 : (Str.ofString "(").length = 1 := by decide +kernel
      have p2 : (Str.ofString ")").length = 1 := by decide +kernel
      have l2 : (w ++ Str.ofString "(" ++ Txt.join "," (ds.map txt)).length + 1 = (txt (.tup (.str w :: ds))).length := by
        rw [e, app_len (b := Str.ofString ")"), p2]
      have l1 : (w ++ Str.ofString "(").length + (Txt.join "," (ds.map txt)).length = (w ++ Str.ofString "(" ++ Txt.join "," (ds.map txt)).length := app_len.symm
      have l0 : (w ++ Str.ofString "(").length = w.length + 1 := by rw [app_len, p1]
      have l3 : (w ++ Str.ofString "(" ++ Txt.join "," (ds.map txt) ++ Str.ofString ")").length = (txt (.tup (.str w :: ds))).length := by rw [e]
      simp only [after_nx, rn_sSeq, rn_sRet, rn_eJs_cons, rn_eJs_nil, rn_eUn, rn_eBin, rn_eC, eVar, List.getElem?_cons_zero, List.getElem?_cons_succ, List.set_cons_succ, List.set_cons_zero, rn_ret, ix_tup (ds := D.str w :: ds) (i := 0) (d := .str w) at0, fmt_str, after_rt]
      refine ⟨big_line (by omega), w, rfl, by rw [empty_app]; exact big_line (by omega), _, rfl, by rw [empty_app]; exact big_line (by omega), big_line (by omega), _, rfl, by rw [empty_app]; exact big_line (by omega), _, rfl, by rw [empty_app]; exact big_line (by omega), ?_⟩
      rw [empty_app, ← e]
      exact end_pu rfl hS (by rw [List.take_length]; exact p)
end K06

namespace K06
open PySem PySem.Spec Pv
def IsRw (d : D) : Prop := ∃ w ds, d = .tup (.str w :: ds) ∧ Lbl w ∧ ds.length ≤ 4 ∧ ∀ x ∈ ds, Tx 60 x ∧ (txt x).length ≤ 600
theorem IsRow.rw {d : D} (h : IsRow d) : IsRw d := let ⟨w, ds, e, hw, hl, h⟩ := h; ⟨w, ds, e, hw, hl, fun x m => ⟨(h x m).1.mono (by decide), (h x m).2⟩⟩
theorem IsRw.pu {d : D} (h : IsRw d) : d.pu = true := by
  obtain ⟨w, ds, rfl, _, _, h⟩ := h
  exact pus_iff.mpr fun d hd => (List.mem_cons.mp hd).elim (fun e => by rw [e]; rfl) fun m => (h d m).1.pu
def itemsOf : D → List D
  | .tup ds => ds
  | _ => []
def rowT (d : D) : Str := Txt.join " " ((itemsOf d).map txt)
/-- what stands in a row of words -/
structure Wds (es : List D) : Prop where
  few : es.length ≤ 6
  all : ∀ x ∈ es, Tx 60 x ∧ (txt x).length ≤ 600
theorem sum_le {ds : List D} {b : Nat} (h : ∀ x ∈ ds, (txt x).length ≤ b) : sumL (ds.map txt) ≤ ds.length * b := by
  induction ds with
  | nil => simp [sumL]
  | cons d ds ih =>
    have h1 := h d (List.mem_cons_self ..)
    have h2 := ih fun x m => h x (List.mem_cons_of_mem _ m)
    rw [List.map_cons, sum_cons, List.length_cons, Nat.succ_mul]
    omega
theorem sp1 : (Str.ofString " ").length = 1 := by decide +kernel
theorem Wds.sum {es : List D} (h : Wds es) : sumL (es.map txt) + es.length ≤ 3606 := by
  have h1 := sum_le fun x m => (h.all x m).2
  have h2 := h.few
  omega
theorem words_ok {es : List D} {S : Store} {P : D → Store → Prop} (hS : okS S) (h : Wds es) (p : P (.str (Txt.join " " (es.map txt))) S) : Rn (F_words_text [.tup es] S) P := by
  rw [F_words_text, rn_defF]
  show Rn (B_words_text [some (.tup es), none] S) _
  unfold B_words_text
  have hs := h.sum
  have hf := h.few
  simp only [rn_sSeq, rn_sRet, rn_eM1, rn_eC, rn_eComp]
  refine ⟨rfl, rn_iSeq_tup ?_⟩
  simp only [eVar, List.getElem?_cons_zero, rn_ret]
  refine ⟨es, rfl, ?_⟩
  refine comp_pure (Q := fun k x => ∃ d, es[k]? = some d ∧ x = .str (txt d)) (s := .seq (.tup es)) rfl (big_line (Nat.le_trans hf (by decide))) (by omega) (fun j d e => ⟨_, rfl, fun P hP => ?_⟩) fun xs lx hx => ?_
  · show Rn (eCall _ _ _ [some (.tup es), some d] _) _
    have m := h.all d (List.mem_of_getElem? e)
    simp only [rn_sSeq, rn_sSet, rn_sRet, rn_sIf, rn_sNil, rn_sDrop, rn_sPar, rn_sUnp, rn_sPut, after_nx, after_rt, rn_eBin, rn_eUn, rn_eBl, rn_eC, rn_eCons, rn_eNil, rn_eTup, rn_eLst, rn_eCall, rn_ar, rn_eTru, rn_byT_bl, rn_bNot, rn_bOr, rn_bAnd, rn_eIf, rn_ret, rn_guard, rn_eMk, rn_eApp, rn_eDisp, rn_eSl, rn_ePart_none, rn_ePart_some, rn_eM1, rn_eJs_nil, rn_eJs_cons, rn_eComp, rn_sFor, eVar, List.getElem?_cons_succ, List.getElem?_cons_zero, List.set_cons_succ, List.set_cons_zero, eInt, oAddI, oSubI, oMulI, oDivI, oModI, oLtI, oGtI, oGeI, oEqI]
    exact ⟨rfl, expr_ok m.1 64 hS (by decide) (Nat.le_trans m.2 (by decide)) (hP _ ⟨d, e, rfl⟩)⟩
  · rw [map_of lx hx]
    refine rn_join (big_line (by rw [List.length_map, sp1]; exact Nat.le_trans (by omega : _ ≤ 3606) (by decide))) ?_
    simp only [after_rt]
    exact end_pu rfl hS (by rw [List.take_length]; exact p)
theorem IsRw.wds {d : D} (h : IsRw d) : ∃ es, d = .tup es ∧ Wds es := by
  obtain ⟨w, ds, rfl, hw, hl, h⟩ := h
  exact ⟨_, rfl, by simp only [List.length_cons]; omega, fun x m => (List.mem_cons.mp m).elim (fun e => by rw [e]; exact ⟨.str hw, Nat.le_trans hw.len (by decide)⟩) (h x)⟩
theorem instr_ok {d : D} {S : Store} {P : D → Store → Prop} (hS : okS S) (h : IsRw d) (p : P (.str (rowT d)) S) : Rn (F_instruction_text [d] S) P := by
  obtain ⟨es, rfl, hw⟩ := h.wds
  rw [F_instruction_text, rn_defF]
  show Rn (B_instruction_text [some (.tup es)] S) _
  unfold B_instruction_text
  simp only [rn_sSeq, rn_sSet, rn_sRet, rn_sIf, rn_sNil, rn_sDrop, rn_sPar, rn_sUnp, rn_sPut, after_nx, after_rt, rn_eBin, rn_eUn, rn_eBl, rn_eC, rn_eCons, rn_eNil, rn_eTup, rn_eLst, rn_eCall, rn_ar, rn_eTru, rn_byT_bl, rn_bNot, rn_bOr, rn_bAnd, rn_eIf, rn_ret, rn_guard, rn_eMk, rn_eApp, rn_eDisp, rn_eSl, rn_ePart_none, rn_ePart_some, rn_eM1, rn_eJs_nil, rn_eJs_cons, rn_eComp, rn_sFor, eVar, List.getElem?_cons_succ, List.getElem?_cons_zero, List.set_cons_succ, List.set_cons_zero, eInt, oAddI, oSubI, oMulI, oDivI, oModI, oLtI, oGtI, oGeI, oEqI]
  exact ⟨rfl, words_ok hS hw (end_pu rfl hS (by rw [List.take_length]; exact p))⟩
theorem lrow_ok {d : D} {S : Store} {P : D → Store → Prop} (hS : okS S) (h : IsRw d) (p : P (.str (rowT d)) S) : Rn (F_law_row [d] S) P := by
  obtain ⟨w, ds, rfl, hw, hl, h⟩ := h
  rw [F_law_row, rn_defF]
  show Rn (B_law_row [some (.tup (.str w :: ds)), none] S) _
  unfold B_law_row
  have hs := sum_le fun x m => (h x m).2
  simp only [rn_sSeq, rn_sRet, rn_eM1, rn_eC, rn_eBin, rn_eLst, rn_eCons, rn_eNil, rn_eComp, eVar, List.getElem?_cons_zero, rn_ret, ix_tup (ds := D.str w :: ds) (i := 0) (d := .str w) at0]
  refine ⟨rfl, by show (1 : Nat) ≤ line; decide, rn_iSeq_tup ?_⟩
  simp only [rn_eSl, rn_ePart_none, rn_ePart_some, rn_eC, eVar, List.getElem?_cons_zero, rn_ret]
  refine ⟨1, rfl, sl1.mpr ⟨ds, rfl, ?_⟩⟩
  refine comp_pure (Q := fun k x => ∃ d, ds[k]? = some d ∧ x = .str (txt d)) (s := .seq (.tup ds)) rfl (big_line (Nat.le_trans hl (by decide))) (by omega) (fun j d e => ⟨_, rfl, fun P hP => ?_⟩) fun xs lx hx => ?_
  · show Rn (eCall _ _ _ [some (.tup (.str w :: ds)), some d] _) _
    have m := h d (List.mem_of_getElem? e)
    simp only [rn_sSeq, rn_sSet, rn_sRet, rn_sIf, rn_sNil, rn_sDrop, rn_sPar, rn_sUnp, rn_sPut, after_nx, after_rt, rn_eBin, rn_eUn, rn_eBl, rn_eC, rn_eCons, rn_eNil, rn_eTup, rn_eLst, rn_eCall, rn_ar, rn_eTru, rn_byT_bl, rn_bNot, rn_bOr, rn_bAnd, rn_eIf, rn_ret, rn_guard, rn_eMk, rn_eApp, rn_eDisp, rn_eSl, rn_ePart_none, rn_ePart_some, rn_eM1, rn_eJs_nil, rn_eJs_cons, rn_eComp, rn_sFor, eVar, List.getElem?_cons_succ, List.getElem?_cons_zero, List.set_cons_succ, List.set_cons_zero, eInt, oAddI, oSubI, oMulI, oDivI, oModI, oLtI, oGtI, oGeI, oEqI]
    exact ⟨rfl, word_ok m.1 64 hS (by decide) (Nat.le_trans m.2 (by decide)) (hP _ ⟨d, e, rfl⟩)⟩
  · rw [map_of lx hx]
    have e : [D.str w] ++ (ds.map txt).map D.str = (txt (.str w) :: ds.map txt).map D.str := rfl
    refine oAddL.mpr ⟨big_line (by simp only [List.length_cons, List.length_nil, List.length_map]; exact Nat.le_trans (by omega : _ ≤ 10) (by decide)), ?_⟩
    rw [e]
    have lw : (txt (.str w)).length ≤ 30 := hw.len
    refine rn_join (big_line (by rw [sum_cons, List.length_cons, List.length_map, sp1]; exact Nat.le_trans (by omega : _ ≤ 3000) (by decide))) ?_
    simp only [after_rt]
    exact end_pu rfl hS (by rw [List.take_length]; exact p)
/-! ### whole programs -/
theorem glue_app (sep : Array Nat) : ∀ (ws : List Str) (a b : Array Nat), ws.foldl (fun acc p => acc ++ sep ++ p.cps) (a ++ b) = a ++ ws.foldl (fun acc p => acc ++ sep ++ p.cps) b
  | [], a, b => rfl
  | w :: ws, a, b => by
    rw [List.foldl_cons, List.foldl_cons, ← glue_app sep ws]
    congr 1
    simp only [Array.append_assoc]
theorem join_cons (sep w x : Str) (ws : List Str) : Txt.join sep (w :: x :: ws) = w ++ sep ++ Txt.join sep (x :: ws) := by
  show Str.mk (ws.foldl (fun acc p => acc ++ sep.cps ++ p.cps) (w.cps ++ sep.cps ++ x.cps)) = Str.mk ((w.cps ++ sep.cps) ++ ws.foldl (fun acc p => acc ++ sep.cps ++ p.cps) x.cps)
  rw [glue_app]
def IsBx (d : D) : Prop := ∃ (s w : Str) (u v : Int), d = .tup [.str s, .str w, .int u, .int v] ∧ Lbl s ∧ Lbl w ∧ (0 ≤ u ∧ u < 10 ^ 60) ∧ (0 ≤ v ∧ v < 10 ^ 60)
theorem IsBox.bx {d : D} (h : IsBox d) : IsBx d := by
  obtain ⟨s, w, u, v, rfl, hs, w', ds, e, _, _, h⟩ := h
  simp only [D.tup.injEq, List.cons.injEq, D.str.injEq] at e
  obtain ⟨rfl, rfl⟩ := e
  have h1 := (h (.str w) (by simp)).1
  have h2 := (h (.int u) (by simp)).1
  have h3 := (h (.int v) (by simp)).1
  refine ⟨s, w, u, v, rfl, hs, ?_, ?_, ?_⟩
  · cases h1; assumption
  · cases h2; exact ⟨by assumption, by assumption⟩
  · cases h3; exact ⟨by assumption, by assumption⟩
theorem IsBx.items {d : D} (h : IsBx d) : ∃ es, d = .tup es ∧ es.length = 4 ∧ ∀ x ∈ es, IsL x ∨ ∃ i : Int, x = .int i ∧ 0 ≤ i ∧ i < 10 ^ 60 := by
  obtain ⟨s, w, u, v, rfl, hs, hw, hu, hv⟩ := h
  refine ⟨_, rfl, rfl, fun x m => ?_⟩
  simp only [List.mem_cons, List.not_mem_nil, or_false] at m
  rcases m with rfl | rfl | rfl | rfl
  · exact .inl ⟨s, rfl, hs⟩
  · exact .inl ⟨w, rfl, hw⟩
  · exact .inr ⟨u, rfl, hu⟩
  · exact .inr ⟨v, rfl, hv⟩
theorem IsBx.pu {d : D} (h : IsBx d) : d.pu = true := by
  obtain ⟨s, w, u, v, rfl, _⟩ := h
  rfl
structure IsPl (bs cs hs : List D) : Prop where
  lb : bs.length ≤ 8
  lc : cs.length ≤ 30
  lh : hs.length ≤ 8
  rb : ∀ d ∈ bs, IsBx d
  rc : ∀ d ∈ cs, IsRw d
  rh : ∀ d ∈ hs, IsL d
theorem IsPlan.pl {bs cs hs : List D} (h : IsPlan bs cs hs) : IsPl bs cs hs := ⟨h.lb, h.lc, h.lh, fun d m => (h.rb d m).bx, fun d m => (h.rc d m).rw, h.rh⟩
def cellT (d : D) : Str := Txt.join " " (Str.ofString "cell" :: (itemsOf d).map txt)
def toldT (hs : List D) : Str := if hs.isEmpty then "-" else Txt.join "," (hs.map txt)
def linesT (bs cs hs : List D) : List Str := bs.map cellT ++ [Str.ofString "told " ++ toldT hs] ++ cs.map rowT
end K06

namespace K06
open PySem PySem.Spec Pv
theorem items_wds {es : List D} (hl : es.length = 4) (h : ∀ x ∈ es, IsL x ∨ ∃ i : Int, x = .int i ∧ 0 ≤ i ∧ i < 10 ^ 60) : ∀ x ∈ es, Tx 60 x ∧ (txt x).length ≤ 61 := fun x m => by
  rcases h x m with ⟨s, rfl, hs⟩ | ⟨i, rfl, h0, h1⟩
  · exact ⟨.str hs, Nat.le_trans hs.len (by decide)⟩
  · exact ⟨.int h0 h1, num_len h0 h1⟩
theorem cell_len {d : D} (h : IsBx d) : (cellT d).length ≤ 260 := by
  obtain ⟨es, rfl, hl, hi⟩ := h.items
  have w := items_wds hl hi
  have s := sum_le fun x m => (w x m).2
  have c4 : (Str.ofString "cell").length = 4 := by decide +kernel
  show (Txt.join " " (Str.ofString "cell" :: es.map txt)).length ≤ 260
  rw [join_len, List.length_map, sp1, c4]
  omega
theorem told_len {hs : List D} (hl : hs.length ≤ 8) (h : ∀ d ∈ hs, IsL d) : (toldT hs).length ≤ 260 := by
  unfold toldT
  have c1 : (Str.ofString ",").length = 1 := by decide +kernel
  have s := sum_le (b := 30) (ds := hs) fun x m => by
    obtain ⟨s, rfl, hs⟩ := h x m
    exact hs.len
  cases hs with
  | nil =>
    have : (Str.ofString "-").length = 1 := by decide +kernel
    show (Str.ofString "-").length ≤ 260
    omega
  | cons d hs =>
    show (Txt.join "," (txt d :: hs.map txt)).length ≤ 260
    rw [List.map_cons, sum_cons] at s
    rw [join_len, List.length_map, c1]
    simp only [List.length_cons] at hl s
    omega
theorem row_len {d : D} (h : IsRw d) : (rowT d).length ≤ 2500 := by
  obtain ⟨w, ds, rfl, hw, hl, h⟩ := h
  have s := sum_le fun x m => (h x m).2
  show (Txt.join " " (w :: ds.map txt)).length ≤ 2500
  rw [join_len, List.length_map, sp1]
  have := hw.len
  omega
theorem sum_app (a b : List Str) : sumL (a ++ b) = sumL a + sumL b := by simp [sumL]
theorem sum_le' {f : D → Str} {ds : List D} {b : Nat} (h : ∀ x ∈ ds, (f x).length ≤ b) : sumL (ds.map f) ≤ ds.length * b := by
  induction ds with
  | nil => simp [sumL]
  | cons d ds ih =>
    have h1 := h d (List.mem_cons_self ..)
    have h2 := ih fun x m => h x (List.mem_cons_of_mem _ m)
    rw [List.map_cons, sum_cons, List.length_cons, Nat.succ_mul]
    omega
theorem t5 : (Str.ofString "told ").length = 5 := by decide +kernel
theorem lines_sum {bs cs hs : List D} (h : IsPl bs cs hs) : sumL (linesT bs cs hs) + (linesT bs cs hs).length ≤ 90000 := by
  have h1 := sum_le' (f := cellT) fun x m => cell_len (h.rb x m)
  have h2 := sum_le' (f := rowT) fun x m => row_len (h.rc x m)
  have h3 := told_len h.lh h.rh
  have h4 := h.lb
  have h5 := h.lc
  unfold linesT
  rw [sum_app, sum_app]
  have e : sumL [Str.ofString "told " ++ toldT hs] = 5 + (toldT hs).length := by
    rw [sum_cons, app_len, t5]
    rfl
  rw [e]
  simp only [List.length_append, List.length_map, List.length_cons, List.length_nil]
  have h6 : bs.length * 260 ≤ 8 * 260 := Nat.mul_le_mul h4 (Nat.le_refl _)
  have h7 : cs.length * 2500 ≤ 30 * 2500 := Nat.mul_le_mul h5 (Nat.le_refl _)
  omega
theorem map_of' {f : D → Str} {xs ds : List D} (hl : xs.length = ds.length) (h : ∀ (k : Nat) (x : D), xs[k]? = some x → ∃ d, ds[k]? = some d ∧ x = .str (f d)) : xs = (ds.map f).map D.str := by
  refine List.ext_getElem? fun k => ?_
  rw [List.getElem?_map, List.getElem?_map]
  cases e : xs[k]? with
  | none =>
    have : ds[k]? = none := by
      rw [List.getElem?_eq_none_iff] at e ⊢
      omega
    rw [this]
    rfl
  | some x =>
    obtain ⟨d, h1, h2⟩ := h k x e
    rw [h1, h2]
    rfl
theorem pus_map (ws : List Str) : D.pus (ws.map D.str) = true := pus_strs ws
theorem cell_sp : Str.ofString "cell" ++ Str.ofString " " = Str.ofString "cell " := by decide +kernel
theorem strs_lst {hs : List D} (h : ∀ d ∈ hs, IsL d) : hs = (hs.map txt).map D.str := by
  induction hs with
  | nil => rfl
  | cons d hs ih =>
    obtain ⟨s, rfl, _⟩ := h d (List.mem_cons_self ..)
    rw [List.map_cons, List.map_cons, ← ih fun x m => h x (List.mem_cons_of_mem _ m)]
    rfl
/-- a tuple is joined -/
theorem rn_joinT {sep : Str} {ws : List Str} {S : Store} {P : D → Store → Prop} (h : sumL ws + ws.length * sep.length ≤ line) (p : P (.str (Txt.join sep ws)) S) : Rn (oJoin (.str sep) (.tup (ws.map D.str)) S) P := by
  have e : oJoin (.str sep) (.tup (ws.map D.str)) S = (match strsD (ws.map D.str) with
    | some ys => guard' (decide ((ys.map (·.length)).sum + ys.length * sep.length ≤ line)) (ret (.str (Txt.join sep ys)) S)
    | none => none) := rfl
  rw [e, strs_of]
  show Rn (guard' _ (ret _ _)) _
  rw [rn_guard, rn_ret, decide_eq_true_eq]
  exact ⟨h, p⟩
theorem list_tup {ds : List D} {S : Store} {P : D → Store → Prop} : Rn (oList [.tup ds] S) P ↔ P (.lst ds) S := rn_ret
theorem oNe_nilT {ls : List D} {S : Store} {P : D → Store → Prop} (h : ∀ d ∈ ls, IsL d) : Rn (oNe (.tup ls) (.tup []) S) P ↔ P (.bl (!ls.isEmpty)) S := by
  obtain ⟨ps, e, h1, h2, h3⟩ := pys_lbl h
  have sh : ∀ qs, PyData.canLayAll0 qs = true → PyData.depthAll qs = 0 → SeqAt.shaped (.tuple qs) = true := fun qs a b => by
    unfold SeqAt.shaped
    simp only [PyData.canLay0, a, PyData.depth, b, Bool.true_and, decide_eq_true_eq]
    decide
  have q : pyEq S (.tup ls) (.tup []) = some ls.isEmpty := by
    have e1 : scEq (.tup ls) (.tup []) = none := rfl
    have e2 : D.py S (.tup ls) = some (.tuple ps) := by
      show D.py0 (.tup ls) = _
      simp only [D.py0, e]
    have e3 : D.py S (.tup []) = some (.tuple []) := rfl
    unfold pyEq
    rw [e1, e2, e3]
    simp only [sh ps h1 h2, sh [] rfl rfl, Bool.and_self, if_true]
    cases ls with
    | nil =>
      cases ps with
      | nil => rfl
      | cons _ _ => simp at h3
    | cons _ _ =>
      cases ps with
      | nil => simp at h3
      | cons _ _ => rfl
  unfold oNe
  rw [q]
  exact rn_ret
theorem told_join {hs : List D} (hl : hs.length ≤ 8) (h : ∀ d ∈ hs, IsL d) : sumL (hs.map txt) + (hs.map txt).length * (Str.ofString ",").length ≤ line := by
  have c1 : (Str.ofString ",").length = 1 := by decide +kernel
  have s := sum_le (b := 30) (ds := hs) fun x m => by
    obtain ⟨s, rfl, hs⟩ := h x m
    exact hs.len
  rw [List.length_map, c1]
  exact big_line (Nat.le_trans (by omega : _ ≤ 300) (by decide))
theorem rn_joinE {hs : List D} {sep : Str} {ws : List Str} {S : Store} {P : D → Store → Prop} (e : hs = ws.map D.str) (h : sumL ws + ws.length * sep.length ≤ line) (p : P (.str (Txt.join sep ws)) S) : Rn (oJoin (.str sep) (.lst hs) S) P := by
  rw [e]
  exact rn_join h p
theorem rn_joinTE {hs : List D} {sep : Str} {ws : List Str} {S : Store} {P : D → Store → Prop} (e : hs = ws.map D.str) (h : sumL ws + ws.length * sep.length ≤ line) (p : P (.str (Txt.join sep ws)) S) : Rn (oJoin (.str sep) (.tup hs) S) P := by
  rw [e]
  exact rn_joinT h p
theorem ix_p0 {bs cs hs : List D} {S : Store} {P : D → Store → Prop} : Rn (oIx (plan bs cs hs) (.int 0) S) P ↔ P (.tup bs) S := rn_ret
theorem ix_p1 {bs cs hs : List D} {S : Store} {P : D → Store → Prop} : Rn (oIx (plan bs cs hs) (.int 1) S) P ↔ P (.tup cs) S := rn_ret
theorem ix_p2 {bs cs hs : List D} {S : Store} {P : D → Store → Prop} : Rn (oIx (plan bs cs hs) (.int 2) S) P ↔ P (.tup hs) S := rn_ret
/-- the rows by the law -/
theorem llines_ok {bs cs hs : List D} {S : Store} {P : D → Store → Prop} (hS : okS S) (h : IsPl bs cs hs) (p : P (.lst ((linesT bs cs hs).map D.str)) S) : Rn (F_law_lines [plan bs cs hs] S) P := by
  rw [F_law_lines, rn_defF]
  show Rn (B_law_lines [some (plan bs cs hs), none, none, none, none] S) _
  unfold B_law_lines
  have h4 := h.lb
  have h5 := h.lc
  have h6 := h.lh
  rw [rn_sSeq]
  simp only [rn_sSet, rn_eMk, rn_eComp]
  refine rn_iSeq_tup ?_
  simp only [rn_eBin, rn_eC, eVar, List.getElem?_cons_zero, rn_ret]
  refine ix_p0.mpr ⟨bs, rfl, ?_⟩
  refine comp_pure (Q := fun k x => ∃ d, bs[k]? = some d ∧ x = .str (cellT d)) (s := .seq (.tup bs)) rfl (big_line (Nat.le_trans h4 (by decide))) (by omega) (fun j d e => ⟨_, rfl, fun P hP => ?_⟩) fun xs lx hx => ?_
  · show Rn (eBin _ _ _ [some (plan bs cs hs), none, some d, none, none] _) _
    obtain ⟨es, rfl, hl, hi⟩ := (h.rb d (List.mem_of_getElem? e)).items
    have w := items_wds hl hi
    simp only [rn_eBin, rn_eC, rn_eM1, rn_eComp]
    refine ⟨rfl, rn_iSeq_tup ?_⟩
    simp only [eVar, List.getElem?_cons_zero, List.getElem?_cons_succ, rn_ret]
    refine ⟨es, rfl, ?_⟩
    refine comp_pure (Q := fun k x => ∃ d, es[k]? = some d ∧ x = .str (txt d)) (s := .seq (.tup es)) rfl (by rw [hl]; decide) (by rw [hl]; decide) (fun j x ex => ⟨_, rfl, fun P hP => ?_⟩) fun ys ly hy => ?_
    · show Rn (eBl _ _ [some (plan bs cs hs), none, some (.tup es), some x, none] _) _
      simp only [rn_eBl, rn_eCons, rn_eNil, eVar, List.getElem?_cons_zero, List.getElem?_cons_succ, rn_ret]
      rcases hi x (List.mem_of_getElem? ex) with ⟨s, rfl, hs⟩ | ⟨i, rfl, h0, h1⟩
      · exact str_str.mpr (hP _ ⟨_, ex, rfl⟩)
      · exact (str_int h0 h1).mpr (hP _ ⟨_, ex, rfl⟩)
    · rw [map_of ly hy]
      have s := sum_le fun x m => (w x m).2
      refine rn_join (big_line (by rw [List.length_map, sp1]; exact Nat.le_trans (by omega : _ ≤ 300) (by decide))) ?_
      have len := cell_len (h.rb _ (List.mem_of_getElem? e))
      have ec : Str.ofString "cell " ++ Txt.join " " (es.map txt) = cellT (.tup es) := by
        show _ = Txt.join " " (Str.ofString "cell" :: es.map txt)
        cases es with
        | nil => cases hl
        | cons a as => rw [List.map_cons, join_cons, cell_sp]
      have l2 : (Str.ofString "cell ").length + (Txt.join " " (es.map txt)).length = (cellT (.tup es)).length := by rw [← ec, app_len]
      refine oAddS.mpr ⟨by rw [l2]; exact big_line (Nat.le_trans len (by decide)), ?_⟩
      rw [ec]
      exact hP _ ⟨_, e, rfl⟩
  · rw [map_of' lx hx]
    refine ⟨_, rfl, ?_⟩
    rw [after_nx, rn_sSeq]
    have tl := told_len h.lh h.rh
    refine Rn.imp (P := fun fl T => fl = Fl.nx [some (plan bs cs hs), some (.cell S.length), none, none, none] ∧ T = S ++ [.lst ((bs.map cellT ++ [Str.ofString "told " ++ toldT hs]).map D.str)]) ?_ ?_
    · simp only [rn_sDrop, rn_eApp, rn_eCons, rn_eNil, rn_eBin, rn_eC, rn_eIf, rn_eTru, rn_eTup, rn_eM1, rn_eBl, eVar, List.getElem?_cons_zero, List.getElem?_cons_succ, List.set_cons_succ, List.set_cons_zero, rn_ret, isl_last, ix_p2, oNe_nilT h.rh, rn_byT_bl, list_tup]
      have fin : ∀ t : Str, t = toldT hs → Rn (oAdd (.str "told ") (.str t) (S ++ [.lst ((bs.map cellT).map D.str)])) fun d T => Rn (oApp (.cell S.length) [d] T) fun _ T => True ∧ T = S ++ [.lst ((bs.map cellT ++ [Str.ofString "told " ++ toldT hs]).map D.str)] := by
        rintro t rfl
        refine oAddS.mpr ⟨by rw [t5]; exact big_line (Nat.le_trans (by omega : _ ≤ 300) (by decide)), app_last.mpr ⟨?_, trivial, by rw [List.map_append]; rfl⟩⟩
        rw [List.length_map, List.length_map]
        exact Nat.lt_of_le_of_lt h4 (by decide)
      refine ⟨trivial, by show (0 : Nat) ≤ line; decide, fun hh => ⟨rfl, ?_⟩, fun hh => ?_⟩
      · refine rn_joinE (strs_lst h.rh) (told_join h.lh h.rh) (fin _ ?_)
        unfold toldT
        rw [if_neg (by simpa using hh)]
      · refine fin _ ?_
        unfold toldT
        rw [if_pos (by simpa using hh)]
    rintro _ _ ⟨rfl, rfl⟩
    rw [after_nx, rn_sSeq]
    have okL : okS (S ++ [.lst ((bs.map cellT ++ [Str.ofString "told " ++ toldT hs]).map D.str)]) := hS.one (pus_map _)
    simp only [rn_sRet, rn_eBin, rn_eComp, eVar, List.getElem?_cons_zero, List.getElem?_cons_succ, rn_ret]
    refine rn_iSeq_tup ?_
    simp only [rn_eBin, rn_eC, eVar, List.getElem?_cons_zero, rn_ret, ix_p1]
    refine ⟨cs, rfl, ?_⟩
    refine comp_pure (Q := fun k x => ∃ d, cs[k]? = some d ∧ x = .str (rowT d)) (s := .seq (.tup cs)) rfl (big_line (Nat.le_trans h5 (by decide))) (by omega) (fun j d e => ⟨_, rfl, fun P hP => ?_⟩) fun ys ly hy => ?_
    · show Rn (eCall _ _ _ [some (plan bs cs hs), some (.cell S.length), none, none, some d] _) _
      simp only [rn_sSeq, rn_sSet, rn_sRet, rn_sIf, rn_sNil, rn_sDrop, rn_sPar, rn_sUnp, rn_sPut, after_nx, after_rt, rn_eBin, rn_eUn, rn_eBl, rn_eC, rn_eCons, rn_eNil, rn_eTup, rn_eLst, rn_eCall, rn_ar, rn_eTru, rn_byT_bl, rn_bNot, rn_bOr, rn_bAnd, rn_eIf, rn_ret, rn_guard, rn_eMk, rn_eApp, rn_eDisp, rn_eSl, rn_ePart_none, rn_ePart_some, rn_eM1, rn_eJs_nil, rn_eJs_cons, rn_eComp, rn_sFor, eVar, List.getElem?_cons_succ, List.getElem?_cons_zero, List.set_cons_succ, List.set_cons_zero, eInt, oAddI, oSubI, oMulI, oDivI, oModI, oLtI, oGtI, oGeI, oEqI]
      exact ⟨rfl, lrow_ok okL (h.rc d (List.mem_of_getElem? e)) (hP _ ⟨d, e, rfl⟩)⟩
    · rw [map_of' ly hy]
      refine add_last.mpr ⟨?_, ?_⟩
      · simp only [List.length_map, List.length_append, List.length_cons, List.length_nil]
        exact big_line (Nat.le_trans (by omega : _ ≤ 100) (by decide))
      · rw [← List.map_append]
        simp only [after_rt]
        exact end_pu (pus_map _) okL (by rw [take_last]; exact p)
end K06

namespace K06
open PySem PySem.Spec Pv
theorem tru_tup {ds : List D} {S : Store} {P : Bool → Store → Prop} : Rn (byT S (.tup ds) fun b => ret b S) P ↔ P (!ds.isEmpty) S := rn_byT (b := !ds.isEmpty) rfl |>.trans rn_ret
theorem oAddT {a b : List D} {S : Store} {P : D → Store → Prop} : Rn (oAdd (.tup a) (.tup b) S) P ↔ a.length + b.length ≤ line ∧ P (.tup (a ++ b)) S := by
  show Rn (guard' _ (ret _ _)) _ ↔ _
  rw [rn_guard, rn_ret, decide_eq_true_eq]
/-- the whole text -/
def progT (bs cs hs : List D) : Str := Txt.join "\n" (linesT bs cs hs)
theorem nl1 : (Str.ofString "\n").length = 1 := by decide +kernel
theorem lines_join {bs cs hs : List D} (h : IsPl bs cs hs) : sumL (linesT bs cs hs) + (linesT bs cs hs).length * (Str.ofString "\n").length ≤ line := by
  rw [nl1]
  exact Nat.le_trans (by have := lines_sum h; omega) (by decide : 90000 ≤ line)
/-- the text by the program -/
theorem prog_ok {bs cs hs : List D} {S : Store} {P : D → Store → Prop} (hS : okS S) (h : IsPl bs cs hs) (p : P (.str (progT bs cs hs)) S) : Rn (F_program_text [plan bs cs hs] S) P := by
  rw [F_program_text, rn_defF]
  show Rn (B_program_text [some (plan bs cs hs), none, none, none, none, none, none, none] S) _
  unfold B_program_text
  have h4 := h.lb
  have h5 := h.lc
  have h6 := h.lh
  have tl := told_len h.lh h.rh
  rw [rn_sSeq]
  simp only [rn_sUnp, eVar, List.getElem?_cons_zero, rn_ret]
  refine ⟨[.tup bs, .tup cs, .tup hs], _, rfl, rfl, ?_⟩
  rw [after_nx, rn_sSeq]
  simp only [rn_sSet, rn_eIf, rn_eTru, rn_eM1, rn_eC, eVar, List.getElem?_cons_zero, List.getElem?_cons_succ, List.set_cons_succ, List.set_cons_zero, rn_ret, tru_tup]
  -- what follows, with the told names' text
  have rest : ∀ t : Str, t = toldT hs → After' (sSeq (sSet 5 (eMk (eComp (.nm 6) (iSeq (eVar 1)) none (eCall (ar 1 F_words_text) [] (eCons (eBin oAdd (eTup (eCons (eC (.str "cell")) eNil)) (eVar 6)) eNil)) [6] 1000000)))
      (sSeq (sDrop (eApp (eVar 5) (eCons (eJs [(eC (.str "told ")), (eUn oFmt (eVar 4))] Str.empty) eNil)))
      (sSeq (sRet (eM1 oJoin (eC (.str "\n")) (eBin oAdd (eVar 5) (eComp (.nm 7) (iSeq (eVar 2)) none (eCall (ar 1 F_instruction_text) [] (eCons (eVar 7) eNil)) [7] 1000000)))) sNil)))
      (fun fl S1 => Rn (endF false S.length (.ok fl, S1)) P) (.nx [some (plan bs cs hs), some (.tup bs), some (.tup cs), some (.tup hs), some (.str t), none, none, none]) S := by
    rintro t rfl
    rw [after_nx, rn_sSeq]
    simp only [rn_sSet, rn_eMk, rn_eComp]
    refine rn_iSeq_tup ?_
    simp only [eVar, List.getElem?_cons_zero, List.getElem?_cons_succ, rn_ret]
    refine ⟨bs, rfl, ?_⟩
    refine comp_pure (Q := fun k x => ∃ d, bs[k]? = some d ∧ x = .str (cellT d)) (s := .seq (.tup bs)) rfl (big_line (Nat.le_trans h4 (by decide))) (by omega) (fun j d e => ⟨_, rfl, fun P hP => ?_⟩) fun xs lx hx => ?_
    · show Rn (eCall _ _ _ [some (plan bs cs hs), some (.tup bs), some (.tup cs), some (.tup hs), some (.str (toldT hs)), none, some d, none] _) _
      obtain ⟨es, rfl, hl, hi⟩ := (h.rb d (List.mem_of_getElem? e)).items
      have w := items_wds hl hi
      simp only [rn_eCall, rn_ar, rn_eCons, rn_eNil, rn_eBin, rn_eTup, rn_eC, eVar, List.getElem?_cons_zero, List.getElem?_cons_succ, rn_ret, oAddT]
      have wd : Wds (D.str "cell" :: es) := ⟨by simp [hl], fun x m => (List.mem_cons.mp m).elim (fun e => by rw [e]; exact ⟨.str (lbl_of (by decide +kernel)), by show (Str.ofString "cell").length ≤ 600; decide +kernel⟩) fun m => ⟨(w x m).1, Nat.le_trans (w x m).2 (by decide)⟩⟩
      exact ⟨by show (1 : Nat) ≤ line; decide, by simp only [List.length_cons, List.length_nil, hl]; decide, rfl, words_ok hS wd (hP _ ⟨_, e, rfl⟩)⟩
    rw [map_of' lx hx]
    refine ⟨_, rfl, ?_⟩
    show After' _ _ (.nx [some (plan bs cs hs), some (.tup bs), some (.tup cs), some (.tup hs), some (.str (toldT hs)), some (.cell S.length), none, none]) _
    rw [after_nx, rn_sSeq]
    simp only [rn_sDrop, rn_eApp, rn_eCons, rn_eNil, rn_eJs_cons, rn_eJs_nil, rn_eUn, rn_eC, eVar, List.getElem?_cons_zero, List.getElem?_cons_succ, rn_ret, isl_last, fmt_str]
    refine ⟨trivial, _, rfl, by rw [empty_app, t5]; decide, big_line (Nat.le_trans tl (by decide)), _, rfl, by rw [empty_app, app_len, t5]; exact big_line (Nat.le_trans (by omega : _ ≤ 300) (by decide)), ?_⟩
    rw [empty_app]
    refine app_last.mpr ⟨by rw [List.length_map, List.length_map]; exact Nat.lt_of_le_of_lt h4 (by decide), ?_⟩
    have e3 : (bs.map cellT).map D.str ++ [D.str (Str.ofString "told " ++ toldT hs)] = (bs.map cellT ++ [Str.ofString "told " ++ toldT hs]).map D.str := by rw [List.map_append]; rfl
    rw [e3, after_nx, rn_sSeq]
    have okL : okS (S ++ [.lst ((bs.map cellT ++ [Str.ofString "told " ++ toldT hs]).map D.str)]) := hS.one (pus_map _)
    simp only [rn_sRet, rn_eM1, rn_eBin, rn_eC, rn_eComp, eVar, List.getElem?_cons_zero, List.getElem?_cons_succ, rn_ret]
    refine ⟨rfl, rn_iSeq_tup ?_⟩
    simp only [eVar, List.getElem?_cons_zero, List.getElem?_cons_succ, rn_ret]
    refine ⟨cs, rfl, ?_⟩
    refine comp_pure (Q := fun k x => ∃ d, cs[k]? = some d ∧ x = .str (rowT d)) (s := .seq (.tup cs)) rfl (big_line (Nat.le_trans h5 (by decide))) (by omega) (fun j d e => ⟨_, rfl, fun P hP => ?_⟩) fun ys ly hy => ?_
    · show Rn (eCall _ _ _ [some (plan bs cs hs), some (.tup bs), some (.tup cs), some (.tup hs), some (.str (toldT hs)), some (.cell S.length), none, some d] _) _
      simp only [rn_sSeq, rn_sSet, rn_sRet, rn_sIf, rn_sNil, rn_sDrop, rn_sPar, rn_sUnp, rn_sPut, after_nx, after_rt, rn_eBin, rn_eUn, rn_eBl, rn_eC, rn_eCons, rn_eNil, rn_eTup, rn_eLst, rn_eCall, rn_ar, rn_eTru, rn_byT_bl, rn_bNot, rn_bOr, rn_bAnd, rn_eIf, rn_ret, rn_guard, rn_eMk, rn_eApp, rn_eDisp, rn_eSl, rn_ePart_none, rn_ePart_some, rn_eM1, rn_eJs_nil, rn_eJs_cons, rn_eComp, rn_sFor, eVar, List.getElem?_cons_succ, List.getElem?_cons_zero, List.set_cons_succ, List.set_cons_zero, eInt, oAddI, oSubI, oMulI, oDivI, oModI, oLtI, oGtI, oGeI, oEqI]
      exact ⟨rfl, instr_ok okL (h.rc d (List.mem_of_getElem? e)) (hP _ ⟨d, e, rfl⟩)⟩
    · rw [map_of' ly hy]
      refine add_last.mpr ⟨?_, ?_⟩
      · simp only [List.length_map, List.length_append, List.length_cons, List.length_nil]
        exact big_line (Nat.le_trans (by omega : _ ≤ 100) (by decide))
      · rw [← List.map_append]
        refine rn_join (lines_join h) ?_
        simp only [after_rt]
        exact end_pu rfl okL (by rw [take_last]; exact p)
  refine ⟨fun hh => ⟨rfl, ?_⟩, fun hh => rest _ ?_⟩
  · refine rn_joinTE (strs_lst h.rh) (told_join h.lh h.rh) (rest _ ?_)
    unfold toldT
    rw [if_neg (by simpa using hh)]
  · unfold toldT
    rw [if_pos (by simpa using hh)]
/-! ### repr of a text -/
def CpOk (s : Str) : Prop := ∀ c ∈ s.cps.toList, c < 16 ^ 8
theorem repr_str {s : Str} {S : Store} {P : D → Store → Prop} (hc : CpOk s) (hl : s.length ≤ 100000) (p : P (.str (reprText s)) S) : Rn (oRepr [.str s] S) P := by
  have e : oRepr [.str s] S = guard' ((PyData.str s).showable && !(PyData.str s).hasDict && decide ((PyData.str s).depth ≤ 64) && decide ((PyData.str s).shown.length ≤ 16000000)) (ret (.str (PyData.str s).shown) S) := rfl
  have sh : (PyData.str s).shown = reprText s := by simp only [PyData.shown]
  have l := StrLaws.reprText_len s hc
  rw [e, rn_guard, rn_ret, sh]
  refine ⟨?_, p⟩
  have h1 : decide ((reprText s).length ≤ 16000000) = true := decide_eq_true (by omega)
  rw [h1]
  rfl
end K06

namespace K06
open PySem PySem.Spec Pv
theorem CpOk.app {a b : Str} (ha : CpOk a) (hb : CpOk b) : CpOk (a ++ b) := fun c h => by
  rw [app_cps] at h
  exact (List.mem_append.mp h).elim (ha c) (hb c)
theorem CpOk.of (s : String) : CpOk (Str.ofString s) := fun c h => by
  rw [Str.ofString_eq_toList] at h
  simp only [List.mem_map] at h
  obtain ⟨ch, _, rfl⟩ := h
  exact ch.val.toNat_lt
theorem CpOk.lbl {s : Str} (h : Lbl s) : CpOk s := fun c m => Nat.lt_trans (h.asc c m) (by decide)
theorem glue_cp (sep : Str) (hs : CpOk sep) : ∀ (ws : List Str) (acc : Array Nat), (∀ w ∈ ws, CpOk w) → (∀ c ∈ acc.toList, c < 16 ^ 8) → ∀ c ∈ (ws.foldl (fun acc p => acc ++ sep.cps ++ p.cps) acc).toList, c < 16 ^ 8
  | [], acc, _, h => h
  | w :: ws, acc, hw, h => by
    rw [List.foldl_cons]
    refine glue_cp sep hs ws _ (fun x m => hw x (List.mem_cons_of_mem _ m)) fun c m => ?_
    rw [Array.toList_append, Array.toList_append] at m
    rcases List.mem_append.mp m with m | m
    · exact (List.mem_append.mp m).elim (h c) (hs c)
    · exact hw w (List.mem_cons_self ..) c m
theorem CpOk.join {sep : Str} (hs : CpOk sep) {ws : List Str} (h : ∀ w ∈ ws, CpOk w) : CpOk (Txt.join sep ws) := by
  cases ws with
  | nil => exact fun c m => (nomatch m)
  | cons w ws => exact glue_cp sep hs ws w.cps (fun x m => h x (List.mem_cons_of_mem _ m)) (h w (List.mem_cons_self ..))
theorem Tx.cp {n : Nat} {d : D} (h : Tx n d) : CpOk (txt d) := by
  induction h with
  | @int n i _ _ => exact CpOk.of (toString i)
  | str h => exact .lbl h
  | @tup n w ds hw hd ih =>
    rw [txt_tup]
    refine (((CpOk.lbl hw).app (.of "(")).app (CpOk.join (.of ",") fun x m => ?_)).app (.of ")")
    obtain ⟨d, md, rfl⟩ := List.mem_map.mp m
    exact ih d md
theorem IsRw.cp {d : D} (h : IsRw d) : CpOk (rowT d) := by
  obtain ⟨w, ds, rfl, hw, _, h⟩ := h
  refine CpOk.join (.of " ") fun x m => ?_
  obtain ⟨d, md, rfl⟩ := List.mem_map.mp m
  rcases List.mem_cons.mp md with rfl | md
  · exact .lbl hw
  · exact (h d md).1.cp
theorem prog_cp {bs cs hs : List D} (h : IsPl bs cs hs) : CpOk (progT bs cs hs) := by
  refine CpOk.join (.of "\n") fun x m => ?_
  unfold linesT at m
  rcases List.mem_append.mp m with m | m
  · rcases List.mem_append.mp m with m | m
    · obtain ⟨d, md, rfl⟩ := List.mem_map.mp m
      obtain ⟨es, rfl, hl, hi⟩ := (h.rb d md).items
      refine CpOk.join (.of " ") fun y my => ?_
      rcases List.mem_cons.mp my with rfl | my
      · exact .of "cell"
      · obtain ⟨e, me, rfl⟩ := List.mem_map.mp my
        exact (items_wds hl hi e me).1.cp
    · rw [List.mem_singleton.mp m]
      refine (CpOk.of "told ").app ?_
      unfold toldT
      split
      · exact .of "-"
      · refine CpOk.join (.of ",") fun y my => ?_
        obtain ⟨e, me, rfl⟩ := List.mem_map.mp my
        obtain ⟨s, rfl, hs⟩ := h.rh e me
        exact .lbl hs
  · obtain ⟨d, md, rfl⟩ := List.mem_map.mp m
    exact (h.rc d md).cp
theorem prog_len {bs cs hs : List D} (h : IsPl bs cs hs) : (progT bs cs hs).length ≤ 90000 := by
  have l := lines_sum h
  unfold progT
  cases e : linesT bs cs hs with
  | nil => show (0 : Nat) ≤ 90000; decide
  | cons w ws =>
    rw [e] at l
    rw [sum_cons, List.length_cons] at l
    rw [join_len, nl1]
    omega
/-- the law's question of a program -/
theorem right_ok {bs cs hs : List D} {S : Store} {P : D → Store → Prop} (hS : okS S) (h : IsPl bs cs hs) (p : P (.bl true) S) : Rn (F_law_written_right [plan bs cs hs] S) P := by
  rw [F_law_written_right, rn_defF]
  show Rn (B_law_written_right [some (plan bs cs hs), none] S) _
  unfold B_law_written_right
  have cp := prog_cp h
  have len := prog_len h
  rw [rn_sSeq]
  simp only [rn_sIf, rn_eTru, rn_eBin, rn_eBl, rn_eCons, rn_eNil, rn_eCall, rn_ar, rn_eM1, rn_eC, eVar, List.getElem?_cons_zero, rn_ret]
  refine ⟨rfl, prog_ok hS h (repr_str cp (by omega) ⟨rfl, rfl, llines_ok hS h (rn_join (lines_join h) (repr_str (s := progT bs cs hs) cp (by omega) ?_))⟩)⟩
  simp only [oNeS, rn_byT_bl, rn_ret, rn_sNil]
  refine ⟨fun e => absurd e (by simp), fun _ => ?_⟩
  rw [after_nx, rn_sSeq, rn_sFor]
  refine rn_iSeq_tup ?_
  simp only [rn_eBin, rn_eC, eVar, List.getElem?_cons_zero, rn_ret, ix_p1]
  refine ⟨cs, rfl, ?_⟩
  refine rn_for (s := .seq (.tup cs)) (ds := cs) rfl (fun k ρ T => T = S ∧ ∃ e1 : Option D, ρ = [some (plan bs cs hs), e1]) ?_ ?_ 1000000 0 _ _ (by have := h.lc; omega) (Nat.zero_le _) ⟨rfl, none, rfl⟩
  · rintro k d ρ T e ⟨rfl, e1, rfl⟩
    refine ⟨_, rfl, ?_⟩
    have row := h.rc d (List.mem_of_getElem? e)
    have rcp := row.cp
    have rl := row_len row
    show Rn (sSeq _ _ [some (plan bs cs hs), some d] _) _
    rw [rn_sSeq]
    simp only [rn_sIf, rn_eTru, rn_eBin, rn_eBl, rn_eCons, rn_eNil, rn_eCall, rn_ar, eVar, List.getElem?_cons_zero, List.getElem?_cons_succ, rn_ret]
    refine ⟨rfl, instr_ok hS row (repr_str rcp (by omega) ⟨rfl, lrow_ok hS row (repr_str rcp (by omega) ?_)⟩)⟩
    simp only [oNeS, rn_byT_bl, rn_ret, rn_sNil, after_nx]
    exact ⟨fun e => absurd e (by simp), fun _ => ⟨trivial, some d, rfl⟩⟩
  · rintro ρ T ⟨rfl, e1, rfl⟩
    simp only [after_nx, rn_sSeq, rn_sRet, rn_eC, after_rt]
    exact end_pu rfl hS (by rw [List.take_length]; exact p)
end K06

namespace K06
open PySem PySem.Spec Pv
theorem app0 {xs : List Int} {i : Int} {P : D → Store → Prop} : Rn (oApp (.cell 0) [.int i] [.lst (xs.map D.int)]) P ↔ xs.length < line ∧ P .non [.lst ((xs ++ [i]).map D.int)] := by
  have e : oApp (.cell 0) [.int i] [.lst (xs.map D.int)] = guard' (decide ((xs.map D.int).length < line)) (ret .non [.lst (xs.map D.int ++ [.int i])]) := rfl
  rw [e, rn_guard, rn_ret, decide_eq_true_eq, List.length_map, List.map_append]
  rfl
theorem isl0 {xs : List Int} : isList [.lst (xs.map D.int)] (.cell 0) = true := rfl
theorem scr_len {d : D} {ns : List Int} (h : scr d ns) {S : Store} {P : D → Store → Prop} : Rn (oLen [d] S) P ↔ P (.int ns.length) S := by
  rcases h with rfl | rfl
  · have e : oLen [.lst (ns.map D.int)] S = ret (.int ((ns.map D.int).length : Nat)) S := rfl
    rw [e, rn_ret, List.length_map]
  · have e : oLen [.frz (ns.map D.int)] S = ret (.int ((ns.map D.int).length : Nat)) S := rfl
    rw [e, rn_ret, List.length_map]
theorem scr_ix {d : D} {ns : List Int} (h : scr d ns) {k : Nat} (hk : k < ns.length) {S : Store} {P : D → Store → Prop} : Rn (oIx d (.int (k : Int)) S) P ↔ P (.int ns[k]) S := by
  have e1 : L2.atI (ns.map D.int) (k : Int) = some (.int ns[k]) := atI_nat (by simp [hk])
  rcases h with rfl | rfl
  · exact ix_lst e1
  · have e : oIx (.frz (ns.map D.int)) (.int (k : Int)) S = (match L2.atI (ns.map D.int) (k : Int) with | some d => ret d S | none => none) := rfl
    rw [e, e1]
    exact rn_ret
theorem abs_i {i : Int} {S : Store} {P : D → Store → Prop} : Rn (oAbs [.int i] S) P ↔ P (.int (if i < 0 then -i else i)) S := rn_ret
theorem min_i {i j : Int} {S : Store} {P : D → Store → Prop} : Rn (oMin [.int i, .int j] S) P ↔ P (.int (if j < i then j else i)) S := rn_ret
theorem okI (xs : List Int) : okS [.lst (xs.map D.int)] := okS.nil.cons (pus_ints xs)
theorem sp_feed {d : D} {ns : List Int} (h : scr d ns) (hl : ns.length ≤ 63) {P : D → Store → Prop} (p : ∀ f : Fd, f.at_ = 0 → 0 ≤ f.tot → f.tot < 2147483629 → P (.cell 0) [f.c]) : Rn (F_law_feed [d] []) P := by
  rw [F_law_feed, rn_defF]
  show Rn (B_law_feed [some d, none, none, none, none, none] []) _
  unfold B_law_feed
  rw [rn_sSeq]
  simp only [rn_sSet, rn_eMk, rn_eLst, rn_eNil]
  refine ⟨by show (0 : Nat) ≤ line; decide, [], rfl, ?_⟩
  show After' _ _ (.nx [some d, some (.cell 0), none, none, none, none]) [.lst []]
  rw [after_nx, rn_sSeq]
  simp only [rn_sSet, rn_eC, List.set_cons_succ, List.set_cons_zero]
  rw [after_nx, rn_sSeq, rn_sFor]
  simp only [rn_iRg1, rn_eCons, rn_eNil, rn_eBl, rn_eC, eVar, List.getElem?_cons_zero, rn_ret, scr_len h, min_i]
  have mn : (if (ns.length : Int) < 63 then (ns.length : Int) else 63) = (ns.length : Int) := by
    split <;> omega
  rw [mn]
  refine ⟨_, rfl, ⟨by omega, by omega⟩, ?_⟩
  rw [Int.toNat_natCast]
  have it : (Src.rng 0 ns.length).items = some ((List.range ns.length).map fun k => D.int (0 + (k : Nat))) := rfl
  have il : ((List.range ns.length).map fun k => D.int (0 + (k : Nat))).length = ns.length := by simp
  refine rn_for it (fun k ρ S => ∃ (t : Int) (xs : List Int) (e3 e4 e5 : Option D), ρ = [some d, some (.cell 0), some (.int t), e3, e4, e5] ∧ S = [.lst (xs.map D.int)] ∧ 0 ≤ t ∧ t < 2147483629 ∧ xs.length ≤ 60 * k) ?_ ?_ 1000000 0 _ _ (by rw [il]; omega) (Nat.zero_le _) ⟨7, [], none, none, none, rfl, rfl, by decide, by decide, by simp⟩
  · rintro k v ρ S e ⟨t, xs, e3, e4, e5, rfl, rfl, t0, t1, lx⟩
    obtain ⟨hk, rfl⟩ := rng_get it e
    refine ⟨_, rfl, ?_⟩
    show Rn (sSeq _ _ [some d, some (.cell 0), some (.int t), some (.int k), e4, e5] _) _
    rw [rn_sSeq]
    simp only [rn_sSet, rn_eBl, rn_eBin, rn_eCons, rn_eNil, eVar, List.getElem?_cons_zero, List.getElem?_cons_succ, List.set_cons_succ, List.set_cons_zero, rn_ret, scr_ix h hk, eInt, abs_i]
    have g0 : 0 ≤ (if ns[k] < 0 then -ns[k] else ns[k]) := by split <;> omega
    generalize (if ns[k] < 0 then -ns[k] else ns[k]) = g at g0 ⊢
    rw [after_nx, rn_sSeq]
    simp only [rn_sSet, rn_eBl, rn_eBin, rn_eCons, rn_eNil, rn_eC, eVar, List.getElem?_cons_zero, List.getElem?_cons_succ, List.set_cons_succ, List.set_cons_zero, rn_ret, eInt, oMulI, oAddI, oModI]
    have lt : t.natAbs.log2 < 200 := log31 t0 (by omega)
    have l31 := logC (i := 31)
    refine ⟨by omega, by decide, ?_⟩
    have t0' : 0 ≤ (t * 31 + g + (k : Int)) % 2147483629 := Int.emod_nonneg _ (by decide)
    have t1' : (t * 31 + g + (k : Int)) % 2147483629 < 2147483629 := Int.emod_lt_of_pos _ (by decide)
    generalize (t * 31 + g + (k : Int)) % 2147483629 = t' at t0' t1' ⊢
    rw [after_nx, rn_sSeq]
    simp only [rn_sIf, rn_eTru, rn_eBin, rn_eC, eVar, List.getElem?_cons_zero, List.getElem?_cons_succ, rn_ret, oPowI, oGeI, rn_byT_bl]
    refine ⟨⟨⟨by decide, by decide⟩, by decide⟩, fun _ => ?_, fun hh => ?_⟩
    · rw [rn_sSeq, rn_sFor]
      simp only [rn_iRg1, rn_eCons, rn_eNil, rn_eC]
      refine ⟨60, rfl, ⟨by decide, by decide⟩, ?_⟩
      have it6 : (Src.rng 0 (60 : Int).toNat).items = some ((List.range 60).map fun k => D.int (0 + (k : Nat))) := rfl
      refine rn_for it6 (fun j ρ S => ∃ (g : Int) (ys : List Int) (e5 : Option D), ρ = [some d, some (.cell 0), some (.int t'), some (.int k), some (.int g), e5] ∧ S = [.lst (ys.map D.int)] ∧ ys.length ≤ 60 * k + j) ?_ ?_ 1000000 0 _ _ (by simp) (Nat.zero_le _) ⟨g, xs, e5, rfl, rfl, lx⟩
      · rintro j v ρ S ej ⟨g, ys, e5, rfl, rfl, ly⟩
        refine ⟨_, rfl, ?_⟩
        have hj : j < 60 := by
          have := (List.getElem?_eq_some_iff.mp ej).1
          simpa using this
        show Rn (sSeq _ _ [some d, some (.cell 0), some (.int t'), some (.int k), some (.int g), some v] _) _
        rw [rn_sSeq]
        simp only [rn_sIf, rn_eTru, rn_eBin, rn_eC, eVar, List.getElem?_cons_zero, List.getElem?_cons_succ, rn_ret, oGtI, rn_byT_bl, rn_sNil]
        refine ⟨fun _ => ?_, fun _ => by
          simp only [after_nx, rn_sNil]
          exact ⟨g, ys, some v, rfl, rfl, by omega⟩⟩
        simp only [rn_sSeq, rn_sDrop, rn_eApp, rn_eBl, rn_eBin, rn_eCons, rn_eNil, rn_eC, eVar, List.getElem?_cons_zero, List.getElem?_cons_succ, List.set_cons_succ, List.set_cons_zero, rn_ret, isl0, eInt, oModI, app0, after_nx, rn_sSet, oDivI, rn_sNil]
        refine ⟨trivial, by decide, Nat.lt_of_le_of_lt (by omega : ys.length ≤ 10000) (by decide), ⟨by decide, by have := logC (i := 55440); omega⟩, g / 55440, ys ++ [g % 55440], some v, rfl, rfl, by simp; omega⟩
      · rintro ρ S ⟨g, ys, e5, rfl, rfl, ly⟩
        simp only [after_nx, rn_sNil]
        have ly : ys.length ≤ 60 * k + 60 := by simpa using ly
        exact ⟨t', ys, _, _, _, rfl, rfl, t0', t1', by omega⟩
    · rw [rn_sSeq, rn_sFor]
      simp only [rn_iRg1, rn_eCons, rn_eNil, rn_eC]
      refine ⟨5, rfl, ⟨by decide, by decide⟩, ?_⟩
      have it5 : (Src.rng 0 5).items = some ((List.range 5).map fun k => D.int (0 + (k : Nat))) := rfl
      refine rn_for (s := .rng 0 5) it5 (fun j ρ S => ∃ (ys : List Int) (e5 : Option D), ρ = [some d, some (.cell 0), some (.int t'), some (.int k), some (.int g), e5] ∧ S = [.lst (ys.map D.int)] ∧ ys.length ≤ 60 * k + j) ?_ ?_ 1000000 0 _ _ (by simp) (Nat.zero_le _) ⟨xs, e5, rfl, rfl, lx⟩
      · rintro j v ρ S ej ⟨ys, e5, rfl, rfl, ly⟩
        obtain ⟨hj, rfl⟩ := rng_get it5 ej
        refine ⟨_, rfl, ?_⟩
        show Rn (sSeq _ _ [some d, some (.cell 0), some (.int t'), some (.int k), some (.int g), some (.int j)] _) _
        simp only [rn_sSeq, rn_sDrop, rn_eApp, rn_eCall, rn_ar, rn_eBl, rn_eBin, rn_eCons, rn_eNil, rn_eC, eVar, List.getElem?_cons_zero, List.getElem?_cons_succ, rn_ret, isl0, eInt, oModI, oMulI, oAddI]
        have lk : ((k : Int)).natAbs.log2 < 200 := log31 (by omega) (by omega)
        have l131 := logC (i := 131)
        have m0 : 0 ≤ g % 2147483629 := Int.emod_nonneg _ (by decide)
        have m1 : g % 2147483629 < 2147483629 := Int.emod_lt_of_pos _ (by decide)
        refine ⟨trivial, by decide, by omega, rfl, sp_mixed (okI ys) (Nat.lt_of_le_of_lt (by omega : _ ≤ 3000000000) (by decide)) (Nat.lt_of_le_of_lt (by omega : _ ≤ 5) (by decide)) ?_⟩
        simp only [app0, rn_sNil, after_nx]
        exact ⟨Nat.lt_of_le_of_lt (by omega : ys.length ≤ 10000) (by decide), ys ++ [mx (g % 2147483629 + 131 * (k : Int)) (j : Int)], _, rfl, rfl, by simp; omega⟩
      · rintro ρ S ⟨ys, e5, rfl, rfl, ly⟩
        simp only [after_nx, rn_sNil]
        have ly : ys.length ≤ 60 * k + 5 := by simpa using ly
        exact ⟨t', ys, _, _, _, rfl, rfl, t0', t1', by omega⟩
  · rintro ρ S ⟨t, xs, e3, e4, e5, rfl, rfl, t0, t1, lx⟩
    rw [after_nx, rn_sSeq]
    simp only [rn_sRet, rn_eDisp, rn_eCons, rn_eNil, rn_eC, eVar, List.getElem?_cons_zero, List.getElem?_cons_succ, rn_ret, after_rt]
    refine ⟨rfl, .cell 0, [({ ds := xs, at_ := 0, tot := t } : Fd).c], ?_, p _ rfl t0 t1⟩
    have cl : D.closs 0 (xs.map D.int) = true := pus_clos (pus_ints xs)
    have m : mergeD [] (List.zip [(Sum.inr (Str.ofString "draws") : L2.Key), .inr (Str.ofString "at"), .inr (Str.ofString "total")] [D.cell 0, D.int 0, D.int t]) = [((Sum.inr (Str.ofString "draws") : L2.Key), D.cell 0), (.inr (Str.ofString "at"), D.int 0), (.inr (Str.ofString "total"), D.int t)] := rfl
    have m' : ([Cell.lst (xs.map D.int)] ++ [Cell.dct (mergeD [] (List.zip [(Sum.inr (Str.ofString "draws") : L2.Key), .inr (Str.ofString "at"), .inr (Str.ofString "total")] [D.cell 0, D.int 0, D.int t]))]) = [Cell.lst (xs.map D.int), .dct [(.inr "draws", .cell 0), (.inr "at", .int 0), (.inr "total", .int t)]] := by rw [m]; rfl
    rw [m']
    show guard' true (match D.exps 0 1 [Cell.lst (xs.map D.int), .dct [(.inr "draws", .cell 0), (.inr "at", .int 0), (.inr "total", .int t)]] [.cell 0, .int 0, .int t] with
      | some es => ret (D.cell 0) ([] ++ [Cell.dct ([Sum.inr (Str.ofString "draws"), .inr (Str.ofString "at"), .inr (Str.ofString "total")].zip es)])
      | none => none) = _
    have ex : D.exps 0 1 [Cell.lst (xs.map D.int), .dct [(.inr "draws", .cell 0), (.inr "at", .int 0), (.inr "total", .int t)]] [.cell 0, .int 0, .int t] = some [.lst (xs.map D.int), .int 0, .int t] := by
      simp [D.exps, D.exp, cl]
    rw [ex]
    rfl
end K06

namespace K06
open PySem PySem.Spec Pv
/-! ### data shown -/
mutual
def blk : D → Nat
  | .str s => s.length
  | .tup ds => blks ds
  | .lst ds => blks ds
  | _ => 0
def blks : List D → Nat
  | [] => 0
  | d :: ds => blk d + 1 + blks ds
end
structure PyD (n : Nat) (d : D) (p : PyData) : Prop where
  e : d.py0 = some p
  sh : p.showable = true
  hd : p.hasDict = false
  dep : p.depth ≤ n
  lv : p.leavesShort 70 = true
  bk : p.bulk = blk d
structure PyDs (n : Nat) (ds : List D) (ps : List PyData) : Prop where
  e : D.pys ds = some ps
  sh : PyData.showableAll ps = true
  hd : PyData.hasDictAll ps = false
  dep : PyData.depthAll ps ≤ n
  lv : PyData.leavesShortAll 70 ps = true
  bk : PyData.bulkAll ps = blks ds
theorem pyds {n : Nat} : ∀ {ds : List D}, (∀ d ∈ ds, ∃ p, PyD n d p) → ∃ ps, PyDs n ds ps
  | [], _ => ⟨[], rfl, rfl, rfl, Nat.zero_le _, rfl, rfl⟩
  | d :: ds, h => by
    obtain ⟨p, hp⟩ := h d (List.mem_cons_self ..)
    obtain ⟨ps, hs⟩ := pyds (ds := ds) fun x m => h x (List.mem_cons_of_mem _ m)
    refine ⟨p :: ps, by simp only [D.pys, hp.e, hs.e], ?_, ?_, ?_, ?_, ?_⟩
    · simp only [PyData.showableAll, hp.sh, hs.sh, Bool.and_self]
    · simp only [PyData.hasDictAll, hp.hd, hs.hd, Bool.or_self]
    · simp only [PyData.depthAll]; exact Nat.max_le.mpr ⟨hp.dep, hs.dep⟩
    · simp only [PyData.leavesShortAll, hp.lv, hs.lv, Bool.and_self]
    · simp only [PyData.bulkAll, blks, hp.bk, hs.bk]
theorem PyDs.tup {n : Nat} {ds : List D} {ps : List PyData} (h : PyDs n ds ps) : PyD (n + 1) (.tup ds) (.tuple ps) := by
  refine ⟨by simp only [D.py0, h.e], ?_, ?_, ?_, ?_, ?_⟩
  · simpa only [PyData.showable] using h.sh
  · simpa only [PyData.hasDict] using h.hd
  · simp only [PyData.depth]; have := h.dep; omega
  · simpa only [PyData.leavesShort] using h.lv
  · simpa only [PyData.bulk, blk] using h.bk
theorem PyDs.lst {n : Nat} {ds : List D} {ps : List PyData} (h : PyDs n ds ps) : PyD (n + 1) (.lst ds) (.list ps) := by
  refine ⟨by simp only [D.py0, h.e], ?_, ?_, ?_, ?_, ?_⟩
  · simpa only [PyData.showable] using h.sh
  · simpa only [PyData.hasDict] using h.hd
  · simp only [PyData.depth]; have := h.dep; omega
  · simpa only [PyData.leavesShort] using h.lv
  · simpa only [PyData.bulk, blk] using h.bk
theorem pyd_int {n : Nat} {i : Int} (h0 : 0 ≤ i) (h1 : i < 10 ^ 60) : PyD n (.int i) (.int i) := by
  have l := num_len h0 h1
  have lg := big_log h0 h1
  refine ⟨rfl, by simp only [PyData.showable, decide_eq_true_eq]; omega, rfl, Nat.zero_le _, ?_, rfl⟩
  simp only [PyData.leavesShort, decide_eq_true_eq]
  exact Nat.le_trans l (by decide)
theorem pyd_str {n : Nat} {s : Str} (h : Lbl s) : PyD n (.str s) (.str s) := by
  refine ⟨rfl, rfl, rfl, Nat.zero_le _, ?_, rfl⟩
  simp only [PyData.leavesShort, List.all_eq_true, decide_eq_true_eq]
  exact CpOk.lbl h
theorem Tx.py {n : Nat} {d : D} (h : Tx n d) : (∃ p, PyD n d p) ∧ blk d ≤ (txt d).length := by
  induction h with
  | int h0 h1 => exact ⟨⟨_, pyd_int h0 h1⟩, Nat.zero_le _⟩
  | str h => exact ⟨⟨_, pyd_str h⟩, Nat.le_refl _⟩
  | @tup n w ds hw hd ih =>
    constructor
    · obtain ⟨ps, h⟩ := pyds (n := n) (ds := .str w :: ds) fun d m => (List.mem_cons.mp m).elim (fun e => by rw [e]; exact ⟨_, pyd_str hw⟩) fun m => (ih d m).1
      exact ⟨_, h.tup⟩
    · have ge := txt_ge w ds
      have s : blks ds ≤ sumL (ds.map txt) + ds.length := by
        clear ge hd hw
        induction ds with
        | nil => exact Nat.le_refl _
        | cons d ds ih2 =>
          have h1 := (ih d (List.mem_cons_self ..)).2
          have h2 := ih2 fun x m => ih x (List.mem_cons_of_mem _ m)
          simp only [blks, List.map_cons, sum_cons, List.length_cons]
          omega
      show w.length + 1 + blks ds ≤ _
      omega
theorem blks_le {ds : List D} {b : Nat} (h : ∀ d ∈ ds, blk d ≤ b) : blks ds ≤ ds.length * (b + 1) := by
  induction ds with
  | nil => exact Nat.zero_le _
  | cons d ds ih =>
    have h1 := h d (List.mem_cons_self ..)
    have h2 := ih fun x m => h x (List.mem_cons_of_mem _ m)
    rw [List.length_cons, Nat.succ_mul]
    simp only [blks]
    omega
theorem IsRw.py {d : D} (h : IsRw d) : (∃ p, PyD 61 d p) ∧ blk d ≤ 2500 := by
  obtain ⟨es, rfl, hw⟩ := h.wds
  obtain ⟨ps, hp⟩ := pyds (n := 60) fun d m => ((hw.all d m).1.py).1
  refine ⟨⟨_, hp.tup⟩, ?_⟩
  obtain ⟨w, ds, e, hl, hd, ha⟩ := h
  simp only [D.tup.injEq] at e
  subst e
  have b := blks_le (ds := ds) fun d m => Nat.le_trans ((ha d m).1.py).2 (ha d m).2
  show w.length + 1 + blks ds ≤ 2500
  have := hl.len
  have : ds.length * 601 ≤ 4 * 601 := Nat.mul_le_mul hd (Nat.le_refl _)
  omega
theorem IsBx.py {d : D} (h : IsBx d) : (∃ p, PyD 61 d p) ∧ blk d ≤ 300 := by
  obtain ⟨es, rfl, hl, hi⟩ := h.items
  have w := items_wds hl hi
  obtain ⟨ps, hp⟩ := pyds (n := 60) fun d m => ((w d m).1.py).1
  refine ⟨⟨_, hp.tup⟩, ?_⟩
  have b := blks_le fun d m => Nat.le_trans ((w d m).1.py).2 (w d m).2
  show blks es ≤ 300
  rw [hl] at b
  omega
theorem plan_py {bs cs hs : List D} (h : IsPl bs cs hs) : (∃ p, PyD 63 (plan bs cs hs) p) ∧ blk (plan bs cs hs) ≤ 80000 := by
  obtain ⟨p1, h1⟩ := pyds fun d m => ((h.rb d m).py).1
  obtain ⟨p2, h2⟩ := pyds fun d m => ((h.rc d m).py).1
  obtain ⟨p3, h3⟩ := pyds (n := 61) (ds := hs) fun d m => by
    obtain ⟨s, rfl, l⟩ := h.rh d m
    exact ⟨_, pyd_str l⟩
  obtain ⟨ps, hp⟩ := pyds (n := 62) (ds := [.tup bs, .tup cs, .tup hs]) fun d m => by
    simp only [List.mem_cons, List.not_mem_nil, or_false] at m
    rcases m with rfl | rfl | rfl
    · exact ⟨_, h1.tup⟩
    · exact ⟨_, h2.tup⟩
    · exact ⟨_, h3.tup⟩
  refine ⟨⟨_, hp.tup⟩, ?_⟩
  have b1 := blks_le fun d m => ((h.rb d m).py).2
  have b2 := blks_le fun d m => ((h.rc d m).py).2
  have b3 := blks_le (b := 30) (ds := hs) fun d m => by
    obtain ⟨s, rfl, l⟩ := h.rh d m
    exact l.len
  have l1 := h.lb
  have l2 := h.lc
  have l3 := h.lh
  show blks bs + 1 + (blks cs + 1 + (blks hs + 1 + 0)) ≤ 80000
  have : bs.length * 301 ≤ 8 * 301 := Nat.mul_le_mul l1 (Nat.le_refl _)
  have : cs.length * 2501 ≤ 30 * 2501 := Nat.mul_le_mul l2 (Nat.le_refl _)
  have : hs.length * 31 ≤ 8 * 31 := Nat.mul_le_mul l3 (Nat.le_refl _)
  omega
/-- two programs are shown -/
theorem repr_two {a b : D} {S : Store} (ha : (∃ p, PyD 63 a p) ∧ blk a ≤ 80000) (hb : (∃ p, PyD 63 b p) ∧ blk b ≤ 80000) : ∃ t : Str, ∀ {T : Store} {P : D → Store → Prop}, P (.str t) T → Rn (oRepr [.lst [a, b]] T) P := by
  obtain ⟨ps, hp⟩ := pyds (n := 63) (ds := [a, b]) fun d m => by
    simp only [List.mem_cons, List.not_mem_nil, or_false] at m
    rcases m with rfl | rfl
    · exact ha.1
    · exact hb.1
  have q := hp.lst
  have l := PyData.shown_le_bulk 70 (by decide) _ q.lv
  have bk : blk (.lst [a, b]) ≤ 170000 := by
    show blk a + 1 + (blk b + 1 + 0) ≤ 170000
    have := ha.2
    have := hb.2
    omega
  rw [q.bk] at l
  refine ⟨(PyData.list ps).shown, fun {T P} p => ?_⟩
  have e : oRepr [.lst [a, b]] T = (match D.py0 (.lst [a, b]) with
    | some p => guard' (p.showable && !p.hasDict && decide (p.depth ≤ 64) && decide (p.shown.length ≤ 16000000)) (ret (.str p.shown) T)
    | none => none) := rfl
  rw [e, q.e]
  show Rn (guard' _ (ret _ _)) _
  rw [rn_guard, rn_ret]
  refine ⟨?_, p⟩
  have h1 : decide ((PyData.list ps).shown.length ≤ 16000000) = true := decide_eq_true (by omega)
  have h2 : decide ((PyData.list ps).depth ≤ 64) = true := decide_eq_true q.dep
  rw [q.sh, q.hd, h1, h2]
  rfl
end K06

namespace K06
open PySem PySem.Spec Pv
/-! ### the wide program -/
def wideV : D := match B_law_wide [none, none, none, none, none] [] with
  | some (.ok (.rt v), _) => v
  | _ => .non
def wb : List D := match wideV with
  | .tup [.tup a, _, _] => a
  | _ => []
def wc : List D := match wideV with
  | .tup [_, .tup a, _] => a
  | _ => []
def wh : List D := match wideV with
  | .tup [_, _, .tup a] => a
  | _ => []
def txB : Nat → D → Bool
  | _, .int i => decide (0 ≤ i) && decide (i < 10 ^ 60)
  | _, .str s => lblB 30 s
  | n + 1, .tup (.str w :: ds) => lblB 30 w && ds.all (txB n)
  | _, _ => false
theorem txB_ok : ∀ {n : Nat} {d : D}, txB n d = true → Tx n d
  | 0, .int i, h => by
    simp only [txB, Bool.and_eq_true, decide_eq_true_eq] at h
    exact .int h.1 h.2
  | n + 1, .int i, h => by
    simp only [txB, Bool.and_eq_true, decide_eq_true_eq] at h
    exact .int h.1 h.2
  | 0, .str s, h => by
    simp only [txB] at h
    exact .str (lbl_of h)
  | n + 1, .str s, h => by
    simp only [txB] at h
    exact .str (lbl_of h)
  | n + 1, .tup (.str w :: ds), h => by
    simp only [txB, Bool.and_eq_true, List.all_eq_true] at h
    exact .tup (lbl_of h.1) fun d m => txB_ok (h.2 d m)
  | 0, .tup _, h => by simp [txB] at h
  | n + 1, .tup [], h => by simp [txB] at h
  | n + 1, .tup (.int _ :: _), h => by simp [txB] at h
  | n + 1, .tup (.non :: _), h => by simp [txB] at h
  | n + 1, .tup (.bl _ :: _), h => by simp [txB] at h
  | n + 1, .tup (.tup _ :: _), h => by simp [txB] at h
  | n + 1, .tup (.lst _ :: _), h => by simp [txB] at h
  | n + 1, .tup (.frz _ :: _), h => by simp [txB] at h
  | n + 1, .tup (.cell _ :: _), h => by simp [txB] at h
  | 0, .non, h => by simp [txB] at h
  | 0, .bl _, h => by simp [txB] at h
  | 0, .lst _, h => by simp [txB] at h
  | 0, .frz _, h => by simp [txB] at h
  | 0, .cell _, h => by simp [txB] at h
  | n + 1, .non, h => by simp [txB] at h
  | n + 1, .bl _, h => by simp [txB] at h
  | n + 1, .lst _, h => by simp [txB] at h
  | n + 1, .frz _, h => by simp [txB] at h
  | n + 1, .cell _, h => by simp [txB] at h
def rwB : D → Bool
  | .tup (.str w :: ds) => lblB 30 w && decide (ds.length ≤ 4) && ds.all fun x => txB 60 x && decide ((txt x).length ≤ 600)
  | _ => false
theorem rwB_ok {d : D} (h : rwB d = true) : IsRw d := by
  unfold rwB at h
  split at h
  · simp only [Bool.and_eq_true, decide_eq_true_eq, List.all_eq_true] at h
    exact ⟨_, _, rfl, lbl_of h.1.1, h.1.2, fun x m => ⟨txB_ok (h.2 x m).1, (h.2 x m).2⟩⟩
  · cases h
def bxB : D → Bool
  | .tup [.str s, .str w, .int u, .int v] => lblB 30 s && lblB 30 w && decide (0 ≤ u) && decide (u < 10 ^ 60) && decide (0 ≤ v) && decide (v < 10 ^ 60)
  | _ => false
theorem bxB_ok {d : D} (h : bxB d = true) : IsBx d := by
  unfold bxB at h
  split at h
  · simp only [Bool.and_eq_true, decide_eq_true_eq] at h
    obtain ⟨⟨⟨⟨⟨h1, h2⟩, h3⟩, h4⟩, h5⟩, h6⟩ := h
    exact ⟨_, _, _, _, rfl, lbl_of h1, lbl_of h2, ⟨h3, h4⟩, ⟨h5, h6⟩⟩
  · cases h
def lsB : D → Bool
  | .str s => lblB 30 s
  | _ => false
theorem lsB_ok {d : D} (h : lsB d = true) : IsL d := by
  unfold lsB at h
  split at h
  · exact islb h
  · cases h
def plB (bs cs hs : List D) : Bool := decide (bs.length ≤ 8) && decide (cs.length ≤ 30) && decide (hs.length ≤ 8) && bs.all bxB && cs.all rwB && hs.all lsB
theorem plB_ok {bs cs hs : List D} (h : plB bs cs hs = true) : IsPl bs cs hs := by
  simp only [plB, Bool.and_eq_true, decide_eq_true_eq, List.all_eq_true] at h
  obtain ⟨⟨⟨⟨⟨h1, h2⟩, h3⟩, h4⟩, h5⟩, h6⟩ := h
  exact ⟨h1, h2, h3, fun d m => bxB_ok (h4 d m), fun d m => rwB_ok (h5 d m), fun d m => lsB_ok (h6 d m)⟩
theorem wide_body (S : Store) : B_law_wide [none, none, none, none, none] S = some (.ok (.rt (plan wb wc wh)), S) := by kernel_rfl
theorem wide_pl : IsPl wb wc wh := plB_ok (by decide +kernel)
theorem IsPl.pu {bs cs hs : List D} (h : IsPl bs cs hs) : (plan bs cs hs).pu = true := by
  have b : D.pus bs = true := pus_iff.mpr fun d m => (h.rb d m).pu
  have c : D.pus cs = true := pus_iff.mpr fun d m => (h.rc d m).pu
  have k : D.pus hs = true := pus_iff.mpr fun d m => (h.rh d m).pu
  show (D.pus bs && (D.pus cs && (D.pus hs && true))) = true
  rw [b, c, k]
  rfl
theorem sp_wide {S : Store} {P : D → Store → Prop} (hS : okS S) (p : P (plan wb wc wh) S) : Rn (F_law_wide [] S) P := by
  rw [F_law_wide, rn_defF]
  refine ⟨_, _, wide_body S, ?_⟩
  exact end_pu wide_pl.pu hS (by rw [List.take_length]; exact p)
theorem labels_ok {bs cs hs : List D} {S : Store} {P : D → Store → Prop} (hS : okS S) (h : IsPl bs cs hs) (p : ∀ xs : List D, (∀ x ∈ xs, IsL x) → P (.lst xs) S) : Rn (F_law_labels_of [plan bs cs hs] S) P := by
  rw [F_law_labels_of, rn_defF]
  show Rn (B_law_labels_of [some (plan bs cs hs), none] S) _
  unfold B_law_labels_of
  simp only [rn_sSeq, rn_sRet, rn_eComp]
  refine rn_iSeq_tup ?_
  simp only [rn_eBin, rn_eC, eVar, List.getElem?_cons_zero, rn_ret, ix_p0]
  refine ⟨bs, rfl, ?_⟩
  have := h.lb
  refine comp_pure (Q := fun _ x => IsL x) (s := .seq (.tup bs)) rfl (big_line (Nat.le_trans h.lb (by decide))) (by omega) (fun j d e => ⟨_, rfl, fun P hP => ?_⟩) fun xs lx hx => ?_
  · show Rn (eBin _ _ _ [some (plan bs cs hs), some d] _) _
    obtain ⟨s, w, u, v, rfl, hs, _⟩ := h.rb d (List.mem_of_getElem? e)
    simp only [rn_sSeq, rn_sSet, rn_sRet, rn_sIf, rn_sNil, rn_sDrop, rn_sPar, rn_sUnp, rn_sPut, after_nx, after_rt, rn_eBin, rn_eUn, rn_eBl, rn_eC, rn_eCons, rn_eNil, rn_eTup, rn_eLst, rn_eCall, rn_ar, rn_eTru, rn_byT_bl, rn_bNot, rn_bOr, rn_bAnd, rn_eIf, rn_ret, rn_guard, rn_eMk, rn_eApp, rn_eDisp, rn_eSl, rn_ePart_none, rn_ePart_some, rn_eM1, rn_eJs_nil, rn_eJs_cons, rn_eComp, rn_sFor, eVar, List.getElem?_cons_succ, List.getElem?_cons_zero, List.set_cons_succ, List.set_cons_zero, eInt, oAddI, oSubI, oMulI, oDivI, oModI, oLtI, oGtI, oGeI, oEqI]
    exact (ix_tup (ds := [.str s, .str w, .int u, .int v]) at0).mpr (hP _ ⟨s, rfl, hs⟩)
  · have hx := all_of hx
    simp only [after_rt]
    exact end_pu (lst_pu hx) hS (by rw [List.take_length]; exact p xs hx)
end K06

namespace K06
open PySem PySem.Spec Pv
/-- both writers agree on an expression: the test of the loop -/
theorem tx_len {d : D} (b : (txt d).length ≤ 40000) : (txt d).length ≤ big := b
theorem ls2 : ∀ d ∈ [D.str "not", D.str "plus"], IsL d := fun d m => by
  simp only [List.mem_cons, List.not_mem_nil, or_false] at m
  rcases m with rfl | rfl <;> exact islb (by decide +kernel)
theorem okF (f : Fd) : okS [f.c] := okS.nil.cons (Fd.pu f)
def cT : Nat := 2000000 + 2 * cS 5 + cQ 5 + 1000
/-- one turn of the law -/
theorem law_told {S : Store} {P : Fl → Store → Prop} {ρ : Pv.Env} (hS : okS S) (p : ∀ ρ', P (.nx ρ') S) : True := trivial
theorem three_txt : progT [] [.tup [.str "end"]] [] = Str.ofString "told -\nend" := by decide +kernel
theorem not_txt : txt (.tup [.str "not", .tup [.str "less", .int 0, .str "a"]]) = Str.ofString "not(less(0,a))" := by decide +kernel
theorem end_txt : rowT (.tup [.str "end"]) = Str.ofString "end" := by decide +kernel
theorem end_rw : IsRw (.tup [.str "end"]) := end_row.rw
theorem pl_end : IsPl [] [.tup [.str "end"]] [] := plB_ok (by decide +kernel)
theorem tx_not : Tx 2 (.tup [.str "not", .tup [.str "less", .int 0, .str "a"]]) := txB_ok (by decide +kernel)
theorem told_eq {S : Store} {P : D → Store → Prop} (p : P (.bl true) S) : Rn (oEq (.lst [.str "told -\nend", .str "not(less(0,a))", .str "end"]) (.lst [.str "told -\nend", .str "not(less(0,a))", .str "end"]) S) P := by
  have e : pyEq S (.lst [.str "told -\nend", .str "not(less(0,a))", .str "end"]) (.lst [.str "told -\nend", .str "not(less(0,a))", .str "end"]) = some true := by kernel_rfl
  unfold oEq
  rw [e]
  exact rn_ret.mpr p
/-- the deep expression behind k turns -/
theorem deep_step {k : Nat} {d : D} (t : Tx k d) (l : (txt d).length ≤ 70 + 10 * k) : (Tx (k + 1) (.tup [.str "minus", .str "a", d]) ∧ (txt (.tup [.str "minus", .str "a", d])).length ≤ 70 + 10 * (k + 1)) ∧ (Tx (k + 1) (.tup [.str "times", d, .int 0]) ∧ (txt (.tup [.str "times", d, .int 0])).length ≤ 70 + 10 * (k + 1)) := by
  have la : (txt (.str "a")).length = 1 := by decide +kernel
  have lm : (Str.ofString "minus").length = 5 := by decide +kernel
  have lt : (Str.ofString "times").length = 5 := by decide +kernel
  have l0 : (txt (.int 0)).length = 1 := by decide +kernel
  have wa : Lbl "a" := lbl_of (by decide +kernel)
  refine ⟨⟨tx2 (lbl_of (by decide +kernel)) (.str wa) t, ?_⟩, tx2 (lbl_of (by decide +kernel)) t (.int (by decide) (by decide)), ?_⟩
  · rw [txt2_len, la, lm]
    omega
  · rw [txt2_len, l0, lt]
    omega
theorem law_ok {d : D} {ns : List Int} (h : scr d ns) (hl : ns.length ≤ 63) : Rn (F_law [d] []) fun x _ => x = .bl true := by
  rw [F_law, rn_defF]
  show Rn (B_law [some d, none, none, none, none, none, none, none, none, none, none] []) _
  unfold B_law
  rw [rn_sSeq]
  simp only [rn_sSet, rn_eCall, rn_ar, rn_eCons, rn_eNil, eVar, List.getElem?_cons_zero, rn_ret]
  refine ⟨rfl, sp_feed h hl fun f f0 t0 t1 => ?_⟩
  have can : Can f 100000000 := ⟨by rw [f0]; decide, t0, t1⟩
  rw [after_nx, rn_sSeq]
  simp only [rn_sIf, rn_bNot, rn_eTru, rn_eCall, rn_ar, rn_eCons, rn_eNil]
  refine ⟨rfl, sp_wide (okF f) ⟨rfl, right_ok (okF f) wide_pl ?_⟩⟩
  simp only [rn_byT_bl, rn_ret]
  refine ⟨fun e => (nomatch e), fun _ => ?_⟩
  rw [rn_sNil, after_nx, rn_sSeq, rn_sFor]
  simp only [rn_iRg1, rn_eCons, rn_eNil, rn_eC]
  refine ⟨3, rfl, ⟨by decide, by decide⟩, ?_⟩
  have it3 : (Src.rng 0 3).items = some ((List.range 3).map fun k => D.int (0 + (k : Nat))) := rfl
  refine rn_for (s := .rng 0 3) it3 (fun k ρ S => ∃ (g : Fd) (e2 e3 e4 e5 e6 e7 : Option D), ρ = [some d, some (.cell 0), e2, e3, e4, e5, e6, e7, none, none, none] ∧ S = [g.c] ∧ Nx f g (cT * k)) ?_ ?_ 1000000 0 _ _ (by simp) (Nat.zero_le _) ⟨f, none, none, none, none, none, none, rfl, rfl, .refl⟩
  · rintro k v ρ S e ⟨g, e2, e3, e4, e5, e6, e7, rfl, rfl, ng⟩
    obtain ⟨hk, rfl⟩ := rng_get it3 e
    refine ⟨_, rfl, ?_⟩
    show Rn (sSeq _ _ [some d, some (.cell 0), some (.int k), e3, e4, e5, e6, e7, none, none, none] _) _
    have ct : cT = 2000000 + 2 * cS 5 + cQ 5 + 1000 := rfl
    have s5 : cS 5 = 126 := rfl
    have q5 : cQ 5 = 2 + 2 * 126 + (2 + 2 * 62 + (2 + 2 * 30 + (2 + 2 * 14 + (2 + 2 * 6 + (2 + 2 * 2))))) := rfl
    have s2 : cS 2 = 14 := rfl
    have ctk : cT * k ≤ cT * 2 := Nat.mul_le_mul (Nat.le_refl _) (by omega)
    have gcan : Can g 50000000 := can.next ng (by omega)
    rw [rn_sSeq]
    simp only [rn_sPar, rn_eCons, rn_eNil, rn_eCall, rn_ar, eVar, List.getElem?_cons_zero, List.getElem?_cons_succ, rn_ret]
    refine ⟨rfl, sp_plan (gcan.le (by decide)) fun bs cs hs g1 n1 pl1 => ⟨rfl, sp_loose (gcan.next n1 (by decide)) fun bs2 cs2 hs2 g2 n2 pl2 => ⟨_, rfl, ?_⟩⟩⟩
    have p1 := pl1.pl
    have p2 := pl2.pl
    obtain ⟨t, kept⟩ := repr_two (S := [g2.c]) (plan_py p1) (plan_py p2)
    have n12 : Nx g g2 2000000 := n1.trans n2 (by decide)
    rw [after_nx, rn_sSeq]
    simp only [rn_sSet, rn_eBl, rn_eLst, rn_eCons, rn_eNil, eVar, List.getElem?_cons_zero, List.getElem?_cons_succ, List.set_cons_succ, List.set_cons_zero, rn_ret]
    refine ⟨by show (2 : Nat) ≤ line; decide, kept ?_⟩
    rw [after_nx, rn_sSeq]
    simp only [rn_sIf, rn_bOr, rn_bNot, rn_eTru, rn_eBin, rn_eBl, rn_eLst, rn_eCall, rn_ar, rn_eCons, rn_eNil, eVar, List.getElem?_cons_zero, List.getElem?_cons_succ, rn_ret]
    refine ⟨rfl, right_ok (okF g2) p1 ?_⟩
    simp only [rn_byT_bl, rn_ret]
    refine ⟨fun e => (nomatch e), fun _ => ⟨rfl, right_ok (okF g2) p2 ?_⟩⟩
    simp only [rn_byT_bl, rn_ret]
    refine ⟨fun e => (nomatch e), fun _ => ⟨by show (2 : Nat) ≤ line; decide, kept ?_⟩⟩
    simp only [oNeS, rn_byT_bl, rn_ret]
    refine ⟨fun e => absurd e (by simp), fun _ => ?_⟩
    rw [rn_sNil, after_nx, rn_sSeq]
    simp only [rn_sSet, rn_eCall, rn_ar, rn_eCons, rn_eNil, eVar, List.getElem?_cons_zero, List.getElem?_cons_succ, List.set_cons_succ, List.set_cons_zero, rn_ret]
    refine ⟨rfl, labels_ok (okF g2) p1 fun ls hls => ?_⟩
    rw [after_nx, rn_sSeq, rn_sFor]
    refine rn_iSeq_tup ?_
    simp only [rn_eTup, rn_eLst, rn_eCall, rn_ar, rn_eCons, rn_eNil, rn_eC, eVar, List.getElem?_cons_zero, List.getElem?_cons_succ, List.set_cons_succ, List.set_cons_zero, rn_ret]
    refine ⟨rfl, sp_sum okS.nil hls 5 16 g2 _ (by decide) (by decide) (gcan.next n12 (by omega)) fun a g3 n3 ta la => ?_⟩
    have n13 : Nx g g3 (2000000 + cS 5) := n12.trans n3 (Nat.le_refl _)
    refine ⟨rfl, sp_question okS.nil hls 5 16 g3 _ (by decide) (by decide) (gcan.next n13 (by omega)) fun b g4 n4 tb lb => ?_⟩
    have n14 : Nx g g4 (2000000 + cS 5 + cQ 5) := n13.trans n4 (Nat.le_refl _)
    refine ⟨by show (2 : Nat) ≤ line; decide, rfl, sp_sum okS.nil ls2 2 16 g4 _ (by decide) (by decide) (gcan.next n14 (by omega)) fun c g5 n5 tc lc => ?_⟩
    have n15 : Nx g g5 cT := n14.trans n5 (by omega)
    refine ⟨by show (3 : Nat) ≤ line; decide, [a, b, c], rfl, ?_⟩
    have all : ∀ x ∈ [a, b, c], Tx 6 x ∧ (txt x).length ≤ 40000 := fun x m => by
      simp only [List.mem_cons, List.not_mem_nil, or_false] at m
      rcases m with rfl | rfl | rfl
      · exact ⟨ta.mono (by decide), Nat.le_trans la (by decide)⟩
      · exact ⟨tb.mono (by decide), Nat.le_trans lb (by decide)⟩
      · exact ⟨tc.mono (by decide), Nat.le_trans lc (by decide)⟩
    refine rn_for (s := .seq (.tup [a, b, c])) (ds := [a, b, c]) rfl (fun j ρ S => ∃ (e7 : Option D), ρ = [some d, some (.cell 0), some (.int k), some (plan bs cs hs), some (plan bs2 cs2 hs2), some (.str t), some (.lst ls), e7, none, none, none] ∧ S = [g5.c]) ?_ ?_ 1000000 0 _ _ (by show 3 < 1000000 + 0; decide) (Nat.zero_le _) ⟨e7, rfl, rfl⟩
    · rintro j x ρ S ej ⟨e7, rfl, rfl⟩
      refine ⟨_, rfl, ?_⟩
      obtain ⟨tx, lx⟩ := all x (List.mem_of_getElem? ej)
      have cx := tx.cp
      show Rn (sSeq _ _ [some d, some (.cell 0), some (.int k), some (plan bs cs hs), some (plan bs2 cs2 hs2), some (.str t), some (.lst ls), some x, none, none, none] _) _
      rw [rn_sSeq]
      simp only [rn_sIf, rn_eTru, rn_eBin, rn_eBl, rn_eCons, rn_eNil, rn_eCall, rn_ar, eVar, List.getElem?_cons_zero, List.getElem?_cons_succ, rn_ret]
      refine ⟨rfl, expr_ok tx 64 (okF g5) (by decide) lx (repr_str cx (by omega) ⟨rfl, word_ok tx 64 (okF g5) (by decide) lx (repr_str cx (by omega) ?_)⟩)⟩
      simp only [oNeS, rn_byT_bl, rn_ret, rn_sNil, after_nx]
      exact ⟨fun e => absurd e (by simp), fun _ => ⟨some x, rfl, trivial⟩⟩
    · rintro ρ S ⟨e7, rfl, rfl⟩
      simp only [after_nx, rn_sNil]
      exact ⟨g5, _, _, _, _, _, _, rfl, rfl, ng.trans n15 (by rw [Nat.mul_succ]; exact Nat.le_refl _)⟩
  · rintro ρ S ⟨g, e2, e3, e4, e5, e6, e7, rfl, rfl, ng⟩
    rw [after_nx, rn_sSeq]
    simp only [rn_sSet, rn_eBin, rn_eC, List.set_cons_succ, List.set_cons_zero, oPowI]
    refine ⟨⟨⟨by decide, by decide⟩, by decide⟩, ?_⟩
    rw [after_nx, rn_sSeq, rn_sFor]
    simp only [rn_iRg1, rn_eCons, rn_eNil, rn_eC]
    refine ⟨28, rfl, ⟨by decide, by decide⟩, ?_⟩
    have it28 : (Src.rng 0 28).items = some ((List.range 28).map fun k => D.int (0 + (k : Nat))) := rfl
    refine rn_for (s := .rng 0 28) it28 (fun k ρ S => ∃ (x : D) (e9 : Option D), ρ = [some d, some (.cell 0), e2, e3, e4, e5, e6, e7, some x, e9, none] ∧ S = [g.c] ∧ Tx k x ∧ (txt x).length ≤ 70 + 10 * k) ?_ ?_ 1000000 0 _ _ (by simp) (Nat.zero_le _) ⟨_, none, rfl, rfl, .int (by decide) (by decide), Nat.le_trans (num_len (by decide) (by decide)) (by decide)⟩
    · rintro k v ρ S e ⟨x, e9, rfl, rfl, tx, lx⟩
      obtain ⟨hk, rfl⟩ := rng_get it28 e
      refine ⟨_, rfl, ?_⟩
      obtain ⟨⟨t1, l1⟩, t2, l2⟩ := deep_step tx lx
      show Rn (sSeq _ _ [some d, some (.cell 0), e2, e3, e4, e5, e6, e7, some x, some (.int k), none] _) _
      simp only [rn_sSeq, rn_sSet, rn_eIf, rn_eTru, rn_eBin, rn_eBl, rn_eTup, rn_eCons, rn_eNil, rn_eC, eVar, List.getElem?_cons_zero, List.getElem?_cons_succ, List.set_cons_succ, List.set_cons_zero, rn_ret, eInt, oModI, oEqI, rn_byT_bl, after_nx, rn_sNil]
      exact ⟨by decide, fun _ => ⟨by show (3 : Nat) ≤ line; decide, _, _, rfl, trivial, t1, l1⟩, fun _ => ⟨by show (3 : Nat) ≤ line; decide, _, _, rfl, trivial, t2, l2⟩⟩
    · rintro ρ S ⟨x, e9, rfl, rfl, tx, lx⟩
      have tx : Tx 28 x := by simpa using tx
      have lx : (txt x).length ≤ 40000 := Nat.le_trans lx (by simp)
      rw [after_nx, rn_sSeq]
      simp only [rn_sIf, rn_eTru, rn_eBin, rn_eCall, rn_ar, rn_eCons, rn_eNil, eVar, List.getElem?_cons_zero, List.getElem?_cons_succ, rn_ret]
      refine ⟨rfl, expr_ok tx 64 (okF g) (by decide) lx ⟨rfl, word_ok tx 64 (okF g) (by decide) lx ?_⟩⟩
      simp only [oNeS, rn_byT_bl, rn_ret]
      refine ⟨fun e => absurd e (by simp), fun _ => ?_⟩
      rw [rn_sNil, after_nx, rn_sSeq]
      simp only [rn_sSet, rn_eLst, rn_eTup, rn_eCons, rn_eNil, rn_eCall, rn_ar, rn_eC, List.set_cons_succ, List.set_cons_zero]
      refine ⟨by show (0 : Nat) ≤ line; decide, by show (1 : Nat) ≤ line; decide, by show (1 : Nat) ≤ line; decide, by show (0 : Nat) ≤ line; decide, by show (3 : Nat) ≤ line; decide, rfl, prog_ok (bs := []) (cs := [.tup [.str "end"]]) (hs := []) (okF g) pl_end ?_⟩
      refine ⟨by show (3 : Nat) ≤ line; decide, by show (2 : Nat) ≤ line; decide, rfl, expr_ok tx_not 64 (okF g) (by decide) (by decide +kernel) ?_⟩
      refine ⟨by show (2 : Nat) ≤ line; decide, ?_⟩
      rw [three_txt, not_txt, after_nx, rn_sSeq]
      simp only [rn_sSet, rn_eBin, rn_eLst, rn_eTup, rn_eCons, rn_eNil, rn_eCall, rn_ar, rn_eC, eVar, List.getElem?_cons_zero, List.getElem?_cons_succ, List.set_cons_succ, List.set_cons_zero, rn_ret]
      refine ⟨by show (1 : Nat) ≤ line; decide, rfl, instr_ok (okF g) end_rw ?_⟩
      rw [end_txt]
      refine ⟨by show (1 : Nat) ≤ line; decide, oAddL.mpr ⟨by show (3 : Nat) ≤ line; decide, ?_⟩⟩
      rw [after_nx, rn_sSeq]
      simp only [rn_sRet, rn_eBin, rn_eLst, rn_eCons, rn_eNil, rn_eC, eVar, List.getElem?_cons_zero, List.getElem?_cons_succ, rn_ret]
      refine ⟨by show (3 : Nat) ≤ line; decide, told_eq ?_⟩
      simp only [after_rt]
      exact end_pu rfl (okF g) rfl
theorem holds : PySem.Challenge.rw_enoughcharge_k06_texts_written.Holds := holds_of fun ns d hl _ h => by
  obtain ⟨x, S, e, rfl⟩ := law_ok h hl
  exact ⟨S, e⟩
end K06
set_option maxRecDepth 100000 in
theorem PySem.Challenge.cw_enoughcharge_k06_texts_written_holds : PySem.Challenge.rw_enoughcharge_k06_texts_written.Holds := by
  exact K06.holds
