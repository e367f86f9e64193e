import PyProof.Rows.All
import Wide.All
import OpenK.AllK
import Wide.FinOn
import HandS.TupMul
import HandS.ForMost
import HandS.ForExc
import HandS.Flow
import HandS.Deep
import HandS.Lambda
import KE.KDictKeyed
import HandS.TupAny
import HandS.Wide
import HandS.More
import HandS.Text
import HandS.IsInst
import HandS.RaiseMore
import HandS.StrMore
import HandS.Style
import KE.KRevSl
import HandS.WordsDict
import PyProof.ReprRoads
import HandS.Small
import HandS.Walk
import HandS.Iter
import KE.GoesEnum
import KE.GoesEnumKw
import PyProof.Rows.CallKwBuiltin
import HandS.Zip
import HandS.Defaults
import HandS.HeadHook2
import HandS.Exc
import HandS.FStr
import HandS.List
import HandS.Dict
import HandS.Ends
import HandS.EndBits
import HandS.HeadHook4
import HandS.DictComp
import HandS.TryOnly
import HandS.TupLe
import HandS.ExcInit
import HandS.HotCalls
import HandS.ExcField
import KE.KExcIs
import HandS.SetFor
import HandS.Head1
import HandS.HeadHook1
import KE.SortData
import HandS.Comp
import HandS.OwnIter
import KE.KDictZip
import HandS.TupSets
import KE.KeyNested
import KE.KIntText
import HandS.MakeKwOnly
import HandS.Property
import HandS.ClsMeth
import HandS.CallLocal
import PyProof.DictUpdate
import HandS.ReplaceLit
import KE.KOpsOwn
import KE.KCallOwn
import OpenK.KOps
import HandS.SlotsOwn
import HandS.Head0
import HandS.Head2
import HandS.HeadEnd
import KE.KStateDown
import PyProof.ReprBulk
import HandS.Codes
import PySem.Challenge.RW_enoughcharge_k23_width_values
set_option Elab.async false
set_option linter.all false
set_option maxRecDepth 100000
set_option maxHeartbeats 4000001

namespace Pv
open PySem PySem.Spec PyProof.Rows L2

/-- a value, by what it is: tuples and lists that nobody changes by their items, a list or dict that is changed by its number in the store -/
inductive D where
  | non | bl (b : Bool) | int (i : Int) | str (x : Str) | tup (ds : List D) | lst (ds : List D) | frz (ds : List D) | cell (i : Nat) | err (c : Str) (ks : List Str) (ds : List D) | ob (c : Str) (ks : List Str) (ds : List D)
  deriving Inhabited
inductive Cell where
  | lst (ds : List D) | dct (kvs : List (Key × D)) | dn (kvs : List (NestedKey × D))
  deriving Inhabited
abbrev Store := List Cell
abbrev Env := List (Option D)
/-- an exception of the program's own: its class, its fields -/
structure Xd where
  cls : Str
  fs : List (Str × D)
inductive Rs (α : Type) where
  | ok (a : α) | ex (x : Xd)
abbrev Out (α : Type) := Option (Rs α × Store)
def bnd {α β : Type} (m : Out α) (k : α → Store → Out β) : Out β := match m with
  | none => none
  | some (.ok a, S) => k a S
  | some (.ex x, S) => some (.ex x, S)
def ret {α : Type} (a : α) (S : Store) : Out α := some (.ok a, S)
/-- what a body must not touch, and the tables of code objects, each with the name of its codes; the exception that an except clause holds -/
structure RT where
  p : Addr → Prop
  T : List (Addr × Str)
  er : Option (Addr × Str × Addr)
instance : CoeFun RT (fun _ => Addr → Prop) := ⟨RT.p⟩
/-- the tables are those; no exception is held -/
structure RtOk (R : RT) (T : List (Addr × Str)) : Prop where
  T : R.T = T
  er : R.er = none
/-- the same tables, the same exception -/
structure Same (R R' : RT) : Prop where
  T : R.T = R'.T
  er : R.er = R'.er
theorem Same.trans {R R' : RT} {T : List (Addr × Str)} (h : Same R R') (k : RtOk R' T) : RtOk R T := ⟨h.T.trans k.T, h.er.trans k.er⟩
/-- the tables are as they should be, and no other ones are there -/
structure TabOk (T : List (Addr × Str)) (H : Hp) : Prop where
  tabs : LamX.Tabs T H
  all : ∀ a ps, H a = some (.tbl ps) → ∃ q ∈ T, q.1 = a
theorem TabOk.new {T : List (Addr × Str)} {H : Hp} {p : Addr} {o : HO} (t : TabOk T H) (hn : H p = none) (ho : ∀ ps, o ≠ .tbl ps) : TabOk T (upd H p o) := by
  refine ⟨t.tabs.ext fun b u e => by rw [upd_ne (ne_of_none e hn)]; exact e, fun a ps e => ?_⟩
  by_cases h : a = p
  · subst h
    rw [upd_same] at e
    exact absurd (Option.some.inj e) (ho ps)
  · rw [upd_ne h] at e
    exact t.all a ps e
/-- a list of the module's own top -/
def KLst (K : PySem.W.Frag) (a : Addr) (xs : List V) : Prop :=
  ∃ (o : Obj) (its : Array Value) (n : Nat), K.lookup a = some o ∧ o.cls = .type "list" ∧ o.dict = none ∧ o.data = .seq its n ∧ its.size ≤ sizeLine ∧ Vals xs its.toList
theorem KLst.sq {K : PySem.W.Frag} {H : Hp} {a : Addr} {xs : List V} (h : KLst K a xs) : SqL K H a xs := .inr h

mutual
/-- a key of ints and tuples, as it lies -/
inductive NkV (K : PySem.W.Frag) (H : Hp) : V → NestedKey → Prop
  | num (i : Int) : NkV K H (.int i) (.num i)
  | tup {a : Addr} {xs : List V} {ks : List NestedKey} : SqT K H a xs → NkVs K H xs ks → NkV K H (.ref a) (.tup ks)
inductive NkVs (K : PySem.W.Frag) (H : Hp) : List V → List NestedKey → Prop
  | nil : NkVs K H [] []
  | cons {v : V} {k : NestedKey} {vs : List V} {ks : List NestedKey} : NkV K H v k → NkVs K H vs ks → NkVs K H (v :: vs) (k :: ks)
end
/-- a dict with such keys stands at a -/
def RawN (a : Addr) (ps : List (NestedKey × Addr × Value)) (h : Heap) : Prop := (a == sysModules) = false ∧ ps.length ≤ sizeLine ∧
  ∃ (P : Program) (w : World) (o : Obj) (es : Array DictEntry) (ep : Nat), h.get? a = some o ∧ o.ExactDict ∧ o.data = .dict es ep ∧ es.toList = ps.map (entryOfKey (nestedKind P w)) ∧ (ps.map (·.1)).Nodup
def nestO (a : Addr) (ps : List (NestedKey × Addr × Value)) : HO := .ext (RawN a ps)
theorem nest_xd {p : Addr} {ps : List (NestedKey × Addr × Value)} : ∀ fs, nestO p ps ≠ .xd fs := fun _ z => nomatch (show HO.ext _ = HO.xd _ from z)
theorem sqT_upd {K : PySem.W.Frag} {H : Hp} {A a : Addr} {o : HO} {xs : List V} (hA : ∀ xs, H A ≠ some (.tup xs)) (hB : ∀ ob u, H A ≠ some (.frz ob u)) (h : SqT K H a xs) : SqT K (upd H A o) a xs := by
  rcases h with (h | ⟨ob, h⟩) | h
  · exact .inl (.inl (by rw [upd_ne (fun e => by subst e; exact hA _ h)]; exact h))
  · exact .inl (.inr ⟨ob, by rw [upd_ne (fun e => by subst e; exact hB _ _ h)]; exact h⟩)
  · exact .inr h
/-- the name of the class at an address -/
def nameK (K : PySem.W.Frag) (C : Addr) : Option Str := match K.lookup C with
  | some ⟨_, _, .cls cd, _⟩ => some cd.name
  | _ => none
section
variable (K : PySem.W.Frag) (R : RT) (n : Nat) (φ : Nat → Addr) (H : Hp)
mutual
/-- how a value lies in the heap: φ tells where the store's things lie -/
inductive Rp : V → D → Prop
  | non : Rp .non .non
  | bl (b : Bool) : Rp (.bl b) (.bl b)
  | int (i : Int) : Rp (.int i) (.int i)
  | str (x : Str) : Rp (.str x) (.str x)
  | tup {a : Addr} {xs : List V} {ds : List D} : SqT K H a xs → Rps xs ds → Rp (.ref a) (.tup ds)
  | klst {a : Addr} {xs : List V} {ds : List D} : KLst K a xs → Rps xs ds → Rp (.ref a) (.frz ds)
  | frz {a : Addr} {o : Obj} {xs : List V} {ds : List D} : H a = some (.frz o (.lst xs)) → Rps xs ds → Rp (.ref a) (.frz ds)
  | lst {a : Addr} {xs : List V} {ds : List D} : H a = some (.lst xs) → ¬ R a → (∀ i, i < n → a ≠ φ i) → Rps xs ds → Rp (.ref a) (.lst ds)
  | cell {i : Nat} : i < n → Rp (.ref (φ i)) (.cell i)
  | err {a dd : Addr} {c : Str} {fs : List (Str × V)} {ks : List Str} {ds : List D} : R.er = some (a, c, dd) → H dd = some (.xd fs) → ¬ R dd → (∀ i, i < n → dd ≠ φ i) → fs.map (·.1) = ks → Rps (fs.map (·.2)) ds → Rp (.ref a) (.err c ks ds)
  | ob {a dx C : Addr} {c : Str} {fs : List (Str × V)} {ks : List Str} {ds : List D} : nameK K C = some c ∧ fs ≠ [] → H a = some (.ins C dx fs) → ¬ R a → (∀ i, i < n → a ≠ φ i) → fs.map (·.1) = ks → Rps (fs.map (·.2)) ds → Rp (.ref a) (.ob c ks ds)
inductive Rps : List V → List D → Prop
  | nil : Rps [] []
  | cons {v : V} {d : D} {vs : List V} {ds : List D} : Rp v d → Rps vs ds → Rps (v :: vs) (d :: ds)
end
end

/-- where the store's i-th thing lies -/
def CellR (K : PySem.W.Frag) (R : RT) (n : Nat) (φ : Nat → Addr) (H : Hp) (a : Addr) : Cell → Prop
  | .lst ds => ∃ xs, H a = some (.lst xs) ∧ Rps K R n φ H xs ds
  | .dct kvs => ∃ ps, H a = some (.dK ps) ∧ ps.map (·.1) = kvs.map (·.1) ∧ Rps K R n φ H (ps.map (·.2)) (kvs.map (·.2))
  | .dn kvs => ∃ (ps : List (NestedKey × Addr × Value)) (vs : List V), H a = some (nestO a ps) ∧ ps.map (·.1) = kvs.map (·.1) ∧ Vals vs (ps.map (·.2.2)) ∧ Rps K R n φ H vs (kvs.map (·.2)) ∧ ∀ p ∈ ps, NkV K H (.ref p.2.1) p.1 ∧ p.1.depth ≤ 8
structure Good (K : PySem.W.Frag) (R : RT) (φ : Nat → Addr) (H : Hp) (S : Store) : Prop where
  at_ : ∀ i c, S[i]? = some c → CellR K R S.length φ H (φ i) c
  inj : ∀ i j, i < S.length → j < S.length → φ i = φ j → i = j
  off : ∀ a, R a → ∃ o, H a = some o
  cof : ∀ i, i < S.length → ¬ R (φ i)
  tab : TabOk R.T H
/-- from one state to a later one: all that lay there lies there as it was, but for what the store numbers -/
structure Step (n : Nat) (φ : Nat → Addr) (H : Hp) (n' : Nat) (φ' : Nat → Addr) (H' : Hp) : Prop where
  le : n ≤ n'
  same : ∀ i, i < n → φ' i = φ i
  keep : ∀ a o, H a = some o → (∀ ps, o ≠ .tbl ps) → (∀ i, i < n → a ≠ φ i) → H' a = some o
  dom : ∀ a o, H a = some o → ∃ o', H' a = some o'
  fresh : ∀ i, n ≤ i → i < n' → H (φ' i) = none
  tups : ∀ a xs, H a = some (.tup xs) → H' a = some (.tup xs)
  frzs : ∀ a o u, H a = some (.frz o u) → H' a = some (.frz o u)
section
variable {K : PySem.W.Frag} {R : RT} {n n' n'' : Nat} {φ φ' φ'' : Nat → Addr} {H H' H'' : Hp}
theorem Step.back (s : Step n φ H n' φ' H') {a : Addr} (h : H' a = none) : H a = none := by
  cases q : H a with
  | none => rfl
  | some o =>
    obtain ⟨o', e⟩ := s.dom a o q
    rw [h] at e; cases e
theorem Step.apart (s : Step n φ H n' φ' H') {a : Addr} {o : HO} (h : H a = some o) (hc : ∀ i, i < n → a ≠ φ i) : ∀ i, i < n' → a ≠ φ' i := fun i hi e => by
  by_cases hl : i < n
  · rw [s.same i hl] at e; exact hc i hl e
  · have := s.fresh i (Nat.le_of_not_lt hl) hi
    rw [← e, h] at this; cases this
theorem Step.trans (s : Step n φ H n' φ' H') (t : Step n' φ' H' n'' φ'' H'') : Step n φ H n'' φ'' H'' := by
  refine ⟨Nat.le_trans s.le t.le, fun i hi => (t.same i (Nat.lt_of_lt_of_le hi s.le)).trans (s.same i hi), fun a o h ht hc => t.keep a o (s.keep a o h ht hc) ht (s.apart h hc), fun a o h => ?_, fun i h1 h2 => ?_,
    fun a xs h => t.tups a xs (s.tups a xs h), fun a o u h => t.frzs a o u (s.frzs a o u h)⟩
  · obtain ⟨o', e⟩ := s.dom a o h
    exact t.dom a o' e
  · by_cases hl : i < n'
    · rw [t.same i hl]; exact s.fresh i h1 hl
    · exact s.back (t.fresh i (Nat.le_of_not_lt hl) h2)
/-- something new is laid, the store stays -/
theorem Step.new {p : Addr} {o : HO} (h : H p = none) : Step n φ H n φ (upd H p o) := by
  refine ⟨Nat.le_refl _, fun _ _ => rfl, fun a o' e _ _ => by rw [upd_ne (ne_of_none e h)]; exact e, fun a o' e => ⟨o', by rw [upd_ne (ne_of_none e h)]; exact e⟩, fun i h1 h2 => absurd h2 (Nat.not_lt.mpr h1),
    fun a xs e => by rw [upd_ne (ne_of_none e h)]; exact e, fun a o' u e => by rw [upd_ne (ne_of_none e h)]; exact e⟩
theorem Step.sqT (s : Step n φ H n' φ' H') {a : Addr} {xs : List V} (h : SqT K H a xs) : SqT K H' a xs := by
  rcases h with (h | ⟨o, h⟩) | h
  · exact .inl (.inl (s.tups a xs h))
  · exact .inl (.inr ⟨o, s.frzs a o _ h⟩)
  · exact .inr h
mutual
theorem NkV.keep (s : ∀ a xs, SqT K H a xs → SqT K H' a xs) : ∀ {v : V} {k : NestedKey}, NkV K H v k → NkV K H' v k
  | _, _, .num i => .num i
  | _, _, .tup h r => .tup (s _ _ h) (NkVs.keep s r)
theorem NkVs.keep (s : ∀ a xs, SqT K H a xs → SqT K H' a xs) : ∀ {vs : List V} {ks : List NestedKey}, NkVs K H vs ks → NkVs K H' vs ks
  | _, _, .nil => .nil
  | _, _, .cons h r => .cons (NkV.keep s h) (NkVs.keep s r)
end
theorem NkV.step (s : Step n φ H n' φ' H') {v : V} {k : NestedKey} (h : NkV K H v k) : NkV K H' v k := h.keep fun _ _ q => s.sqT q
mutual
theorem Rp.step (s : Step n φ H n' φ' H') : ∀ {v : V} {d : D}, Rp K R n φ H v d → Rp K R n' φ' H' v d
  | _, _, .non => .non
  | _, _, .bl b => .bl b
  | _, _, .int i => .int i
  | _, _, .str x => .str x
  | _, _, .tup h r => .tup (s.sqT h) (Rps.step s r)
  | _, _, .klst h r => .klst h (Rps.step s r)
  | _, _, .frz h r => .frz (s.frzs _ _ _ h) (Rps.step s r)
  | _, _, .lst h f c r => .lst (s.keep _ _ h (fun _ z => nomatch z) c) f (s.apart h c) (Rps.step s r)
  | _, _, .cell (i := i) h => by
    have e := s.same i h
    rw [← e]
    exact .cell (Nat.lt_of_lt_of_le h s.le)
  | _, _, .err e h f c k r => .err e (s.keep _ _ h (fun _ z => nomatch z) c) f (s.apart h c) k (Rps.step s r)
  | _, _, .ob e h f c k r => .ob e (s.keep _ _ h (fun _ z => nomatch z) c) f (s.apart h c) k (Rps.step s r)
theorem Rps.step (s : Step n φ H n' φ' H') : ∀ {vs : List V} {ds : List D}, Rps K R n φ H vs ds → Rps K R n' φ' H' vs ds
  | _, _, .nil => .nil
  | _, _, .cons h r => .cons (Rp.step s h) (Rps.step s r)
end
theorem Rps.length : ∀ {vs : List V} {ds : List D}, Rps K R n φ H vs ds → vs.length = ds.length
  | _, _, .nil => rfl
  | _, _, .cons _ r => congrArg (· + 1) (Rps.length r)
theorem Rps.append : ∀ {vs ws : List V} {ds es : List D}, Rps K R n φ H vs ds → Rps K R n φ H ws es → Rps K R n φ H (vs ++ ws) (ds ++ es)
  | _, _, _, _, .nil, s => s
  | _, _, _, _, .cons h r, s => .cons h (Rps.append r s)
theorem Rps.take : ∀ {vs : List V} {ds : List D} (k : Nat), Rps K R n φ H vs ds → Rps K R n φ H (vs.take k) (ds.take k)
  | _, _, 0, _ => by simp; exact .nil
  | _, _, _ + 1, .nil => .nil
  | _, _, k + 1, .cons h r => .cons h (Rps.take k r)
theorem Rps.set : ∀ {vs : List V} {ds : List D} {v : V} {d : D} (i : Nat), Rps K R n φ H vs ds → Rp K R n φ H v d → Rps K R n φ H (vs.set i v) (ds.set i d)
  | _, _, _, _, _, .nil, _ => .nil
  | _, _, _, _, 0, .cons _ r, q => .cons q r
  | _, _, _, _, i + 1, .cons h r, q => .cons h (Rps.set i r q)
theorem Rps.reverse : ∀ {vs : List V} {ds : List D}, Rps K R n φ H vs ds → Rps K R n φ H vs.reverse ds.reverse
  | _, _, .nil => .nil
  | _, _, .cons h r => by
    rw [List.reverse_cons, List.reverse_cons]
    exact Rps.append (Rps.reverse r) (.cons h .nil)
theorem Good.step_new {S : Store} {p : Addr} {o : HO} (g : Good K R φ H S) (h : H p = none) (ho : ∀ ps, o ≠ .tbl ps := by exact fun _ z => nomatch z) : Good K R φ (upd H p o) S := by
  refine ⟨fun i c e => ?_, g.inj, fun a ha => let ⟨o', e⟩ := g.off a ha; ⟨o', by rw [upd_ne (ne_of_none e h)]; exact e⟩, g.cof, g.tab.new h ho⟩
  have q := g.at_ i c e
  have st : Step S.length φ H S.length φ (upd H p o) := Step.new h
  cases c with
  | lst ds =>
    obtain ⟨xs, e1, r⟩ := q
    exact ⟨xs, by rw [upd_ne (ne_of_none e1 h)]; exact e1, r.step st⟩
  | dct kvs =>
    obtain ⟨ps, e1, ek, r⟩ := q
    exact ⟨ps, by rw [upd_ne (ne_of_none e1 h)]; exact e1, ek, r.step st⟩
  | dn kvs =>
    obtain ⟨ps, vs, e1, ek, ev, r, nk⟩ := q
    exact ⟨ps, vs, by rw [upd_ne (ne_of_none e1 h)]; exact e1, ek, ev, r.step st, fun p hp => ⟨(nk p hp).1.step st, (nk p hp).2⟩⟩
/-- the slots -/
structure EnvR (K : PySem.W.Frag) (R : RT) (n : Nat) (φ : Nat → Addr) (H : Hp) (ρ : Env) (σ : L2.St) : Prop where
  len : ρ.length = σ.length
  at_ : ∀ (i : Nat) (d : D), ρ[i]? = some (some d) → ∃ v, σ[i]? = some (some v) ∧ Rp K R n φ H v d
theorem EnvR.set {ρ : Env} {σ : L2.St} {v : V} {d : D} (e : EnvR K R n φ H ρ σ) (i : Nat) (h : Rp K R n φ H v d) : EnvR K R n φ H (ρ.set i (some d)) (σ.set i (some v)) := by
  refine ⟨by rw [List.length_set, List.length_set]; exact e.len, fun j c hj => ?_⟩
  by_cases hij : i = j
  · subst hij
    have hi : i < ρ.length := by
      have := (List.getElem?_eq_some_iff.mp hj).1
      rwa [List.length_set] at this
    rw [List.getElem?_set_self hi] at hj
    cases hj
    exact ⟨v, by rw [List.getElem?_set_self (e.len ▸ hi)], h⟩
  · rw [List.getElem?_set_ne hij] at hj ⊢
    exact e.at_ j c hj
/-- where the classes lie; the tables of code objects -/
structure CL where
  at_ : Str → Option Addr
  T : List (Addr × Str)
instance : CoeFun CL (fun _ => Str → Option Addr) := ⟨CL.at_⟩
/-- an exception as it lies -/
def ExR (K : PySem.W.Frag) (R : RT) (n : Nat) (φ : Nat → Addr) (H : Hp) (x : Xd) (c : Value) (o : Option Addr) (cls : CL) : Prop :=
  ∃ C d fs, c = .ref C ∧ cls x.cls = some C ∧ o = some d ∧ H d = some (.xd fs) ∧ fs.map (·.1) = x.fs.map (·.1) ∧ Rps K R n φ H (fs.map (·.2)) (x.fs.map (·.2))
end
end Pv

namespace Pv
open PySem PySem.Spec PyProof.Rows L2

/-- what stays through a body: the written part, where the classes lie, what is wished of exceptions -/
structure Ct where
  K : PySem.W.Frag
  R : RT
  cls : CL
  E : XK

/-- how an answer lies -/
abbrev RelT (β α : Type) := Nat → (Nat → Addr) → Hp → β → α → Prop
def RV (c : Ct) : RelT V D := fun n φ H v d => Rp c.K c.R n φ H v d
def Post {β α : Type} (c : Ct) (rel : RelT β α) (φ : Nat → Addr) (S : Store) (H : Hp) (Q : β → Hp → Prop) : Rs α × Store → Prop
  | (.ok a, S') => ∀ b φ' H', Step S.length φ H S'.length φ' H' → Good c.K c.R φ' H' S' → rel S'.length φ' H' b a → Q b H'
  | (.ex x, S') => ∀ cl o φ' H', Step S.length φ H S'.length φ' H' → Good c.K c.R φ' H' S' → ExR c.K c.R S'.length φ' H' x cl o c.cls → c.E cl o H'
/-- our machine's answer, from slots and a heap -/
def Wp {β α : Type} (c : Ct) (rel : RelT β α) (f : Env → Store → Out α) (σ : L2.St) (H : Hp) (Q : β → Hp → Prop) : Prop :=
  ∃ φ S ρ r, Good c.K c.R φ H S ∧ EnvR c.K c.R S.length φ H ρ σ ∧ f ρ S = some r ∧ Post c rel φ S H Q r

/-- an expression's reading by our machine; a test's; an argument list's -/
abbrev mE (c : Ct) (f : Env → Store → Out D) : TE := fun σ H Q => Wp c (RV c) f σ H Q
section
variable {c : Ct} {β α γ δ : Type} {rel : RelT β α} {rel2 : RelT δ γ} {σ : L2.St} {H : Hp} {Q : δ → Hp → Prop} {φ : Nat → Addr} {S : Store} {ρ : Env}
/-- the last part -/
theorem Wp.lst {f : Env → Store → Out γ} {r : Rs γ × Store} (hg : Good c.K c.R φ H S) (he : EnvR c.K c.R S.length φ H ρ σ) (hf : f ρ S = some r) (hp : Post c rel2 φ S H Q r) : Wp c rel2 f σ H Q := ⟨φ, S, ρ, r, hg, he, hf, hp⟩
/-- something new is made -/
theorem Post.new {a : γ} {b : δ} {p : Addr} {o : HO} (hp : Post c rel2 φ S H Q (.ok a, S)) (hg : Good c.K c.R φ H S) (hn : H p = none) (hr : rel2 S.length φ (upd H p o) b a) (ho : ∀ ps, o ≠ .tbl ps := by exact fun _ z => nomatch z) : Q b (upd H p o) := hp b φ _ (Step.new hn) (hg.step_new hn ho) hr
end
section
variable {X : Cx} {c : Ct}
/-- an operator of ours against the layer's -/
def OpM (c : Ct) (r : R2) (op : D → D → Store → Out D) : Prop := ∀ (φ : Nat → Addr) (S : Store) (H : Hp) (Q : VK) (x y : V) (a b : D) (z : Rs D × Store),
  Good c.K c.R φ H S → Rp c.K c.R S.length φ H x a → Rp c.K c.R S.length φ H y b → op a b S = some z → Post c (RV c) φ S H Q z → r x y H Q
/-- the list that is meant: one by its items, one by its number -/
def asL (S : Store) : D → Option (List D)
  | .lst ds => some ds
  | .frz ds => some ds
  | .cell i => (match S[i]? with | some (.lst ds) => some ds | _ => none)
  | _ => none
end
end Pv

namespace Pv
open PySem PySem.Spec PyProof.Rows L2

mutual
def D.py0 : D → Option PyData
  | .non => some .none
  | .bl b => some (.bool b)
  | .int i => some (.int i)
  | .str x => some (.str x)
  | .tup ds => (match D.pys ds with | some ps => some (.tuple ps) | none => none)
  | .lst ds => (match D.pys ds with | some ps => some (.list ps) | none => none)
  | .frz ds => (match D.pys ds with | some ps => some (.list ps) | none => none)
  | .cell _ => none
  | .err _ _ _ => none
  | .ob _ _ _ => none
def D.pys : List D → Option (List PyData)
  | [] => some []
  | d :: ds => (match D.py0 d with
    | some p => (match D.pys ds with | some ps => some (p :: ps) | none => none)
    | none => none)
end
section
variable {c : Ct} {n : Nat} {φ : Nat → Addr} {S : Store} {H : Hp}
mutual
theorem py0_ok {K : PySem.W.Frag} {R : RT} : ∀ (d : D) (v : V) (p : PyData), Rp K R n φ H v d → d.py0 = some p → Dp K H v p
  | .non, _, _, .non, h => by cases h; exact .non
  | .bl b, _, _, .bl _, h => by cases h; exact .bl b
  | .int i, _, _, .int _, h => by cases h; exact .int i
  | .str x, _, _, .str _, h => by cases h; exact .str x
  | .tup ds, _, _, .tup k r, h => by
    unfold D.py0 at h
    split at h
    · rename_i e
      cases h
      exact .tup k (pys_ok ds _ _ r e)
    · cases h
  | .lst ds, _, _, .lst k _ _ r, h => by
    unfold D.py0 at h
    split at h
    · rename_i e
      cases h
      exact .lst (.of k) (pys_ok ds _ _ r e)
    · cases h
  | .frz ds, _, _, .klst k r, h => by
    unfold D.py0 at h
    split at h
    · rename_i e
      cases h
      exact .lst k.sq (pys_ok ds _ _ r e)
    · cases h
  | .frz ds, _, _, .frz k r, h => by
    unfold D.py0 at h
    split at h
    · rename_i e
      cases h
      exact .lst (.inl (.inr ⟨_, k⟩)) (pys_ok ds _ _ r e)
    · cases h
  | .err _ _ _, _, _, .err _ _ _ _ _ _, h => nomatch h
  | .cell _, _, _, _, h => by cases h
theorem pys_ok {K : PySem.W.Frag} {R : RT} : ∀ (ds : List D) (vs : List V) (ps : List PyData), Rps K R n φ H vs ds → D.pys ds = some ps → DpAll K H vs ps
  | [], _, _, .nil, h => by cases h; exact .nil
  | d :: ds, _, _, .cons r t, h => by
    unfold D.pys at h
    split at h
    · rename_i e1
      split at h
      · rename_i e2
        cases h
        exact .cons (py0_ok d _ _ r e1) (pys_ok ds _ _ t e2)
      · cases h
    · cases h
end
end

end Pv

namespace Pv
open PySem PySem.Spec PyProof.Rows L2

theorem Rps.empty {K : PySem.W.Frag} {R : RT} {n : Nat} {φ : Nat → Addr} {H : Hp} {vs : List V} {ds : List D} (r : Rps K R n φ H vs ds) : ds.isEmpty = vs.isEmpty := by cases r <;> rfl

def eNil (_ : Env) (S : Store) : Out (List D) := ret [] S
def eCons (f : Env → Store → Out D) (fs : Env → Store → Out (List D)) (ρ : Env) (S : Store) : Out (List D) := bnd (f ρ S) fun d S1 => bnd (fs ρ S1) fun ds S2 => ret (d :: ds) S2

end Pv

namespace Pv
open PySem PySem.Spec PyProof.Rows L2 PySem.Calls




def BlM (c : Ct) (r : List V → Hp → VK → Prop) (o : List D → Store → Out D) : Prop := ∀ (φ : Nat → Addr) (S : Store) (H : Hp) (Q : VK) (xs : List V) (ds : List D) (z : Rs D × Store),
  Good c.K c.R φ H S → Rps c.K c.R S.length φ H xs ds → o ds S = some z → Post c (RV c) φ S H Q z → r xs H Q
end Pv

namespace Pv
open PySem PySem.Spec PyProof.Rows L2

section
variable {K : PySem.W.Frag} {R : RT} {φ : Nat → Addr} {S : Store} {H : Hp}
/-- the store's next number -/
def ext (φ : Nat → Addr) (n : Nat) (p : Addr) : Nat → Addr := fun i => if i = n then p else φ i
theorem ext_lt {n i : Nat} {p : Addr} (h : i < n) : ext φ n p i = φ i := if_neg (Nat.ne_of_lt h)
theorem ext_at {n : Nat} {p : Addr} : ext φ n p n = p := if_pos rfl
/-- one more address that nobody knows -/
def addR (R : RT) (p : Addr) : RT := ⟨fun a => R a ∨ a = p, R.T, R.er⟩
mutual
theorem Rp.weak {n : Nat} {p : Addr} : ∀ {v : V} {d : D}, Rp K (addR R p) n φ H v d → Rp K R n φ H v d
  | _, _, .non => .non
  | _, _, .bl b => .bl b
  | _, _, .int i => .int i
  | _, _, .str x => .str x
  | _, _, .tup h r => .tup h (Rps.weak r)
  | _, _, .klst h r => .klst h (Rps.weak r)
  | _, _, .frz h r => .frz h (Rps.weak r)
  | _, _, .lst h f c r => .lst h (fun z => f (.inl z)) c (Rps.weak r)
  | _, _, .cell h => .cell h
  | _, _, .err e h f c k r => .err e h (fun z => f (.inl z)) c k (Rps.weak r)
  | _, _, .ob e h f c k r => .ob e h (fun z => f (.inl z)) c k (Rps.weak r)
theorem Rps.weak {n : Nat} {p : Addr} : ∀ {vs : List V} {ds : List D}, Rps K (addR R p) n φ H vs ds → Rps K R n φ H vs ds
  | _, _, .nil => .nil
  | _, _, .cons h r => .cons (Rp.weak h) (Rps.weak r)
end
mutual
theorem Rp.hide {n : Nat} {p : Addr} {o : HO} (hn : H p = none) : ∀ {v : V} {d : D}, Rp K R n φ H v d → Rp K (addR R p) n φ (upd H p o) v d
  | _, _, .non => .non
  | _, _, .bl b => .bl b
  | _, _, .int i => .int i
  | _, _, .str x => .str x
  | _, _, .tup h r => .tup ((Step.new (n := n) (φ := φ) hn).sqT h) (Rps.hide hn r)
  | _, _, .klst h r => .klst h (Rps.hide hn r)
  | _, _, .frz h r => .frz (by rw [upd_ne (ne_of_none h hn)]; exact h) (Rps.hide hn r)
  | _, _, .lst h f c r => .lst (by rw [upd_ne (ne_of_none h hn)]; exact h) (fun z => z.elim f (ne_of_none h hn)) c (Rps.hide hn r)
  | _, _, .cell h => .cell h
  | _, _, .err e h f c k r => .err e (by rw [upd_ne (ne_of_none h hn)]; exact h) (fun z => z.elim f (ne_of_none h hn)) c k (Rps.hide hn r)
  | _, _, .ob e h f c k r => .ob e (by rw [upd_ne (ne_of_none h hn)]; exact h) (fun z => z.elim f (ne_of_none h hn)) c k (Rps.hide hn r)
theorem Rps.hide {n : Nat} {p : Addr} {o : HO} (hn : H p = none) : ∀ {vs : List V} {ds : List D}, Rps K R n φ H vs ds → Rps K (addR R p) n φ (upd H p o) vs ds
  | _, _, .nil => .nil
  | _, _, .cons h r => .cons (Rp.hide hn h) (Rps.hide hn r)
end
mutual
/-- what nobody knew gets the store's next number -/
theorem Rp.toCell {n : Nat} {p : Addr} : ∀ {v : V} {d : D}, Rp K (addR R p) n φ H v d → Rp K R (n + 1) (ext φ n p) H v d
  | _, _, .non => .non
  | _, _, .bl b => .bl b
  | _, _, .int i => .int i
  | _, _, .str x => .str x
  | _, _, .tup h r => .tup h (Rps.toCell r)
  | _, _, .klst h r => .klst h (Rps.toCell r)
  | _, _, .frz h r => .frz h (Rps.toCell r)
  | _, _, .lst h f c r => .lst h (fun z => f (.inl z)) (fun i hi e => by
      by_cases q : i = n
      · subst q
        rw [ext_at] at e
        exact f (.inr e)
      · rw [ext_lt (by omega)] at e
        exact c i (by omega) e) (Rps.toCell r)
  | _, _, .cell (i := i) h => by
    rw [← ext_lt (φ := φ) (p := p) h]
    exact .cell (Nat.lt_succ_of_lt h)
  | _, _, .err e h f c k r => .err e h (fun z => f (.inl z)) (fun i hi e => by
      by_cases q : i = n
      · subst q
        rw [ext_at] at e
        exact f (.inr e)
      · rw [ext_lt (by omega)] at e
        exact c i (by omega) e) k (Rps.toCell r)
  | _, _, .ob e h f c k r => .ob e h (fun z => f (.inl z)) (fun i hi e => by
      by_cases q : i = n
      · subst q
        rw [ext_at] at e
        exact f (.inr e)
      · rw [ext_lt (by omega)] at e
        exact c i (by omega) e) k (Rps.toCell r)
theorem Rps.toCell {n : Nat} {p : Addr} : ∀ {vs : List V} {ds : List D}, Rps K (addR R p) n φ H vs ds → Rps K R (n + 1) (ext φ n p) H vs ds
  | _, _, .nil => .nil
  | _, _, .cons h r => .cons (Rp.toCell h) (Rps.toCell r)
end
end

end Pv

namespace Pv
open PySem PySem.Spec PyProof.Rows L2

end Pv

namespace Pv
open PySem PySem.Spec PyProof.Rows L2
/-- the tuple at a, the items in new pairs with their places -/
def IteT (K : PySem.W.Frag) (a : Addr) : It :=
  ⟨fun i H => ∃ (xs : List V) (x : V), SqT K H a xs ∧ xs[i]? = some x, fun i H v H' => ∃ T x, v = .ref T ∧ H T = none ∧ H' = upd H T (.tup [.int (i : Nat), x]) ∧ ∀ xs, SqT K H a xs → xs[i]? = some x, fun i H => ∃ xs : List V, SqT K H a xs ∧ xs.length ≤ i⟩
def IteZ (x : Str) : It :=
  ⟨fun i _ => i < x.cps.size, fun i H v H' => ∃ T c, v = .ref T ∧ H T = none ∧ H' = upd H T (.tup [.int (i : Nat), .str ⟨#[c]⟩]) ∧ x.cps[i]? = some c, fun i _ => x.cps.size ≤ i⟩
def IteS (K : PySem.W.Frag) (j : Nat) (a : Addr) : It :=
  ⟨fun i H => ∃ (xs : List V) (x : V), SqT K H a xs ∧ xs[i]? = some x, fun i H v H' => ∃ T x, v = .ref T ∧ H T = none ∧ H' = upd H T (.tup [.int ((j + i : Nat)), x]) ∧ ∀ xs, SqT K H a xs → xs[i]? = some x, fun i H => ∃ xs : List V, SqT K H a xs ∧ xs.length ≤ i⟩
end Pv

namespace Pv
open PySem PySem.Spec PyProof.Rows L2

inductive Tg where
  | nm (i : Nat) | tp (ts : List Tg)
mutual
def setT : Tg → D → Env → Option Env
  | .nm i, d, ρ => some (ρ.set i (some d))
  | .tp ts, d, ρ => (match d with
    | .tup ds => setTs ts ds ρ
    | _ => none)
def setTs : List Tg → List D → Env → Option Env
  | [], ds, ρ => (match ds with
    | [] => some ρ
    | _ => none)
  | t :: ts, ds, ρ => (match ds with
    | d :: ds => (match setT t d ρ with
      | some ρ' => setTs ts ds ρ'
      | none => none)
    | [] => none)
end
mutual
def gT (K : PySem.W.Frag) : Tg → TG
  | .nm i => gName i
  | .tp ts => gTup K ts.length (gTs K ts)
def gTs (K : PySem.W.Frag) : List Tg → TGs
  | [] => gNil
  | t :: ts => gCons (gT K t) (gTs K ts)
end
mutual
def Tg.slots : Tg → List Nat
  | .nm i => [i]
  | .tp ts => Tg.slotss ts
def Tg.slotss : List Tg → List Nat
  | [] => []
  | t :: ts => Tg.slots t ++ Tg.slotss ts
end
section
variable {K : PySem.W.Frag} {R : RT} {n : Nat} {φ : Nat → Addr} {H : Hp}
theorem setTs_len : ∀ {ts : List Tg} {ds : List D} {ρ ρ' : Env}, setTs ts ds ρ = some ρ' → ds.length = ts.length
  | [], [], _, _, _ => rfl
  | [], _ :: _, _, _, h => by simp [setTs] at h
  | _ :: _, [], _, _, h => by simp [setTs] at h
  | t :: ts, d :: ds, ρ, _, h => by
    simp only [setTs] at h
    split at h
    · exact congrArg (· + 1) (setTs_len (ts := ts) h)
    · cases h
mutual
theorem setT_ok : ∀ {t : Tg} {d : D} {v : V} {ρ ρ' : Env} {σ : L2.St}, setT t d ρ = some ρ' → Rp K R n φ H v d → EnvR K R n φ H ρ σ → ∃ σ', EnvR K R n φ H ρ' σ' ∧ (∀ j, j ∉ t.slots → σ'[j]? = σ[j]?) ∧ ∀ (Q : L2.St → Hp → Prop), Q σ' H → gT K t v σ H Q
  | .nm i, d, v, ρ, _, σ, h, r, e => by
    simp only [setT] at h
    cases h
    exact ⟨_, e.set i r, fun j hj => by
      rw [List.getElem?_set_ne]
      intro q
      exact hj (by simp [Tg.slots, q]), fun Q q => by simpa only [gT, gName] using q⟩
  | .tp ts, d, v, ρ, _, σ, h, r, e => by
    simp only [setT] at h
    split at h
    · cases r with
      | tup k q =>
        obtain ⟨σ', h1, h2, h3⟩ := setTs_ok (ts := ts) h q e
        exact ⟨σ', h1, fun j hj => h2 j (by simpa [Tg.slots] using hj), fun Q z => by
          simp only [gT]
          exact ⟨_, _, rfl, k, by rw [q.length]; exact setTs_len h, h3 Q z⟩⟩
    · cases h
theorem setTs_ok : ∀ {ts : List Tg} {ds : List D} {vs : List V} {ρ ρ' : Env} {σ : L2.St}, setTs ts ds ρ = some ρ' → Rps K R n φ H vs ds → EnvR K R n φ H ρ σ → ∃ σ', EnvR K R n φ H ρ' σ' ∧ (∀ j, j ∉ Tg.slotss ts → σ'[j]? = σ[j]?) ∧ ∀ (Q : L2.St → Hp → Prop), Q σ' H → gTs K ts vs σ H Q
  | [], ds, _, _, _, _, h, r, e => by
    simp only [setTs] at h
    split at h
    · cases h
      cases r
      exact ⟨_, e, fun _ _ => rfl, fun Q q => by simp only [gTs]; exact ⟨rfl, q⟩⟩
    · cases h
  | t :: ts, ds, vs, ρ, _, σ, h, r, e => by
    simp only [setTs] at h
    split at h
    · split at h
      · rename_i e1
        cases r with
        | cons r1 rs =>
          obtain ⟨σ1, h1, h2, h3⟩ := setT_ok e1 r1 e
          obtain ⟨σ2, k1, k2, k3⟩ := setTs_ok (ts := ts) h rs h1
          refine ⟨σ2, k1, fun j hj => ?_, fun Q q => ?_⟩
          · simp only [Tg.slotss, List.mem_append, not_or] at hj
            rw [k2 j hj.2, h2 j hj.1]
          · simp only [gTs]
            exact ⟨_, _, rfl, h3 _ (k3 Q q)⟩
      · cases h
    · cases h
end
end

/-- a thing that is walked as it stands at each turn: a list, a tuple, a text; a range -/
inductive Src where
  | seq (x : D) | rng (lo : Int) (n : Nat) | enm (x : D) | zip (x y : D) | enS (j : Nat) (ds : List D) | enZ (z : Str)
/-- the k-th pair -/
def pairAt (a b : List D) (k : Nat) : Option D := match a[k]?, b[k]? with
  | some d, some e => some (.tup [d, e])
  | _, _ => none
/-- the k-th item: nothing known, no item left, an item -/
def Src.at_ (S : Store) : Src → Nat → Option (Option D)
  | .rng lo n, k => some (if k < n then some (.int (lo + k)) else none)
  | .enm x, k => (match x with
    | .tup ds => some ((ds[k]?).map fun d => .tup [.int k, d])
    | x => (match asL S x with
      | some ds => some ((ds[k]?).map fun d => .tup [.int k, d])
      | none => none))
  | .enS j ds, k => some ((ds[k]?).map fun d => .tup [.int (j + k : Nat), d])
  | .enZ z, k => some ((z.cps[k]?).map fun c => .tup [.int k, .str ⟨#[c]⟩])
  | .zip x y, k => (match x, y with
    | .tup a, .tup b => some (pairAt a b k)
    | x, y => (match asL S x, asL S y with
      | some a, some b => some (pairAt a b k)
      | _, _ => none))
  | .seq x, k => (match x with
    | .tup ds => some ds[k]?
    | .str z => some ((z.cps[k]?).map fun c => .str ⟨#[c]⟩)
    | x => (match asL S x with
      | some ds => some ds[k]?
      | none => none))
/-- how it lies, and the layer's iterator -/
inductive SrcR (K : PySem.W.Frag) (R : RT) (n : Nat) (φ : Nat → Addr) (H : Hp) : Src → It → Prop
  | rng (lo : Int) (m : Nat) : SrcR K R n φ H (.rng lo m) (Itr lo m)
  | str (z : Str) : SrcR K R n φ H (.seq (.str z)) (Its z)
  | tup {a : Addr} {ds : List D} : Rp K R n φ H (.ref a) (.tup ds) → SrcR K R n φ H (.seq (.tup ds)) (Itt K a)
  | lst {a : Addr} {x : D} : Rp K R n φ H (.ref a) x → (∀ ds, x ≠ .tup ds) → SrcR K R n φ H (.seq x) (Itl K a)
  | enm {a : Addr} {x : D} : Rp K R n φ H (.ref a) x → (∀ ds, x ≠ .tup ds) → SrcR K R n φ H (.enm x) (Ite K a)
  | enmT {a : Addr} {ds : List D} : Rp K R n φ H (.ref a) (.tup ds) → SrcR K R n φ H (.enm (.tup ds)) (IteT K a)
  | enZ (z : Str) : SrcR K R n φ H (.enZ z) (IteZ z)
  | enS {a : Addr} {j : Nat} {ds : List D} : Rp K R n φ H (.ref a) (.tup ds) → SrcR K R n φ H (.enS j ds) (IteS K j a)
  | zipT {a b : Addr} {ds es : List D} : Rp K R n φ H (.ref a) (.tup ds) → Rp K R n φ H (.ref b) (.tup es) → SrcR K R n φ H (.zip (.tup ds) (.tup es)) (RZ.ItzT K a b)
  | zip {a b : Addr} {x y : D} : Rp K R n φ H (.ref a) x → Rp K R n φ H (.ref b) y → (∀ ds, x ≠ .tup ds) → SrcR K R n φ H (.zip x y) (Itz K a b)

end Pv

namespace Pv
open PySem PySem.Spec PyProof.Rows L2


section
variable {X : Cx} {c : Ct} {elt tge iter : Expr} {ifs : List Expr} {scope : Scope} {own : List (Str × Nat)} {pos : Pos} {tg : Tg} {fi : SemI} {cnd : Option (Env → Store → Out Bool)} {fe : Env → Store → Out D}
section
variable {K : PySem.W.Frag} {R : RT} {n n' : Nat} {φ φ' : Nat → Addr} {H H' : Hp} {A : Addr} {o : HO}
theorem sqT_swap {a : Addr} {xs ys : List V} (hA : H A = some (.lst ys)) (h : SqT K H a xs) : SqT K (upd H A o) a xs := by
  rcases h with (h | ⟨ob, h⟩) | h
  · exact .inl (.inl (by rw [upd_ne (ne_of h hA (by intro z; cases z))]; exact h))
  · exact .inl (.inr ⟨ob, by rw [upd_ne (ne_of h hA (by intro z; cases z))]; exact h⟩)
  · exact .inr h
mutual
theorem Rp.swap {ys : List V} (hA : H A = some (.lst ys)) : ∀ {v : V} {d : D}, Rp K (addR R A) n φ H v d → Rp K (addR R A) n φ (upd H A o) v d
  | _, _, .non => .non
  | _, _, .bl b => .bl b
  | _, _, .int i => .int i
  | _, _, .str x => .str x
  | _, _, .tup h r => .tup (sqT_swap hA h) (Rps.swap hA r)
  | _, _, .klst h r => .klst h (Rps.swap hA r)
  | _, _, .frz h r => .frz (by rw [upd_ne (ne_of h hA (by intro z; cases z))]; exact h) (Rps.swap hA r)
  | _, _, .lst h f c r => .lst (by rw [upd_ne fun e => f (.inr e)]; exact h) f c (Rps.swap hA r)
  | _, _, .cell h => .cell h
  | _, _, .err e h f c k r => .err e (by rw [upd_ne fun e => f (.inr e)]; exact h) f c k (Rps.swap hA r)
  | _, _, .ob e h f c k r => .ob e (by rw [upd_ne fun e => f (.inr e)]; exact h) f c k (Rps.swap hA r)
theorem Rps.swap {ys : List V} (hA : H A = some (.lst ys)) : ∀ {vs : List V} {ds : List D}, Rps K (addR R A) n φ H vs ds → Rps K (addR R A) n φ (upd H A o) vs ds
  | _, _, .nil => .nil
  | _, _, .cons h r => .cons (Rp.swap hA h) (Rps.swap hA r)
end
end
end
end Pv

namespace Pv
open PySem PySem.Spec PyProof.Rows L2

/-- from level 150 on: no repr is under way -/
def Gds (k : Nat) (A : Around) : Prop := 150 ≤ k → A.guards = some []
/-- the def at f keeps the promise sp; from level 150 on where no repr is under way -/
structure FnG (P : Program) (w : World) (K : PySem.W.Frag) (mg : Str → Option Value) (base : Heap) (CX : CXT) (k : Nat) (f : Addr) (fd : FuncData) (ps : List Str) (sp : Sp) : Prop where
  len : ∀ vs H Q E, sp vs H Q E → vs.length = ps.length
  run : ∀ (A : Around) (outer : List PySem.Env) (s : Shared) (H : Hp) (args : Args) (us : List Value) (vs : List V) (Q : VK) (E : XK), Room k A → Gds k A → Env0 P w K mg base A outer s H → BindsTo s fd args (ps.zip us) → Vals vs us → sp vs H Q E →
    codeAny (model P w) A (.call (.ref f) args) (CR CX outer P w H s Q E) s
mutual
/-- no number of the store's from n on -/
def D.clos (n : Nat) : D → Bool
  | .tup ds => D.closs n ds
  | .lst ds => D.closs n ds
  | .frz ds => D.closs n ds
  | .cell i => decide (i < n)
  | .err _ _ _ => false
  | .ob _ _ ds => D.closs n ds
  | _ => true
def D.closs (n : Nat) : List D → Bool
  | [] => true
  | d :: ds => D.clos n d && D.closs n ds
end
def Cell.clos (n : Nat) : Cell → Bool
  | .lst ds => D.closs n ds
  | .dct kvs => D.closs n (kvs.map (·.2))
  | .dn kvs => D.closs n (kvs.map (·.2))

mutual
/-- a value as the caller sees it: the lists that the def made by their items; x: the one that is not copied -/
def D.exp (n x : Nat) (S : Store) : D → Option D
  | .tup ds => (match D.exps n x S ds with | some es => some (.tup es) | none => none)
  | .lst ds => (match D.exps n x S ds with | some es => some (.lst es) | none => none)
  | .frz ds => if D.closs n ds then some (.frz ds) else none
  | .cell i => if i < n then some (.cell i) else if i = x then none else (match S[i]? with
    | some (.lst ds) => if D.closs n ds then some (.lst ds) else none
    | _ => none)
  | .err _ _ _ => none
  | .ob c ks ds => (match D.exps n x S ds with | some es => some (.ob c ks es) | none => none)
  | d => some d
def D.exps (n x : Nat) (S : Store) : List D → Option (List D)
  | [] => some []
  | d :: ds => (match D.exp n x S d with
    | some e => (match D.exps n x S ds with | some es => some (e :: es) | none => none)
    | none => none)
end
/-- the numbers are told anew: of those from n on at most the x-th stays -/
structure Mv (n' n x m : Nat) (φ ψ : Nat → Addr) : Prop where
  hn : n ≤ n'
  le : n ≤ m
  same : ∀ i, i < n → ψ i = φ i
  old : ∀ i, i < m → ∃ j, j < n' ∧ ψ i = φ j
  off : ∀ j, n ≤ j → j < n' → j ≠ x → ∀ i, i < m → φ j ≠ ψ i
section
variable {K : PySem.W.Frag} {R : RT} {φ ψ : Nat → Addr} {S : Store} {H : Hp} {n n' x m : Nat}
mutual
theorem Rp.low (M : Mv n' n x m φ ψ) : ∀ {v : V} {d : D}, Rp K R n' φ H v d → d.clos n = true → Rp K R m ψ H v d
  | _, _, .non, _ => .non
  | _, _, .bl b, _ => .bl b
  | _, _, .int i, _ => .int i
  | _, _, .str x, _ => .str x
  | _, _, .tup h r, c => .tup h (Rps.low M r (by simpa only [D.clos] using c))
  | _, _, .klst h r, c => .klst h (Rps.low M r (by simpa only [D.clos] using c))
  | _, _, .frz h r, c => .frz h (Rps.low M r (by simpa only [D.clos] using c))
  | _, _, .lst h f k r, c => .lst h f (fun i hi e => by
      obtain ⟨j, hj, q⟩ := M.old i hi
      exact k j hj (e.trans q)) (Rps.low M r (by simpa only [D.clos] using c))
  | _, _, .cell (i := i) h, c => by
    have hi : i < n := by simpa only [D.clos, decide_eq_true_eq] using c
    rw [← M.same i hi]
    exact .cell (Nat.lt_of_lt_of_le hi M.le)
  | _, _, .err _ _ _ _ _ _, c => nomatch c
  | _, _, .ob e h f k w r, c => .ob e h f (fun i hi e => by
      obtain ⟨j, hj, q⟩ := M.old i hi
      exact k j hj (e.trans q)) w (Rps.low M r (by simpa only [D.clos] using c))
theorem Rps.low (M : Mv n' n x m φ ψ) : ∀ {vs : List V} {ds : List D}, Rps K R n' φ H vs ds → D.closs n ds = true → Rps K R m ψ H vs ds
  | _, _, .nil, _ => .nil
  | _, _, .cons h r, c => by
    simp only [D.closs, Bool.and_eq_true] at c
    exact .cons (Rp.low M h c.1) (Rps.low M r c.2)
end
mutual
theorem Rp.exp (g : Good K R φ H S) (M : Mv S.length n x m φ ψ) : ∀ {v : V} {d e : D}, Rp K R S.length φ H v d → d.exp n x S = some e → Rp K R m ψ H v e
  | _, _, _, .non, h => by cases h; exact .non
  | _, _, _, .bl b, h => by cases h; exact .bl b
  | _, _, _, .int i, h => by cases h; exact .int i
  | _, _, _, .str x, h => by cases h; exact .str x
  | _, _, _, .tup k r, h => by
    simp only [D.exp] at h
    split at h
    · rename_i e
      cases h
      exact .tup k (Rps.exp g M r e)
    · cases h
  | _, _, _, .klst k r, h => by
    simp only [D.exp] at h
    split at h
    · rename_i e
      cases h
      exact .klst k (Rps.low M r e)
    · cases h
  | _, _, _, .frz k r, h => by
    simp only [D.exp] at h
    split at h
    · rename_i e
      cases h
      exact .frz k (Rps.low M r e)
    · cases h
  | _, _, _, .lst k f c r, h => by
    simp only [D.exp] at h
    split at h
    · rename_i e
      cases h
      exact .lst k f (fun i hi e => by
        obtain ⟨j, hj, q⟩ := M.old i hi
        exact c j hj (e.trans q)) (Rps.exp g M r e)
    · cases h
  | _, _, _, .cell (i := i) hi, h => by
    simp only [D.exp] at h
    split at h
    · rename_i hin
      cases h
      rw [← M.same i hin]
      exact .cell (Nat.lt_of_lt_of_le hin M.le)
    · rename_i hin
      split at h
      · cases h
      · rename_i hx
        split at h
        · rename_i ee
          split at h
          · rename_i ec
            cases h
            obtain ⟨xs, e1, q⟩ := g.at_ _ _ ee
            exact .lst e1 (g.cof i hi) (M.off i (Nat.le_of_not_lt hin) hi hx) (Rps.low M q ec)
          · cases h
        · cases h
  | _, _, _, .err _ _ _ _ _ _, h => nomatch h
  | _, _, _, .ob e0 k f c w r, h => by
    simp only [D.exp] at h
    split at h
    · rename_i e
      cases h
      exact .ob e0 k f (fun i hi e => by
        obtain ⟨j, hj, q⟩ := M.old i hi
        exact c j hj (e.trans q)) w (Rps.exp g M r e)
    · cases h
theorem Rps.exp (g : Good K R φ H S) (M : Mv S.length n x m φ ψ) : ∀ {vs : List V} {ds es : List D}, Rps K R S.length φ H vs ds → D.exps n x S ds = some es → Rps K R m ψ H vs es
  | _, _, _, .nil, h => by cases h; exact .nil
  | _, _, _, .cons r t, h => by
    simp only [D.exps] at h
    split at h
    · rename_i e1
      split at h
      · rename_i e2
        cases h
        exact .cons (Rp.exp g M r e1) (Rps.exp g M t e2)
      · cases h
    · cases h
end
/-- what the caller keeps: its own things -/
theorem Mv.none (g : Good K R φ H S) (hn : n ≤ S.length) (hx : S.length ≤ x) : Mv S.length n x n φ φ :=
  ⟨hn, Nat.le_refl _, fun _ _ => rfl, fun i hi => ⟨i, Nat.lt_of_lt_of_le hi hn, rfl⟩, fun j h1 h2 _ i hi e => by
    have := g.inj j i h2 (Nat.lt_of_lt_of_le hi hn) e
    omega⟩
end
/-- a def as our machine runs it: from its arguments and a store -/
abbrev Fn := List D → Store → Out D
/-- its promise -/
def spM (K : PySem.W.Frag) (cls : CL) (m : Nat) (f : Fn) : Sp := fun vs H Q E => ∃ R φ S ds r, RtOk R cls.T ∧ Good K R φ H S ∧ Rps K R S.length φ H vs ds ∧ ds.length = m ∧ f ds S = some r ∧ Post ⟨K, R, cls, E⟩ (RV ⟨K, R, cls, E⟩) φ S H Q r
end Pv

namespace Pv
open PySem PySem.Spec PyProof.Rows L2

/-- values that lie everywhere alike -/
def Pure' (K : PySem.W.Frag) (vs : List V) (ds : List D) : Prop := ∀ (R : RT) (n : Nat) (φ : Nat → Addr) (H : Hp), Rps K R n φ H vs ds
theorem Pure'.nil {K : PySem.W.Frag} : Pure' K [] [] := fun _ _ _ _ => .nil
/-- a def that is there: where it lies, its promise, its defaults -/
structure FnC (P : Program) (w : World) (K : PySem.W.Frag) (mg : Str → Option Value) (base : Heap) (cls : CL) (k : Nat) (x : Str) (m : Nat) (F : Fn) (dd : List D) : Prop where
  ex : ∃ (f : Addr) (fd : FuncData) (ps : List Str) (dvs : List V) (ds : List Value), FnG P w K mg base (L2.CX P w) k f fd ps (spM K cls m F) ∧ mg x = some (.ref f) ∧ PySem.W.keepIn K (.ref f) = true ∧ Binds K fd ps ds ∧ Vals dvs ds ∧ Pure' K dvs dd
end Pv

namespace Pv
open PySem PySem.Spec PyProof.Rows L2 PySem.Calls


end Pv

namespace Pv
open PySem PySem.Spec PyProof.Rows L2 PySem.Calls

/-- the pairs of a display, the keys written -/
inductive PD (X : Cx) (c : Ct) : List (Option Expr) → List Expr → List Key → (Env → Store → Out (List D)) → Prop
  | nil : PD X c [] [] [] eNil
  | cons {k : Str} {j : Nat} {pos : Pos} {v : Expr} {f : Env → Store → Out D} {keys : List (Option Expr)} {vals : List Expr} {ks : List Key} {fs : Env → Store → Out (List D)} (h : ∀ R, Same R c.R → PE X v (mE { c with R := R } f)) (r : PD X c keys vals ks fs) :
    PD X c (some (.Constant (.str k) j pos) :: keys) (v :: vals) (.inr k :: ks) (eCons f fs)
end Pv

namespace Pv
open PySem PySem.Spec PyProof.Rows L2 PySem.Calls

section
variable {X : Cx} {c : Ct} {a b e : Expr} {es : List Expr} {pos p p2 apos : Pos} {fa fb fe : Env → Store → Out D} {fs : Env → Store → Out (List D)} {x : Str}
variable (hK : c.K = X.K)
include hK
omit hK
include hK
omit hK
include hK
omit hK
end
section
variable {X : Cx} {c : Ct} {a b e o : Expr} {es : List Expr} {pos p p2 apos : Pos} {fs : Env → Store → Out (List D)} {f g fo : Env → Store → Out D} {m k k2 : Nat} {F : Fn} {dd : List D} {x : Str}
/-- what a body may count on -/
structure Bd (X : Cx) (c : Ct) (k : Nat) : Prop where
  K : c.K = X.K
  room : Room k X.A
  gd : Gds k X.A
  hT : RtOk c.R c.cls.T
  pass : Passes (L2.CX X.prog X.w) X c.E
  tk : Takes X (fun cl d _ H => c.E cl d H)
  calm : X.calm = true
end
end Pv
namespace Pv
open PySem PySem.Spec PyProof.Rows L2 PySem.Calls
section
variable {X : Cx} {c : Ct} {k : Nat}
theorem FnG.none {P : Program} {w : World} {K : PySem.W.Frag} {mg : Str → Option Value} {base : Heap} {CX : CXT} {k : Nat} {f : Addr} {fd : FuncData} {ps : List Str} {cls : CL} : FnG P w K mg base CX k f fd ps (spM K cls ps.length fun _ _ => Option.none) :=
  ⟨fun vs H Q E ⟨_, _, _, _, _, _, _, _, _, h, _⟩ => (nomatch h), fun _ _ _ _ _ _ _ _ _ _ _ _ _ _ ⟨_, _, _, _, _, _, _, _, _, h, _⟩ => (nomatch h)⟩
end
end Pv

namespace Pv
open PySem PySem.Spec PyProof.Rows L2 Att

/-- the tables as the law finds them: the codes, where their tables lie -/
structure Tabs0 (K : PySem.W.Frag) (cs : List (Addr × Addr)) (t : Shared) : Prop where
  em : ∀ q ∈ cs, t.heap.get? q.2 = some { cls := .none, data := .fields #[] }
  no : ∀ q ∈ cs, K.lookup q.2 = none
  hd : ∀ q ∈ cs, PySem.W.CodeHd t.heap q.1 q.2
end Pv

namespace Pv
open PySem PySem.Spec PyProof.Rows L2 PySem.Calls

abbrev Tb : Type := List (Str × List Str)
def tabB (tb : Tb) (K : PySem.W.Frag) : Bool := tb.all fun p => He.tupB K p.1 (p.2.map He.Dv.str) && He.eqO (PySem.W.nsIn K mainGlobals p.1) (some (some (.ref (He.ga K p.1))))
end Pv

namespace Pv
open PySem PySem.Spec PyProof.Rows L2 PySem.Calls

end Pv

namespace Pv
open PySem PySem.Spec PyProof.Rows L2 PySem.Calls



def pick {α : Type} (is : List Nat) (xs : List α) : List α := is.filterMap fun i => xs[i]?
/-- a def that is called by its parameters' names ks, is: where each parameter's value stands among them -/
structure FnK (P : Program) (w : World) (K : PySem.W.Frag) (mg : Str → Option Value) (base : Heap) (cls : CL) (k : Nat) (x : Str) (m : Nat) (F : Fn) (ks : List Str) (is : List Nat) : Prop where
  ex : ∃ (f : Addr) (fd : FuncData) (ps : List Str), FnG P w K mg base (L2.CX P w) k f fd ps (spM K cls m F) ∧ mg x = some (.ref f) ∧ PySem.W.keepIn K (.ref f) = true ∧
    ∀ (s : Shared) (ws : List Value), ws.length = ks.length → BindsTo s fd ⟨[], ks.zip ws⟩ (ps.zip (pick is ws))
end Pv

namespace Pv
open PySem PySem.Spec PyProof.Rows L2 PySem.Calls
/-- it keeps its arguments, the last one first -/
def spInit (C : Addr) (fl : List Str) : Sp := fun vs H Q _ => ∃ a ws, vs = V.ref a :: ws ∧ ws.length = fl.length ∧ H a = some (exo a C none) ∧
  ∀ dx H2, H dx = none → dx ≠ a → H2 a = some (exo a C (some dx)) → H2 dx = some (exd dx (fl.zip ws).reverse) → (∀ b, b ≠ a → b ≠ dx → H2 b = H b) → Q .non H2
/-- an own class of exceptions: its fields, its __init__ -/
structure Xc (P : Program) (w : World) (K : PySem.W.Frag) (mg : Str → Option Value) (base : Heap) (cls : CL) (x : Str) (fl : List Str) : Prop where
  ex : ∃ (C fI : Addr) (fd : FuncData), mg x = some (.ref C) ∧ cls x = some C ∧ OexC K C ∧ PySem.W.findIn K (.ref C) "__init__" = some (some (.ref fI)) ∧ PySem.W.typeIn K (.ref fI) = some (.type "function") ∧
    FnOk P w K mg base (L2.CX P w) 1 fI fd ("self" :: fl) (spInit C fl) ∧ Binds K fd ("self" :: fl) []
/-- which classes lie below which -/
abbrev Subs := Str → Str → Option Bool
structure SubOk (K : PySem.W.Frag) (mg : Str → Option Value) (cls : CL) (sub : Subs) : Prop where
  ok : ∀ x y b, sub x y = some b → ∀ C, cls x = some C → ∀ cy, mg y = some (.ref cy) → PySem.W.exmOne K (.ref C) (.ref cy) = some b
end Pv

namespace Pv
open PySem PySem.Spec PyProof.Rows L2 PySem.Calls
/-- what is needed of the class at C, so that its instances' fields are read and isinstance is asked rightly -/
structure XfK (K : PySem.W.Frag) (C : Addr) : Prop where
  cl : (PySem.W.clsIn K C).isSome = true
  ga : PySem.W.findIn K (.ref C) "__getattribute__" = some (some (.builtin "BaseException.__getattribute__"))
  gg : PySem.W.findIn K (.ref C) "__getattr__" = some none
  ex : PySem.W.subIn K (.ref C) (.type "BaseException") = some true
  hd : PySem.W.hasDictIn K C = true
  ca : PySem.W.findIn K (.ref C) "__class__" = some (some (.builtin "object.__class__"))
  sp : PySem.W.specialIn K (.builtin "object.__class__") "__get__" = some (some (.builtin "getset_descriptor.__get__"))
  tk : PySem.W.takesIn K (.builtin "object.__class__") = some true
  mo : PySem.W.mroIn K C (.type "object") = some true
def xfB' (K : PySem.W.Frag) (C : Addr) : Bool := (PySem.W.clsIn K C).isSome && decide (PySem.W.findIn K (.ref C) "__getattribute__" = some (some (.builtin "BaseException.__getattribute__"))) && decide (PySem.W.findIn K (.ref C) "__getattr__" = some none) && decide (PySem.W.subIn K (.ref C) (.type "BaseException") = some true) && PySem.W.hasDictIn K C &&
  decide (PySem.W.findIn K (.ref C) "__class__" = some (some (.builtin "object.__class__"))) && decide (PySem.W.specialIn K (.builtin "object.__class__") "__get__" = some (some (.builtin "getset_descriptor.__get__"))) && decide (PySem.W.takesIn K (.builtin "object.__class__") = some true) && decide (PySem.W.mroIn K C (.type "object") = some true)
/-- the exception in the suite: where it lies, its class by name, its dict -/
structure ErAt (X : Cx) (c : Ct) (a dd C : Addr) (cn : Str) : Prop where
  er : c.R.er = some (a, cn, dd)
  pin : ∃ oe, (a, oe) ∈ X.pn ∧ Zc (.ref C) (some dd) oe ∧ ∃ vs, oe.data = .fields vs
  cls : c.cls cn = some C
  kf : XfK X.K C
/-- what a body in a suite may count on -/
structure Be (X : Cx) (c : Ct) : Prop where
  K : c.K = X.K
  u : X.A.units + 64 < cLine
  u65 : X.A.units + 65 < cLine
  at_ : ∃ a dd C cn, ErAt X c a dd C cn
section
variable {X : Cx} {c : Ct}
/-- which classes lie below which, as isinstance asks -/
structure KitOk (K : PySem.W.Frag) (mg : Str → Option Value) (cls : CL) (sub : Subs) : Prop where
  own : ∀ x y b, sub x y = some b → ∀ C, cls x = some C → ∀ cy, mg y = some (.ref cy) → PySem.W.kitOne K (.ref C) (.ref cy) = some b
  ve : ∀ x b, sub x "ValueError" = some b → ∀ C, cls x = some C → PySem.W.kitOne K (.ref C) (.type "ValueError") = some b
/-- the fields of the own classes -/
structure FldOk (K : PySem.W.Frag) (cls : CL) (fl : Str → Option (List Str)) : Prop where
  ok : ∀ x l, fl x = some l → ∀ n ∈ l, ∀ C, cls x = some C → PySem.W.findIn K (.ref C) n = some none
end
end Pv

namespace Pv
open PySem PySem.Spec PyProof.Rows L2 PySem.Calls
/-- the def at f keeps its promise where an exception, p, is held by a clause; it lets nothing out -/
structure FnE (P : Program) (w : World) (K : PySem.W.Frag) (mg : Str → Option Value) (base : Heap) (k : Nat) (f : Addr) (fd : FuncData) (ps : List Str) (sp : Addr × Obj → Sp) : Prop where
  len : ∀ p vs H Q E, sp p vs H Q E → vs.length = ps.length
  run : ∀ (A : Around) (outer : List PySem.Env) (s : Shared) (H : Hp) (args : Args) (us : List Value) (vs : List V) (Q : VK) (E : XK) (p : Addr × Obj), L2H.RoomH k A → L2H.PinOk outer H s p → Env0 P w K mg base A outer s H → BindsTo s fd args (ps.zip us) → Vals vs us → sp p vs H Q E →
    codeAny (model P w) A (.call (.ref f) args) (CR (L2.CX P w) outer P w H s Q E) s
/-- what such a def makes of a lambda's call: sp, the promise of the def that reads the exception -/
def TTs (K : PySem.W.Frag) (CE : Addr) (w0 w1 w2 : Str) (sp : Addr × Obj → Sp) : (XK → Hp → VK → Prop) → Hp → VK → Prop := fun tl H Q => ∀ p0, H p0 = none →
  tl (fun cl o H' => PySem.W.exmOne K cl (.ref CE) = some true ∧ ∀ a oe, H' a = none → Zc cl o oe → (∃ vs, oe.data = .fields vs) → sp (a, oe) [V.ref a] H' Q fun _ _ _ => False) (upd H p0 (.tup [.str w0, .str w1]))
    fun v H' => ∀ p, H' p = none → Q (.ref p) (upd H' p (.tup [.str w2, v]))
end Pv



namespace Pv
open PySem PySem.Spec PyProof.Rows L2 PySem.Calls LamX
mutual
/-- no exception within -/
def D.ne : D → Bool
  | .tup ds => D.nes ds
  | .lst ds => D.nes ds
  | .frz ds => D.nes ds
  | .err _ _ _ => false
  | .ob _ _ ds => D.nes ds
  | _ => true
def D.nes : List D → Bool
  | [] => true
  | d :: ds => D.ne d && D.nes ds
end
@[simp] theorem nes_cons {d : D} {ds : List D} : D.nes (d :: ds) = (d.ne && D.nes ds) := rfl
section
variable {K : PySem.W.Frag} {R : RT} {n : Nat} {φ : Nat → Addr} {H : Hp} {a dd : Addr} {cn : Str} {fs : List (Str × V)}
/-- the same, with the exception at a held -/
abbrev RT.hold (R : RT) (a : Addr) (cn : Str) (dd : Addr) : RT := ⟨fun b => R b ∧ b ≠ dd, R.T, some (a, cn, dd)⟩
mutual
theorem Rp.hold (er : R.er = none) : ∀ {v : V} {d : D}, Rp K R n φ H v d → Rp K (R.hold a cn dd) n φ H v d
  | _, _, .non => .non
  | _, _, .bl b => .bl b
  | _, _, .int i => .int i
  | _, _, .str x => .str x
  | _, _, .tup h r => .tup h (Rps.hold er r)
  | _, _, .klst h r => .klst h (Rps.hold er r)
  | _, _, .frz h r => .frz h (Rps.hold er r)
  | _, _, .lst h f c r => .lst h (fun z => f z.1) c (Rps.hold er r)
  | _, _, .cell h => .cell h
  | _, _, .err e _ _ _ _ _ => by rw [er] at e; cases e
  | _, _, .ob e h f c k r => .ob e h (fun z => f z.1) c k (Rps.hold er r)
theorem Rps.hold (er : R.er = none) : ∀ {vs : List V} {ds : List D}, Rps K R n φ H vs ds → Rps K (R.hold a cn dd) n φ H vs ds
  | _, _, .nil => .nil
  | _, _, .cons h r => .cons (Rp.hold er h) (Rps.hold er r)
end
mutual
theorem Rp.ne (er : R.er = none) : ∀ {v : V} {d : D}, Rp K R n φ H v d → d.ne = true
  | _, _, .non => rfl
  | _, _, .bl b => rfl
  | _, _, .int i => rfl
  | _, _, .str x => rfl
  | _, _, .tup h r => Rps.nes er r
  | _, _, .klst h r => Rps.nes er r
  | _, _, .frz h r => Rps.nes er r
  | _, _, .lst h f c r => Rps.nes er r
  | _, _, .cell h => rfl
  | _, _, .err e _ _ _ _ _ => by rw [er] at e; cases e
  | _, _, .ob e h f c k r => Rps.nes er r
theorem Rps.nes (er : R.er = none) : ∀ {vs : List V} {ds : List D}, Rps K R n φ H vs ds → D.nes ds = true
  | _, _, .nil => rfl
  | _, _, .cons h r => by rw [nes_cons, Rp.ne er h, Rps.nes er r]; rfl
end
mutual
theorem Rp.free (e : H dd = some (.xd fs)) : ∀ {v : V} {d : D}, Rp K (R.hold a cn dd) n φ H v d → d.ne = true → Rp K R n φ H v d
  | _, _, .non, _ => .non
  | _, _, .bl b, _ => .bl b
  | _, _, .int i, _ => .int i
  | _, _, .str x, _ => .str x
  | _, _, .tup h r, q => .tup h (Rps.free e r q)
  | _, _, .klst h r, q => .klst h (Rps.free e r q)
  | _, _, .frz h r, q => .frz h (Rps.free e r q)
  | _, _, .lst h f c r, q => .lst h (fun z => f ⟨z, fun y => by rw [y, e] at h; cases h⟩) c (Rps.free e r q)
  | _, _, .cell h, _ => .cell h
  | _, _, .err _ _ _ _ _ _, q => nomatch q
  | _, _, .ob e0 h f c k r, q => .ob e0 h (fun z => f ⟨z, fun y => by rw [y, e] at h; cases h⟩) c k (Rps.free e r q)
theorem Rps.free (e : H dd = some (.xd fs)) : ∀ {vs : List V} {ds : List D}, Rps K (R.hold a cn dd) n φ H vs ds → D.nes ds = true → Rps K R n φ H vs ds
  | _, _, .nil, _ => .nil
  | _, _, .cons h r, q => by
    rw [nes_cons, Bool.and_eq_true] at q
    exact .cons (Rp.free e h q.1) (Rps.free e r q.2)
end
theorem Good.hold {S : Store} (er : R.er = none) (g : Good K R φ H S) : Good K (R.hold a cn dd) φ H S := by
  refine ⟨fun i c e => ?_, g.inj, fun b hb => g.off b hb.1, fun i hi z => g.cof i hi z.1, g.tab⟩
  have q := g.at_ i c e
  cases c with
  | lst ds =>
    obtain ⟨xs, e1, r⟩ := q
    exact ⟨xs, e1, r.hold er⟩
  | dct kvs =>
    obtain ⟨ps, e1, ek, r⟩ := q
    exact ⟨ps, e1, ek, r.hold er⟩
  | dn kvs =>
    obtain ⟨ps, vs, e1, ek, ev, r, nk⟩ := q
    exact ⟨ps, vs, e1, ek, ev, r.hold er, nk⟩
/-- g: the store before, that bore no exception -/
theorem Good.free {S : Store} {φ0 : Nat → Addr} {H0 : Hp} (er : R.er = none) (g : Good K R φ0 H0 S) (e : H dd = some (.xd fs)) (g1 : Good K (R.hold a cn dd) φ H S) : Good K R φ H S := by
  refine ⟨fun i c ec => ?_, g1.inj, fun b hb => ?_, fun i hi z => ?_, g1.tab⟩
  · have q0 := g.at_ i c ec
    have q := g1.at_ i c ec
    cases c with
    | lst ds =>
      obtain ⟨_, _, r0⟩ := q0
      obtain ⟨xs, e1, r⟩ := q
      exact ⟨xs, e1, r.free e (r0.nes er)⟩
    | dct kvs =>
      obtain ⟨_, _, _, r0⟩ := q0
      obtain ⟨ps, e1, ek, r⟩ := q
      exact ⟨ps, e1, ek, r.free e (r0.nes er)⟩
    | dn kvs =>
      obtain ⟨_, _, _, _, _, r0, _⟩ := q0
      obtain ⟨ps, vs, e1, ek, ev, r, nk⟩ := q
      exact ⟨ps, vs, e1, ek, ev, r.free e (r0.nes er), nk⟩
  · by_cases h : b = dd
    · exact ⟨_, by rw [h]; exact e⟩
    · exact g1.off b ⟨hb, h⟩
  · refine g1.cof i hi ⟨z, fun y => ?_⟩
    have q := g1.at_ i _ (List.getElem?_eq_getElem hi)
    rw [y] at q
    cases h : S[i] with
    | lst ds =>
      rw [h] at q
      obtain ⟨_, e1, _⟩ := q
      rw [e] at e1
      cases e1
    | dct kvs =>
      rw [h] at q
      obtain ⟨_, e1, _⟩ := q
      rw [e] at e1
      cases e1
    | dn kvs =>
      rw [h] at q
      obtain ⟨_, _, e1, _⟩ := q
      rw [e] at e1
      exact nest_xd _ (Option.some.inj e1).symm
end
def spE (K : PySem.W.Frag) (cls : CL) (F : Fn) : Addr × Obj → Sp := fun p vs H Q E => ∃ R φ S cn ks ds dd C z, vs = [V.ref p.1] ∧ R.T = cls.T ∧ R.er = some (p.1, cn, dd) ∧ cls cn = some C ∧ XfK K C ∧ Zc (.ref C) (some dd) p.2 ∧ (∃ us, p.2.data = .fields us) ∧
  Good K R φ H S ∧ Rp K R S.length φ H (.ref p.1) (.err cn ks ds) ∧ F [.err cn ks ds] S = some z ∧ Post ⟨K, R, cls, E⟩ (RV ⟨K, R, cls, E⟩) φ S H Q z
mutual
def D.eqb : D → D → Bool
  | .non, .non => true
  | .bl a, .bl b => a == b
  | .int a, .int b => a == b
  | .str a, .str b => decide (a = b)
  | .tup a, .tup b => D.eqbs a b
  | .lst a, .lst b => D.eqbs a b
  | .frz a, .frz b => D.eqbs a b
  | .cell a, .cell b => a == b
  | .err a b d, .err a' b' d' => decide (a = a') && decide (b = b') && D.eqbs d d'
  | .ob a b d, .ob a' b' d' => decide (a = a') && decide (b = b') && D.eqbs d d'
  | _, _ => false
def D.eqbs : List D → List D → Bool
  | [], [] => true
  | a :: as, b :: bs => D.eqb a b && D.eqbs as bs
  | _, _ => false
end
mutual
theorem eqb_eq : ∀ {a b : D}, D.eqb a b = true → a = b
  | .non, b, h => by cases b <;> first | rfl | cases h
  | .bl x, b, h => by cases b <;> first | cases h | exact congrArg D.bl (eq_of_beq h)
  | .int x, b, h => by cases b <;> first | cases h | exact congrArg D.int (eq_of_beq h)
  | .str x, b, h => by cases b <;> first | cases h | exact congrArg D.str (of_decide_eq_true h)
  | .tup x, b, h => by cases b <;> first | cases h | exact congrArg D.tup (eqbs_eq h)
  | .lst x, b, h => by cases b <;> first | cases h | exact congrArg D.lst (eqbs_eq h)
  | .frz x, b, h => by cases b <;> first | cases h | exact congrArg D.frz (eqbs_eq h)
  | .cell x, b, h => by cases b <;> first | cases h | exact congrArg D.cell (eq_of_beq h)
  | .err x y z, b, h => by
    cases b with
    | err x' y' z' =>
      have h : (decide (x = x') && decide (y = y') && D.eqbs z z') = true := h
      simp only [Bool.and_eq_true, decide_eq_true_eq] at h
      rw [h.1.1, h.1.2, eqbs_eq h.2]
    | _ => cases h
  | .ob x y z, b, h => by
    cases b with
    | ob x' y' z' =>
      have h : (decide (x = x') && decide (y = y') && D.eqbs z z') = true := h
      simp only [Bool.and_eq_true, decide_eq_true_eq] at h
      rw [h.1.1, h.1.2, eqbs_eq h.2]
    | _ => cases h
theorem eqbs_eq : ∀ {a b : List D}, D.eqbs a b = true → a = b
  | [], [], _ => rfl
  | [], _ :: _, h => nomatch h
  | _ :: _, [], h => nomatch h
  | a :: as, b :: bs, h => by
    have h : (D.eqb a b && D.eqbs as bs) = true := h
    rw [Bool.and_eq_true] at h
    rw [eqb_eq h.1, eqbs_eq h.2]
end
mutual
theorem eqb_self : ∀ (a : D), D.eqb a a = true
  | .non => rfl
  | .bl x => beq_self_eq_true x
  | .int x => beq_self_eq_true x
  | .str x => decide_eq_true rfl
  | .tup x => eqbs_self x
  | .lst x => eqbs_self x
  | .frz x => eqbs_self x
  | .cell x => beq_self_eq_true x
  | .err x y z => by
    show (decide (x = x) && decide (y = y) && D.eqbs z z) = true
    rw [eqbs_self z, decide_eq_true rfl, decide_eq_true rfl]
    rfl
  | .ob x y z => by
    show (decide (x = x) && decide (y = y) && D.eqbs z z) = true
    rw [eqbs_self z, decide_eq_true rfl, decide_eq_true rfl]
    rfl
theorem eqbs_self : ∀ (a : List D), D.eqbs a a = true
  | [] => rfl
  | a :: as => by
    show (D.eqb a a && D.eqbs as as) = true
    rw [eqb_self a, eqbs_self as]
    rfl
end
/-- the classes below the suite's have what its def asks -/
structure XfOk (K : PySem.W.Frag) (cls : CL) (sub : Subs) (ce : Str) : Prop where
  ok : ∀ x, sub x ce = some true → ∀ C, cls x = some C → XfK K C
/-- the def that gets a lambda and says what its call gave -/
structure SaidC (P : Program) (w : World) (K : PySem.W.Frag) (mg : Str → Option Value) (base : Heap) (cls : CL) (k : Nat) (x ce w2 : Str) (G : Fn) : Prop where
  ex : ∃ (g CE : Addr) (fdg : FuncData) (pg : Arguments) (bg : List Stmt) (sg : Scope) (Ng : List Str) (ask w0 w1 : Str), FunD K x x pg bg sg [] [] g fdg ∧ mg x = some (.ref g) ∧ mg ce = some (.ref CE) ∧ FnScope Ng [ask] sg ∧ Binds K fdg [ask] [] ∧ Ng[0]? = some ask ∧ Vis sg ask ∧
    (ask == ("__debug__" : Str)) = false ∧ (ask == ("__classdict__" : Str)) = false ∧
    ∀ (X : Cx) (cdg : Value) (q : Str), X.prog = P → X.w = w → X.K = K → X.mg = mg → X.base = base → Room k X.A → GivesTo X Ng x sg g cdg bg ask q (TTs K CE w0 w1 w2 (spE K cls G))
end Pv

namespace Pv
open PySem PySem.Spec PyProof.Rows L2 PySem.Calls
def clsDef (s : Stmt) (j : Nat) : Stmt := match s with
  | .ClassDef _ _ _ b _ _ _ _ _ _ _ => b.getD j (.Pass ⟨0, 0, 0, 0⟩)
  | _ => .Pass ⟨0, 0, 0, 0⟩
def oexB (K : PySem.W.Frag) (C : Addr) : Bool := (match K.lookup C with
  | some ⟨.type "type", _, .cls cd, sl⟩ => (match cd.mro, sl.toList with
    | .ref C' :: bm, [_, _, _, _, some (.builtin n), _] => C' == C && n == "ValueError.__new__" && !cd.hasDel && cd.hasDict && PySem.HandSPX.refsVE bm
    | _, _ => false)
  | _ => false) && decide (PySem.W.findIn K (.ref C) "__setattr__" = some (some (.builtin "object.__setattr__"))) && decide (PySem.W.subIn K (.ref C) (.type "BaseException") = some true) && decide (PySem.W.typeIn K (.ref C) = some (.type "type")) && PySem.W.keepIn K (.ref C)
/-- an own class, its fields -/
def xcB (K : PySem.W.Frag) (x : Str) (fl : List Str) : Bool := oexB K (He.ga K x) && decide (PySem.W.findIn K (.ref (He.ga K x)) "__init__" = some (some (.ref (He.ma K (He.ga K x) "__init__")))) && decide (PySem.W.typeIn K (.ref (He.ma K (He.ga K x) "__init__")) = some (.type "function")) && fl.all fun f => decide (PySem.W.findIn K (.ref (He.ga K x)) f = some none)
abbrev SubL := List (Str × Str × Bool)
def subOf (l : SubL) : Subs := fun x y => (l.find? fun t => decide (t.1 = x ∧ t.2.1 = y)).map (·.2.2)
/-- the head's test: l: below; fl: fields -/
def xcsT (l : SubL) (fl : List (Str × List Str)) (tfq : List (He.Defn × Str)) (K : PySem.W.Frag) : Bool :=
  (l.all fun t => if t.2.1 = "ValueError" then decide (PySem.W.kitOne K (.ref (He.ga K t.1)) (.type "ValueError") = some t.2.2) else decide (PySem.W.exmOne K (.ref (He.ga K t.1)) (.ref (He.ga K t.2.1)) = some t.2.2) && decide (PySem.W.kitOne K (.ref (He.ga K t.1)) (.ref (He.ga K t.2.1)) = some t.2.2)) &&
  (l.all fun t => xfB' K (He.ga K t.1)) && (fl.all fun t => xcB K t.1 t.2) && decide ((tfq.map fun z => (He.cT K z.1).2).Nodup)
section
variable {l : SubL} {fl : List (Str × List Str)} {tfq : List (He.Defn × Str)} {K : PySem.W.Frag} {mg : Str → Option Value}
structure XcsOk (l : SubL) (fl : List (Str × List Str)) (tfq : List (He.Defn × Str)) (K : PySem.W.Frag) : Prop where
  below : ∀ t ∈ l, t.2.1 ≠ "ValueError" → PySem.W.exmOne K (.ref (He.ga K t.1)) (.ref (He.ga K t.2.1)) = some t.2.2 ∧ PySem.W.kitOne K (.ref (He.ga K t.1)) (.ref (He.ga K t.2.1)) = some t.2.2
  belowV : ∀ t ∈ l, t.2.1 = "ValueError" → PySem.W.kitOne K (.ref (He.ga K t.1)) (.type "ValueError") = some t.2.2
  kf : ∀ t ∈ l, XfK K (He.ga K t.1)
  fld : ∀ t ∈ fl, xcB K t.1 t.2 = true
  nodup : (tfq.map fun z => (He.cT K z.1).2).Nodup
end
/-- what the bodies ask about own classes of exceptions -/
structure Mxs (K : PySem.W.Frag) (mg : Str → Option Value) (cls : CL) (sub : Subs) (fl : Str → Option (List Str)) : Prop where
  sb : SubOk K mg cls sub
  kit : KitOk K mg cls sub
  fld : FldOk K cls fl
  xf : ∀ ce, XfOk K cls sub ce
/-- what the body of a def that makes a lambda asks about its table -/
structure LamH (K : PySem.W.Frag) (mg : Str → Option Value) (base : Heap) (cls : CL) (n q : Str) : Prop where
  tb : LamX.TabB base mg (He.codeOf K (n, none)) (He.cT K (n, none)).2
  mem : ((He.cT K (n, none)).2, q) ∈ cls.T
  one : ∀ z ∈ cls.T, z.1 = (He.cT K (n, none)).2 → z.2 = q
end Pv



namespace Pv
open PySem PySem.Spec PyProof.Rows L2 PySem.Calls
section
variable {X : Cx} {c : Ct} {k : Nat} {fe : Env → Store → Out D}
def tupB : PyData → Bool
  | .tuple (_ :: _) => true
  | _ => false
/-- items with what they read as -/
inductive Dps (K : PySem.W.Frag) (H : Hp) : List V → List PyData → Prop
  | nil : Dps K H [] []
  | cons {v : V} {vs : List V} {p : PyData} {ps : List PyData} : Dp K H v p → Dps K H vs ps → Dps K H (v :: vs) (p :: ps)
theorem Dps.length {K : PySem.W.Frag} {H : Hp} {vs : List V} {ps : List PyData} (h : Dps K H vs ps) : vs.length = ps.length := by
  induction h with
  | nil => rfl
  | cons _ _ ih => simp [ih]
end
end Pv

namespace Pv
open PySem PySem.Spec PyProof.Rows L2 PySem.Calls
abbrev Ft : Type := List (Str × List Str)
/-- at x lies such a dict -/
structure FormT (K : PySem.W.Frag) (w : World) (mg : Str → Option Value) (x : Str) (tbl : Ft) : Prop where
  ex : ∃ d es n, mg x = some (.ref d) ∧ KDict K w d es n ∧ ∀ z, (tbl.lookup z = none → PySem.W.nsIn K d z = some none) ∧ ∀ ss, tbl.lookup z = some ss → ∃ t, PySem.W.nsIn K d z = some (some (.ref t)) ∧ ∀ H, SqT K H t (ss.map V.str)
def tupAt (K : PySem.W.Frag) (t : Addr) (ss : List Str) : Bool := match K.lookup t with
  | some ⟨.type c, _, .seq its _, _⟩ => decide (c = "tuple") && (decide (its.size ≤ sizeLine) && He.relAll ((ss.map He.Dv.str).map (He.Dv.v K)) its.toList)
  | _ => false
def valF (K : PySem.W.Frag) (d : Addr) (tbl : Ft) : Bool := tbl.all fun q => match PySem.W.nsIn K d q.1 with
  | some (some (.ref t)) => tupAt K t q.2
  | _ => false
def fmB (fm : List (Str × Ft)) (K : PySem.W.Frag) : Bool := fm.all fun p => valF K (He.ga K p.1) p.2 && He.eqO (PySem.W.nsIn K mainGlobals p.1) (some (some (.ref (He.ga K p.1))))
def fmT (fm : List (Str × Ft)) : List He.Tab := fm.map fun p => (fun K => He.ga K p.1, p.2.map (·.1))
end Pv


namespace Pv
open PySem PySem.Spec PyProof.Rows L2 PySem.Calls
/-- what such a def makes of a lambda's call -/
def TTh (K : PySem.W.Frag) (CE : Addr) (w2 : Str) (sp : Addr × Obj → Sp) : (XK → Hp → VK → Prop) → Hp → VK → Prop := fun tl H Q =>
  tl (fun cl o H' => PySem.W.exmOne K cl (.ref CE) = some true ∧ ∀ a oe, H' a = none → Zc cl o oe → (∃ vs, oe.data = .fields vs) → sp (a, oe) [V.ref a] H' Q fun _ _ _ => False) H
    fun v H' => ∀ p, H' p = none → Q (.ref p) (upd H' p (.tup [.str w2, v]))
open LamX
/-- the def that gets a lambda and says what its call gave -/
structure SaidH (P : Program) (w : World) (K : PySem.W.Frag) (mg : Str → Option Value) (base : Heap) (cls : CL) (k : Nat) (x ce w2 : Str) (G : Fn) : Prop where
  ex : ∃ (g CE : Addr) (fdg : FuncData) (pg : Arguments) (bg : List Stmt) (sg : Scope) (Ng : List Str) (ask : Str), FunD K x x pg bg sg [] [] g fdg ∧ mg x = some (.ref g) ∧ mg ce = some (.ref CE) ∧ FnScope Ng [ask] sg ∧ Binds K fdg [ask] [] ∧ Ng[0]? = some ask ∧ Vis sg ask ∧
    (ask == ("__debug__" : Str)) = false ∧ (ask == ("__classdict__" : Str)) = false ∧
    ∀ (X : Cx) (cdg : Value) (q : Str), X.prog = P → X.w = w → X.K = K → X.mg = mg → X.base = base → Room k X.A → GivesTo X Ng x sg g cdg bg ask q (TTh K CE w2 (spE K cls G))
end Pv






namespace Pv.HS
open PySem PySem.Spec PyProof.Rows PySem.Calls
open L2 (wp_if_pos wp_if_neg MaskOk way nth runAt nth_add go_spec slot_live relaid_ok mask_odd sameMem searchRest setSearchFrom_succ setAddHashedIn_succ setRelay_eq put_perm take_next nodup_of_map size_20 size_76 store_at)
section
variable {P : Program} {w : World} {A : Around} {E : Value → Shared → Prop} {s : Shared} {K : Type} [DecidableEq K] {knd : HeapKind P w K}
/-- what a set asks of its keys besides hash and == -/
structure Tame (knd : HeapKind P w K) : Prop where
  own : ∀ {A : Around} {E : Value → Shared → Prop} {s : Shared} {k : K} {a : Addr} {Q : Bool → Shared → Prop}, knd.is s.heap k a → Q false s → wpAny (model P w) A (ofAClassStatement 8 (.ref a)) Q E s
  byv : ∀ {A : Around} {E : Value → Shared → Prop} {s : Shared} {k : K} {a : Addr} {Q : Bool → Shared → Prop}, knd.is s.heap k a → (∀ b, Q b s) → wpAny (model P w) A (hashByValue 8 (.ref a)) Q E s
  stays : ∀ {h h' : Heap} {k : K} {a : Addr}, (∀ b o vs n, h.get? b = some o → o.data = .seq vs n → h'.get? b = some o) → knd.is h k a → knd.is h' k a
def en (knd : HeapKind P w K) (p : Addr × K) : Int × Value := (knd.hash p.2, Value.ref p.1)
/-- at a stands a set of the members L, in the order of its rows -/
structure At (knd : HeapKind P w K) (h : Heap) (a : Addr) (L : List (Addr × K)) (es : Array (Int × Value)) (ep : Nat) (t : SetTable) : Prop where
  obj : ∃ o, h.get? a = some o ∧ o.ExactSet ∧ o.data = .set es ep t
  row : es.toList = L.map (en knd)
  tab : L2.TabOk t (L.map fun p => knd.hash p.2)
  one : (L.map (·.2)).Nodup
  key : ∀ p ∈ L, knd.is h p.2 p.1
  led : w.params.followText "set-order" = true ∨ t.led = true
  room : L.length * 5 < t.mask * 3
  few : L.length < 64
variable {a : Addr} {L : List (Addr × K)} {es : Array (Int × Value)} {ep : Nat} {t : SetTable}
theorem rows_size (r : es.toList = L.map (en knd)) : es.size = L.length := by
  have := congrArg List.length r
  simpa using this
theorem fits_of {n m : Nat} (T : t.place.size = n) (d : t.dummies = #[]) (h : n ≤ t.mask) (e : m = n) : t.fits m = true := by
  subst e
  unfold SetTable.fits SetTable.fill
  rw [d, T]
  simpa using h
theorem At.tsz (R : At knd s.heap a L es ep t) : t.place.size = L.length := by
  have := R.tab.sz
  rwa [List.length_map] at this
theorem At.fits (R : At knd s.heap a L es ep t) : t.fits es.size = true := fits_of R.tsz R.tab.dm (by have := R.room; omega) (rows_size R.row)
/-- what the set holds of the first i items -/
structure Has {α : Type} (ks : List (α × K)) (i : Nat) (L : List (α × K)) : Prop where
  sub : ∀ p ∈ L, p ∈ ks.take i
  all : ∀ p ∈ ks.take i, p.2 ∈ L.map (·.2)
  len : L.length ≤ i
abbrev newSet (w : World) : Obj := { cls := .type "set", dict := none, data := .set #[] 0 (.fresh 0 0 (!w.params.followText "set-order")) }
end
section
open L2
variable {P : Program} {w : World} {A : Around} {E : Value → Shared → Prop} {s : Shared} {K : Type} [DecidableEq K] {knd : HeapKind P w K}
/-- a set under way: Z h a i says that at a stands what the first i of the items us make -/
structure Way (P : Program) (w : World) (B : Nat) (h0 : Heap) (us : List Value) (Z : Heap → Addr → Nat → Prop) : Prop where
  fresh : ∀ {h : Heap} {a : Addr}, h.get? a = some (newSet w) → Z h a 0
  kept : ∀ {h h' : Heap} {a : Addr} {i : Nat}, Z h a i → (∀ o, h.get? a = some o → h'.get? a = some o) → (∀ b o, h0.get? b = some o → h'.get? b = some o) → Z h' a i
  step : ∀ {A : Around} {E : Value → Shared → Prop} {s : Shared} {a : Addr} {i : Nat} {u : Value} {Q : Bool → Shared → Prop}, A.units ≤ B → us[i]? = some u → i < 64 → h0.get? a = none → (∀ b o, h0.get? b = some o → s.heap.get? b = some o) → Z s.heap a i →
    (∀ b h' tk, s.toks ≤ tk → Heap.SameBut a s.heap h' → Z h' a (i + 1) → Q b { s with heap := h', toks := tk }) → wpAny (model P w) A (setAdd a u) Q E s
end
end Pv.HS

namespace Pv.HS
open PySem PySem.Spec PyProof.Rows PySem.Calls
section
open L2
variable {P : Program} {w : World} {A : Around} {E : Value → Shared → Prop} {s : Shared} {K : Type} [DecidableEq K] {knd : HeapKind P w K} {a : Addr} {L : List (Addr × K)} {es : Array (Int × Value)} {ep : Nat} {t : SetTable}
end
end Pv.HS

namespace Pv
open PySem PySem.Spec PyProof.Rows L2 PySem.Calls
namespace HS
mutual
theorem is_reads {h : Heap} : ∀ (k : NestedKey) (u : Value) (as : List Addr), Reads h u k.data as → NestedIs h k u ∧ as = []
  | .none, _, _, r => by simp only [NestedKey.data] at r; cases r; exact ⟨.none, rfl⟩
  | .num i, _, _, r => by simp only [NestedKey.data] at r; cases r; exact ⟨.int i _, rfl⟩
  | .text x, _, _, r => by simp only [NestedKey.data] at r; cases r; exact ⟨.text x _, rfl⟩
  | .tup ks, _, _, r => by
    simp only [NestedKey.data] at r
    cases r with
    | tuple h1 h2 h3 h4 =>
      obtain ⟨g1, g2⟩ := all_reads ks _ _ h4
      exact ⟨.tup h1 h2 h3 g1, g2⟩
theorem all_reads {h : Heap} : ∀ (ks : List NestedKey) (us : List Value) (as : List Addr), ReadsAll h us (NestedKey.datas ks) as → NestedAll h ks us ∧ as = []
  | [], _, _, r => by simp only [NestedKey.datas] at r; cases r; exact ⟨.nil, rfl⟩
  | k :: ks, _, _, r => by
    simp only [NestedKey.datas] at r
    cases r with
    | cons h1 h2 =>
      obtain ⟨g1, e1⟩ := is_reads k _ _ h1
      obtain ⟨g2, e2⟩ := all_reads ks _ _ h2
      exact ⟨.cons g1 g2, by rw [e1, e2]; rfl⟩
end
end HS
end Pv


namespace Pv.HS
open PySem PySem.Spec PyProof.Rows PySem.Calls
open L2 (wp_if_pos wp_if_neg Ris store_at layNew_ris layNew_led relayAll_ris relayAll_led mixKind Key)
section
variable {P : Program} {w : World} {A : Around} {E : Value → Shared → Prop} {s : Shared}
abbrev sm (P : Program) (w : World) : KeyKind P w Key := mixKind P w
def ent (P : Program) (w : World) (p : Value × Key) : Int × Value := ((sm P w).hash p.2, p.1)
/-- at a stands a set of plain values -/
structure AtP (P : Program) (w : World) (h : Heap) (a : Addr) (L : List (Value × Key)) (es : Array (Int × Value)) (ep : Nat) (t : SetTable) : Prop where
  obj : ∃ o, h.get? a = some o ∧ o.ExactSet ∧ o.data = .set es ep t
  row : es.toList = L.map (ent P w)
  one : (L.map (·.2)).Nodup
  key : ∀ p ∈ L, (sm P w).is p.2 p.1 = true ∧ p.1.scannable = true
  fit : t.fits es.size = true
  ris : Ris t.place.toList
  led : w.params.followText "set-order" = true ∨ t.led = true
  few : L.length < 64
variable {a : Addr} {L : List (Value × Key)} {es : Array (Int × Value)} {ep : Nat} {t : SetTable}
end
end Pv.HS




namespace Pv
open PySem PySem.Spec PyProof.Rows L2 PySem.Calls
/-- a def called with n values and those named ks, the rest (at the end) being dd -/
structure FnM (P : Program) (w : World) (K : PySem.W.Frag) (mg : Str → Option Value) (base : Heap) (cls : CL) (k : Nat) (x : Str) (m : Nat) (F : Fn) (n : Nat) (ks : List Str) (dd : List D) : Prop where
  ex : ∃ (f : Addr) (fd : FuncData) (ps : List Str) (g : List Value → List Value → List Value) (dvs : List V), FnG P w K mg base (L2.CX P w) k f fd ps (spM K cls m F) ∧ mg x = some (.ref f) ∧ PySem.W.keepIn K (.ref f) = true ∧
    KBn K fd ps n ks g (fun vs zs => vs ++ zs ++ dvs) ∧ Pure' K dvs dd
end Pv

namespace Pv
open PySem PySem.Spec PyProof.Rows L2 PySem.Calls
/-- __init__ of three things: F lets them through, the three attributes are set -/
def spIni (K : PySem.W.Frag) (cls : CL) (C : Addr) (n1 n2 n3 : Str) (F : Fn) : Sp := fun vs H Q E => ∃ (x dx : Addr) (va vb vc : V) (R : RT) (φ : Nat → Addr) (S : Store) (a b c : D) (z : Rs D × Store), vs = [.ref x, va, vb, vc] ∧ H x = some (.ins C dx []) ∧ (∀ i, i < S.length → x ≠ φ i) ∧
  RtOk R cls.T ∧ Good K R φ H S ∧ Rps K R S.length φ H [va, vb, vc] [a, b, c] ∧ F [.tup [a, b, c]] S = some z ∧
  Post ⟨K, R, cls, E⟩ (RV ⟨K, R, cls, E⟩) φ S H (fun _ H' => Q .non (upd H' x (.ins C dx (putF n3 vc (putF n2 vb (putF n1 va [])))))) z
/-- the getter of the three attributes as a tuple -/
def spGet (C : Addr) (n1 n2 n3 : Str) : Sp := fun vs H Q _ => ∃ (x dx : Addr) (fs : List (Str × V)) (va vb vc : V), vs = [.ref x] ∧ H x = some (.ins C dx fs) ∧ fs.lookup n1 = some va ∧ fs.lookup n2 = some vb ∧ fs.lookup n3 = some vc ∧
  ∀ T, H T = none → Q (.ref T) (upd H T (.tup [va, vb, vc]))
section
variable {P : Program} {w : World} {K : PySem.W.Frag} {mg : Str → Option Value} {base : Heap} {cls : CL} {k : Nat} {f C : Addr} {fd : FuncData} {x qual n1 n2 n3 : Str} {params : Arguments} {body : List Stmt} {scope : Scope} {dvs : List V} {kws : List (Str × V)} {F : Fn}
theorem FnG.ok {CX : CXT} {ps : List Str} {sp : Sp} (h : FnG P w K mg base CX k f fd ps sp) (hk : k < 150) : FnOk P w K mg base CX k f fd ps sp :=
  { len := h.len, run := fun A outer s H args us vs Q E hr e0 b r q => h.run A outer s H args us vs Q E hr (fun q => absurd q (Nat.not_le.mpr hk)) e0 b r q }
end
/-- the class x: made of three things that F lets through; fm reads them again -/
structure FormC (P : Program) (w : World) (K : PySem.W.Frag) (mg : Str → Option Value) (base : Heap) (cls : CL) (k : Nat) (x fm : Str) (F : Fn) : Prop where
  ex : ∃ (C fI fG p : Addr) (fdI fdG : FuncData) (psI psG : List Str) (n1 n2 n3 : Str), Mk K C fI ∧ mg x = some (.ref C) ∧ Cls K C ∧ PropOf K C fm p fG ∧ FnOk P w K mg base (L2.CX P w) k fI fdI psI (spIni K cls C n1 n2 n3 F) ∧ Binds K fdI psI [] ∧
    FnOk P w K mg base (L2.CX P w) k fG fdG psG (spGet C n1 n2 n3) ∧ Binds K fdG psG [] ∧ n1 ≠ n2 ∧ n1 ≠ n3 ∧ n2 ≠ n3
/-- what is refused -/
def exOnly (o : Out D) : Out D := match o with
  | some (.ex x, S) => some (.ex x, S)
  | _ => none
def parK (F : Fn) (d : D) (S1 : Store) : Out D := match d with
  | .tup [a, b, c] => exOnly (F [.tup [a, b, c]] S1)
  | _ => none
def parB (F G : Fn) (t : D) (S : Store) : Out D := bnd (G [t] S) (parK F)
def spPar (K : PySem.W.Frag) (cls : CL) (C : Addr) (F G : Fn) : Sp := fun vs H Q E => ∃ (vt : V) (R : RT) (φ : Nat → Addr) (S : Store) (t : D) (z : Rs D × Store), vs = [.ref C, vt] ∧ RtOk R cls.T ∧ Good K R φ H S ∧ Rp K R S.length φ H vt t ∧ parB F G t S = some z ∧
  Post ⟨K, R, cls, E⟩ (RV ⟨K, R, cls, E⟩) φ S H Q z
/-- x.m(t): a classmethod -/
structure ParC (P : Program) (w : World) (K : PySem.W.Frag) (mg : Str → Option Value) (base : Heap) (cls : CL) (k : Nat) (x m : Str) (F G : Fn) : Prop where
  ex : ∃ (C p g : Addr) (mc : Value) (fd : FuncData) (ps : List Str), mg x = some (.ref C) ∧ ClX.CRead K C mc ∧ ClX.CMet K C mc m p g ∧ FnOk P w K mg base (L2.CX P w) k g fd ps (spPar K cls C F G) ∧ Binds K fd ps []
end Pv

namespace Pv
open PySem PySem.Spec PyProof.Rows L2 He
/-- a def, and how its address is found -/
structure FarD where
  adr : PySem.W.Frag → Addr
  d : DefD
def farW (K : PySem.W.Frag) (a : Addr) : FnW := match K.lookup a with
  | some ⟨_, _, .func fd, _⟩ => some (fd.name, fd.qualname, fd.params, fd.body, fd.scope, fd.globals, fd.closure, fd.builtins)
  | _ => none
def FarD.ok (K : PySem.W.Frag) (x : FarD) : Bool := PySem.W.keepIn K (.ref (x.adr K)) && (match K.lookup (x.adr K) with
  | some ⟨_, _, .func fd, _⟩ => PySem.W.codeIn K fd.code x.d.qual && (dflB K fd.defaults (x.d.dvs K) && kwdB K fd.kwdefaults (x.d.kws K))
  | _ => false)
theorem FarD.funD {K : PySem.W.Frag} {x : FarD} (e : farW K (x.adr K) = x.d.val) (c : x.ok K = true) : ∃ fd, FunD K x.d.name x.d.qual x.d.params x.d.body x.d.scope (x.d.dvs K) (x.d.kws K) (x.adr K) fd := by
  obtain ⟨kp, c⟩ := ba c
  unfold farW at e
  split at e
  · rename_i oc od fd osl hl
    rw [hl] at c
    obtain ⟨k1, k2⟩ := ba (show (PySem.W.codeIn K fd.code x.d.qual && (dflB K fd.defaults (x.d.dvs K) && kwdB K fd.kwdefaults (x.d.kws K))) = true from c)
    obtain ⟨k3, k4⟩ := ba k2
    cases fd
    simp only [DefD.val, Option.some.injEq, Prod.mk.injEq] at e
    obtain ⟨h1, h2, h3, h4, h5, h6, h7, h8⟩ := e
    subst h1 h2 h3 h4 h5 h6 h7 h8
    exact ⟨_, ⟨oc, od, _, _, _, _, _, _, _, osl, rfl, hl, k1, dflB_ok k3, kwdB_ok k4⟩, kp⟩
  · cases e
/-- the def that a record of the class holds first (a property's getter, a classmethod's def) -/
def recA (K : PySem.W.Frag) (x m : Str) (T : String) : Addr := match PySem.W.recIn K (ma K (ga K x) m) T with
  | some (.ref g :: _) => g
  | _ => 0
section
variable {fa : List Fa} {fn : List DefD} {ts : List Tab} {tf : List Defn} {ex : PySem.W.Frag → Bool} {w : World} {h : Heap} {as : List Addr}
theorem says_as (e : ((obsT fa fn ts (frT h.get? as), ex (frT h.get? as) && tabsB h.get? tf (frT h.get? as)) : AlX) = valX fn ts w) : SaysX fa fn ts tf ex w h (frT h.get? as) := by
  obtain ⟨h1, h2⟩ := ba (congrArg (fun z : AlX => z.2) e)
  have key : ∀ p ∈ tf, PySem.W.codeHdIn (frT h.get? as) (cT (frT h.get? as) p).1 (cT (frT h.get? as) p).2 = true ∧ ∃ o, h.get? (cT (frT h.get? as) p).2 = some o ∧ emptyTab o = true := fun p hp => by
    obtain ⟨h3, h4⟩ := ba (List.all_eq_true.mp h2 p hp)
    refine ⟨h3, ?_⟩
    split at h4
    · rename_i o q
      exact ⟨o, q, h4⟩
    · cases h4
  refine ⟨congrArg (fun z : AlX => z.1) e, h1, fun p hp => (key p hp).1, fun p hp => ?_, fun p hp => ?_⟩
  · obtain ⟨_, o, q, z⟩ := key p hp
    exact frT_none q z
  · obtain ⟨_, o, q, z⟩ := key p hp
    rw [q, emptyTab_eq z]
end
abbrev AlY : Type := AlX × (Bool × List FnW)
def valY (fn : List DefD) (ts : List Tab) (fm : List FarD) (w : World) : AlY := (valX fn ts w, (true, fm.map fun x => x.d.val))
def eqVh (a : Option (List Value)) (g : Addr) : Bool := match a with
  | some (.ref h :: _) => decide (h = g)
  | _ => false
def propB (K : PySem.W.Frag) (x m : Str) : Bool := eqO (PySem.W.findIn K (.ref (ga K x)) m) (some (some (.ref (ma K (ga K x) m)))) && (eqO (PySem.W.specialIn K (.ref (ma K (ga K x) m)) "__get__") (some (some (.builtin "property.__get__"))) &&
  (decide (PySem.W.takesIn K (.ref (ma K (ga K x) m)) = some true) && eqVh (PySem.W.recIn K (ma K (ga K x) m) "property") (recA K x m "property")))
end Pv


namespace Pv
open PySem PySem.Spec PyProof.Rows L2 He
def obsZ (as : List Addr) (fa : List Fa) (fn : List DefD) (ts : List Tab) (tf : List Defn) (ex : PySem.W.Frag → Bool) (fm : List FarD) (g : Addr → Option Obj) : AlY :=
  (fun K : PySem.W.Frag => (((obsT fa fn ts K, ex K && tabsB g tf K), (fm.all fun x => x.ok K, fm.map fun x => farW K (x.adr K))) : AlY)) (frT g as)
def hookZ (as : List Addr) (fa : List Fa) (fn : List DefD) (ts : List Tab) (tf : List Defn) (ex : PySem.W.Frag → Bool) (fm : List FarD) : PySem.W.Hook where
  α := AlY
  obs := fun s => obsZ as fa fn ts tf ex fm s.heap.get?
  val := fun w => valY fn ts fm w
  says := fun w h => ∃ K : PySem.W.Frag, K.In h ∧ SaysX fa fn ts tf ex w h K ∧ ∀ (i : Nat) (x : FarD), fm[i]? = some x → ∃ fd, FunD K x.d.name x.d.qual x.d.params x.d.body x.d.scope (x.d.dvs K) (x.d.kws K) (x.adr K) fd
  of := fun w s e => ⟨_, frT_in, says_as (congrArg (fun z : AlY => z.1) e), fun i x hx => by
    have e1 := congrArg (fun z : AlY => z.2.1) e
    have e2 := congrArg (fun z : AlY => z.2.2[i]?) e
    have e3 : (fm.map fun x => farW (frT s.heap.get? as) (x.adr (frT s.heap.get? as)))[i]? = (fm.map fun x => x.d.val)[i]? := e2
    rw [List.getElem?_map, List.getElem?_map, hx] at e3
    exact FarD.funD (Option.some.inj e3) (List.all_eq_true.mp e1 x (List.mem_of_getElem? hx))⟩
  keeps := fun _ _ _ ⟨K, hK, c, d⟩ k => ⟨K, PySem.W.Frag.In.keeps hK k, ⟨c.t, c.more, c.hd, c.out, fun p hp => k _ _ (c.empty p hp)⟩, d⟩
end Pv



namespace Pv
open PySem PySem.Spec PyProof.Rows L2 PySem.Calls
/-- a def called with n values and those named ks, those ahead of them being dd -/
structure FnMb (P : Program) (w : World) (K : PySem.W.Frag) (mg : Str → Option Value) (base : Heap) (cls : CL) (k : Nat) (x : Str) (m : Nat) (F : Fn) (n : Nat) (ks : List Str) (dd : List D) : Prop where
  ex : ∃ (f : Addr) (fd : FuncData) (ps : List Str) (g : List Value → List Value → List Value) (dvs : List V), FnG P w K mg base (L2.CX P w) k f fd ps (spM K cls m F) ∧ mg x = some (.ref f) ∧ PySem.W.keepIn K (.ref f) = true ∧
    KBn K fd ps n ks g (fun vs zs => vs ++ dvs ++ zs) ∧ Pure' K dvs dd
end Pv



namespace Pv
open PySem PySem.Spec PyProof.Rows L2 PySem.Calls
/-- the class at C is the only one of the name x: a test for the head -/
def clsOneB (K : PySem.W.Frag) (x : Str) (C : Addr) : Bool := decide (nameK K C = some x) && K.all fun q => !decide (nameK K q.1 = some x) || decide (q.1 = C)
/-- the class x, made of three things that F lets through -/
structure ObjC (P : Program) (w : World) (K : PySem.W.Frag) (mg : Str → Option Value) (base : Heap) (cls : CL) (k : Nat) (x n1 n2 n3 : Str) (F : Fn) : Prop where
  ex : ∃ (C fI : Addr) (fdI : FuncData) (psI : List Str), Mk K C fI ∧ mg x = some (.ref C) ∧ Cls K C ∧ nameK K C = some x ∧ FnOk P w K mg base (L2.CX P w) k fI fdI psI (spIni K cls C n1 n2 n3 F) ∧ Binds K fdI psI []
  d12 : n1 ≠ n2
  d13 : n1 ≠ n3
  d23 : n2 ≠ n3
/-- the property fm of the class x tells its three attributes as a tuple -/
structure Get3 (P : Program) (w : World) (K : PySem.W.Frag) (mg : Str → Option Value) (base : Heap) (k : Nat) (x fm n1 n2 n3 : Str) : Prop where
  ex : ∃ (C fG p : Addr) (fdG : FuncData) (psG : List Str), Cls K C ∧ (∀ C', nameK K C' = some x → C' = C) ∧ PropOf K C fm p fG ∧ FnOk P w K mg base (L2.CX P w) k fG fdG psG (spGet C n1 n2 n3) ∧ Binds K fdG psG []
  d12 : n1 ≠ n2
  d13 : n1 ≠ n3
  d23 : n2 ≠ n3
/-- the property fm of the class x tells its attribute n -/
structure Get1 (P : Program) (w : World) (K : PySem.W.Frag) (mg : Str → Option Value) (base : Heap) (k : Nat) (x fm n : Str) : Prop where
  ex : ∃ (C fG p : Addr) (fdG : FuncData) (psG : List Str), Cls K C ∧ (∀ C', nameK K C' = some x → C' = C) ∧ PropOf K C fm p fG ∧ FnOk P w K mg base (L2.CX P w) k fG fdG psG (getSp C n) ∧ Binds K fdG psG []
section
variable {X : Cx} {c : Ct} {k k2 : Nat} {x fm n n1 n2 n3 : Str} {pos : Pos} {e : Expr} {f : Env → Store → Out D}
/-- the class x, whose attributes hide nothing of the class -/
structure FldC (K : PySem.W.Frag) (x n : Str) : Prop where
  ex : ∃ C, Cls K C ∧ (∀ C', nameK K C' = some x → C' = C) ∧ NoAttr K C n
/-- the method m of the class x, as a def of the object and more -/
structure MetC (P : Program) (w : World) (K : PySem.W.Frag) (mg : Str → Option Value) (base : Heap) (cls : CL) (k : Nat) (x m : Str) (j : Nat) (F : Fn) (dd : List D) : Prop where
  ex : ∃ (C fM : Addr) (fd : FuncData) (ps : List Str) (dvs : List V) (ds : List Value), Cls K C ∧ (∀ C', nameK K C' = some x → C' = C) ∧ Meth K C m fM ∧ FnG P w K mg base (L2.CX P w) k fM fd ps (spM K cls j F) ∧ Binds K fd ps ds ∧ Vals dvs ds ∧ Pure' K dvs dd
end
/-- all of a class whose objects are told: made for a moment, made to stay, its form read -/
structure FormO (P : Program) (w : World) (K : PySem.W.Frag) (mg : Str → Option Value) (base : Heap) (cls : CL) (k : Nat) (x fm n1 n2 n3 : Str) (F : Fn) : Prop where
  form : FormC P w K mg base cls k x fm F
  obj : ObjC P w K mg base cls k x n1 n2 n3 F
  get : Get3 P w K mg base k x fm n1 n2 n3
end Pv

namespace Pv
open PySem PySem.Spec PyProof.Rows L2 PySem.Calls
def delA (H : Hp) (x : Addr) : Hp := fun a => if a = x then none else H a
/-- x besides -/
def RT.and (R : RT) (x : Addr) : RT := { R with p := fun a => R.p a ∨ a = x }
section
variable {K : PySem.W.Frag} {R : RT} {n : Nat} {φ : Nat → Addr} {H : Hp} {A : Addr} {o : HO} {C dx : Addr} {fs : List (Str × V)}
mutual
theorem Rp.putR (hR : R A) (hA : H A = some (.ins C dx fs)) : ∀ {v : V} {d : D}, Rp K R n φ H v d → Rp K R n φ (upd H A o) v d
  | _, _, .non => .non
  | _, _, .bl b => .bl b
  | _, _, .int i => .int i
  | _, _, .str x => .str x
  | _, _, .tup h r => .tup (sqT_upd (fun xs z => by rw [hA] at z; cases z) (fun ob u z => by rw [hA] at z; cases z) h) (Rps.putR hR hA r)
  | _, _, .klst h r => .klst h (Rps.putR hR hA r)
  | _, _, .frz h r => .frz (by rw [upd_ne (fun z => by subst z; rw [hA] at h; cases h)]; exact h) (Rps.putR hR hA r)
  | _, _, .lst h f c r => .lst (by rw [upd_ne (fun z => by subst z; rw [hA] at h; cases h)]; exact h) f c (Rps.putR hR hA r)
  | _, _, .cell h => .cell h
  | _, _, .err e h f c k r => .err e (by rw [upd_ne (fun z => by subst z; exact f hR)]; exact h) f c k (Rps.putR hR hA r)
  | _, _, .ob e h f c k r => .ob e (by rw [upd_ne (fun z => by subst z; exact f hR)]; exact h) f c k (Rps.putR hR hA r)
theorem Rps.putR (hR : R A) (hA : H A = some (.ins C dx fs)) : ∀ {vs : List V} {ds : List D}, Rps K R n φ H vs ds → Rps K R n φ (upd H A o) vs ds
  | _, _, .nil => .nil
  | _, _, .cons h r => .cons (Rp.putR hR hA h) (Rps.putR hR hA r)
end
mutual
theorem Rp.less (hA : H A = some (.ins C dx [])) : ∀ {v : V} {d : D}, Rp K R n φ H v d → Rp K (R.and A) n φ H v d
  | _, _, .non => .non
  | _, _, .bl b => .bl b
  | _, _, .int i => .int i
  | _, _, .str x => .str x
  | _, _, .tup h r => .tup h (Rps.less hA r)
  | _, _, .klst h r => .klst h (Rps.less hA r)
  | _, _, .frz h r => .frz h (Rps.less hA r)
  | _, _, .lst h f c r => .lst h (fun q => q.elim f fun z => by subst z; rw [hA] at h; cases h) c (Rps.less hA r)
  | _, _, .cell h => .cell h
  | _, _, .err e h f c k r => .err e h (fun q => q.elim f fun z => by subst z; rw [hA] at h; cases h) c k (Rps.less hA r)
  | _, _, .ob e h f c k r => .ob e h (fun q => q.elim f fun z => by subst z; rw [hA] at h; cases h; exact e.2 rfl) c k (Rps.less hA r)
theorem Rps.less (hA : H A = some (.ins C dx [])) : ∀ {vs : List V} {ds : List D}, Rps K R n φ H vs ds → Rps K (R.and A) n φ H vs ds
  | _, _, .nil => .nil
  | _, _, .cons h r => .cons (Rp.less hA h) (Rps.less hA r)
end
mutual
theorem Rp.more : ∀ {v : V} {d : D}, Rp K (R.and A) n φ H v d → Rp K R n φ H v d
  | _, _, .non => .non
  | _, _, .bl b => .bl b
  | _, _, .int i => .int i
  | _, _, .str x => .str x
  | _, _, .tup h r => .tup h (Rps.more r)
  | _, _, .klst h r => .klst h (Rps.more r)
  | _, _, .frz h r => .frz h (Rps.more r)
  | _, _, .lst h f c r => .lst h (fun q => f (.inl q)) c (Rps.more r)
  | _, _, .cell h => .cell h
  | _, _, .err e h f c k r => .err e h (fun q => f (.inl q)) c k (Rps.more r)
  | _, _, .ob e h f c k r => .ob e h (fun q => f (.inl q)) c k (Rps.more r)
theorem Rps.more : ∀ {vs : List V} {ds : List D}, Rps K (R.and A) n φ H vs ds → Rps K R n φ H vs ds
  | _, _, .nil => .nil
  | _, _, .cons h r => .cons (Rp.more h) (Rps.more r)
end
end
def PostN (c : Ct) (x C dx : Addr) (φ : Nat → Addr) (S : Store) (H : Hp) (N : Hp → Prop) : Rs (List (Str × D)) × Store → Prop
  | (.ok fs, S') => ∀ φ' H' vs, Step S.length φ (delA H x) S'.length φ' (delA H' x) → Good c.K c.R φ' H' S' → H' x = some (.ins C dx vs) → (∀ i, i < S'.length → x ≠ φ' i) → vs.map (·.1) = fs.map (·.1) → Rps c.K c.R S'.length φ' H' (vs.map (·.2)) (fs.map (·.2)) → N H'
  | (.ex e, S') => ∀ cl o φ' H', Step S.length φ (delA H x) S'.length φ' (delA H' x) → Good c.K c.R φ' H' S' → ExR c.K c.R S'.length φ' H' e cl o c.cls → c.E cl o H'
/-- its promise -/
def spN (K : PySem.W.Frag) (cls : CL) (C : Addr) (m : Nat) (G : List D → Store → Out (List (Str × D))) : Sp := fun vs H Q E => ∃ (x dx : Addr) (ws : List V) (R : RT) (φ : Nat → Addr) (S : Store) (ds : List D) (z : Rs (List (Str × D)) × Store), vs = .ref x :: ws ∧ H x = some (.ins C dx []) ∧ (∀ i, i < S.length → x ≠ φ i) ∧
  RtOk R cls.T ∧ Good K R φ H S ∧ Rps K R S.length φ H ws ds ∧ ds.length = m ∧ G ds S = some z ∧ PostN ⟨K, R.and x, cls, E⟩ x C dx φ S H (fun H' => Q .non H') z
/-- the class x, made by the __init__ that our machine runs as G; dd: its defaults -/
structure ObjG (P : Program) (w : World) (K : PySem.W.Frag) (mg : Str → Option Value) (base : Heap) (cls : CL) (k : Nat) (x : Str) (m : Nat) (G : List D → Store → Out (List (Str × D))) (dd : List D) : Prop where
  ex : ∃ (C fI : Addr) (fdI : FuncData) (psI : List Str) (dvs : List V) (ds : List Value), Mk K C fI ∧ mg x = some (.ref C) ∧ nameK K C = some x ∧ FnG P w K mg base (L2.CX P w) k fI fdI psI (spN K cls C m G) ∧ Binds K fdI psI ds ∧ Vals dvs ds ∧ Pure' K dvs dd
end Pv

namespace Pv
open PySem PySem.Spec PyProof.Rows L2 PySem.Calls
/-- what isinstance asks of the class of an instance -/
structure InsK (K : PySem.W.Frag) (s : Str) (C : Addr) : Prop where
  nm : nameK K C = some s
  one : ∀ C', nameK K C' = some s → C' = C
  cl : Cls K C
  ha : PySem.W.findIn K (.ref C) "__class__" = some (some (.builtin "object.__class__"))
  hn : PySem.W.specialIn K (.builtin "object.__class__") "__get__" = some (some (.builtin "getset_descriptor.__get__"))
  htk : PySem.W.takesIn K (.builtin "object.__class__") = some true
  hm : PySem.W.mroIn K C (.type "object") = some true
def tysB : List String := ["NoneType", "bool", "int", "str", "tuple", "list", "dict"]
/-- the class x; ss: the own classes whose instances are told, and whether they are instances of x -/
structure KitC (K : PySem.W.Frag) (mg : Str → Option Value) (x : Str) (ss : List (Str × Bool)) : Prop where
  ex : ∃ C, mg x = some (.ref C) ∧ (∀ T ∈ tysB, PySem.W.kitOne K (.type T) (.ref C) = some false) ∧ ∀ q ∈ ss, ∃ C', InsK K q.1 C' ∧ PySem.W.kitOne K (.ref C') (.ref C) = some q.2
/-- an operator of the language with its rule and our reading -/
structure OpP (X : Cx) (c : Ct) (f : Value → Value → Sem Value) (o : D → D → Store → Out D) : Prop where
  ex : ∃ r, OpR X f r ∧ OpM c r o
/-- a method of the class x and all that an operator asks of the class -/
structure OpF (P : Program) (w : World) (K : PySem.W.Frag) (mg : Str → Option Value) (base : Heap) (cls : CL) (k : Nat) (x m : Str) (j : Nat) (F : Fn) : Prop where
  ex : ∃ (C fM : Addr) (fd : FuncData) (ps : List Str), InsK K x C ∧ Meth K C m fM ∧ FnG P w K mg base (L2.CX P w) k fM fd ps (spM K cls j F) ∧ Binds K fd ps [] ∧ PySem.W.selfFirst K C = true
end Pv
namespace PySem.W
open PySem PySem.Calls PyProof.Rows
section
variable {prog : Program} {w : World} {A : Around} {E : Value → Shared → Prop} {s : Shared} {K : Frag} {x C L f g : Addr} {h₀ : Heap} {m : Str → Option Value} {ox : Obj} {od : Option Obj} {T : String}
/-- what a built-in type T says of an operator: its own def and the reflected one -/
structure TySay (K : Frag) (T nm : String) (fo ro : Option Value) : Prop where
  own : findIn K (.type T) (PySem.dunder nm) = some fo
  ref : findIn K (.type T) (dunderR nm) = some ro
/-- what the class at C says of an operator: its own def at f -/
structure ClSay (K : Frag) (C : Addr) (nm : String) (f : Addr) (rc : Option Value) : Prop where
  own : findIn K (.ref C) (PySem.dunder nm) = some (some (.ref f))
  ref : findIn K (.ref C) (dunderR nm) = some rc
  py : rc = none ∨ ∃ g : Addr, rc = some (.ref g)
  one : selfFirst K C = true
end
end PySem.W
namespace Pv
open PySem PySem.Spec PyProof.Rows L2 PySem.Calls
/-- the defs of the class x for the operator nm: its own one and perhaps the reflected one -/
structure BinK (K : PySem.W.Frag) (x : Str) (nm : String) : Prop where
  ref : ∀ C, InsK K x C → PySem.W.findIn K (.ref C) (PySem.dunderR nm) = some none ∨ ∃ g : Addr, PySem.W.findIn K (.ref C) (PySem.dunderR nm) = some (some (.ref g))
  low : ∀ C, InsK K x C → PySem.W.subIn K (.ref C) (.type "int") = some false ∧ PySem.W.subIn K (.ref C) (.type "bool") = some false
structure CbP (X : Cx) (c : Ct) (f : Value) (o : List D → Store → Out D) : Prop where
  ex : ∃ r, CallR X f r ∧ BlM c r o
end Pv

namespace Pv
open PySem PySem.Spec PyProof.Rows L2 PySem.Calls
structure ObjK (P : Program) (w : World) (K : PySem.W.Frag) (mg : Str → Option Value) (base : Heap) (cls : CL) (k : Nat) (x : Str) (m : Nat) (G : List D → Store → Out (List (Str × D))) (n : Nat) (ks : List Str) : Prop where
  ex : ∃ (C fI : Addr) (fdI : FuncData) (psI : List Str), Mk K C fI ∧ mg x = some (.ref C) ∧ nameK K C = some x ∧ FnG P w K mg base (L2.CX P w) k fI fdI psI (spN K cls C m G) ∧ KBn K fdI psI (n + 1) ks (fun us ws => us ++ ws) (fun vs zs => vs ++ zs)
structure PrpC (P : Program) (w : World) (K : PySem.W.Frag) (mg : Str → Option Value) (base : Heap) (cls : CL) (k : Nat) (x fm : Str) (F : Fn) : Prop where
  ex : ∃ (C fG p : Addr) (fd : FuncData) (ps : List Str), InsK K x C ∧ PropOf K C fm p fG ∧ FnG P w K mg base (L2.CX P w) k fG fd ps (spM K cls 1 F) ∧ Binds K fd ps []
def insB (K : PySem.W.Frag) (x : Str) : Bool := clsOneB K x (He.ga K x) && (He.eqO (PySem.W.findIn K (.ref (He.ga K x)) "__class__") (some (some (.builtin "object.__class__"))) && (He.eqO (PySem.W.specialIn K (.builtin "object.__class__") "__get__") (some (some (.builtin "getset_descriptor.__get__"))) &&
  (decide (PySem.W.takesIn K (.builtin "object.__class__") = some true) && (decide (PySem.W.mroIn K (He.ga K x) (.type "object") = some true) && PySem.W.selfFirst K (He.ga K x)))))
def kitB2 (K : PySem.W.Frag) (x : Str) (ss : List (Str × Bool)) : Bool := (tysB.all fun T => decide (PySem.W.kitOne K (.type T) (.ref (He.ga K x)) = some false)) && ss.all fun q => decide (PySem.W.kitOne K (.ref (He.ga K q.1)) (.ref (He.ga K x)) = some q.2)
def refB (o : Option (Option Value)) : Bool := match o with
  | some none => true
  | some (some (.ref _)) => true
  | _ => false
def binB (K : PySem.W.Frag) (x : Str) (nm : String) : Bool := refB (PySem.W.findIn K (.ref (He.ga K x)) (PySem.dunderR nm)) && (decide (PySem.W.subIn K (.ref (He.ga K x)) (.type "int") = some false) && decide (PySem.W.subIn K (.ref (He.ga K x)) (.type "bool") = some false))
end Pv

namespace K23
open PySem PySem.Spec L2 Pv
def subL : SubL := [("NotUsable", "TextError", false), ("NotUsable", "MachineError", false), ("NotUsable", "ProgramError", true), ("NotUsable", "PaperError", false), ("NotUsable", "InvalidRow", false), ("NotUsable", "InvalidText", false), ("NotUsable", "NothingToUndo", false), ("NotUsable", "InvalidEvent", false), ("NotUsable", "NeverEnough", false), ("NotUsable", "NotUsable", true), ("NotUsable", "InvalidPaper", false), ("NotUsable", "ChargeError", true), ("NotUsable", "ValueError", true)]
abbrev sb : Subs := subOf subL
def fldL : List (Str × List Str) := [("NotUsable", ["word", "at"])]
def ss_Width : List (Str × Bool) := [("Width", true)]
end K23

namespace K23
open PySem PySem.Spec PyProof.Rows L2 PySem.Calls Pv
def top (i : Nat) : Stmt := PySem.Challenge.pw_enoughcharge_k23_width_values.main.body.getD i (.Pass ⟨0, 0, 0, 0⟩)
def dfn (x : String) (i : Nat) : He.DefD := ⟨(x, Option.none), x, x, defArgs (top i), defBody (top i), defScope (top i), [], []⟩
def dfi (x : String) (i j : Nat) : He.DefD := ⟨(x, some "__init__"), "__init__", x ++ ".__init__", defArgs (clsDef (top i) j), defBody (clsDef (top i) j), defScope (clsDef (top i) j), [], []⟩
def dfm (x m : String) (i j : Nat) (dv : List He.Dv) : He.DefD := ⟨(x, some m), m, x ++ "." ++ m, defArgs (clsDef (top i) j), defBody (clsDef (top i) j), defScope (clsDef (top i) j), dv, []⟩
def fns : List He.DefD := [dfn "number_text" 19, dfn "_law_fits" 29, dfn "is_integer" 14, dfn "is_number" 15, dfn "_law_sum_right" 31, dfn "_law_refused_right" 32, dfn "_law_draw" 24, dfn "_law_pair_right" 30, dfn "_law_amount" 28, dfn "_law_tape" 23, dfn "law" 33, dfn "_law_refusal" 26, dfn "_law_said" 27, dfi "NotUsable" 7 0, dfm "Width" "__bool__" 21 9 [], dfm "Width" "__str__" 21 10 [], dfm "Width" "__init__" 21 0 [.non], dfm "Width" "__add__" 21 5 [], dfm "Width" "__radd__" 21 6 [], dfm "Width" "__ge__" 21 4 [], dfm "Width" "__or__" 21 8 [], dfm "Width" "__le__" 21 3 [], dfm "Width" "__and__" 21 7 [], dfm "Width" "__eq__" 21 2 []]
def fas0 : List He.Fa := [.glo "number_text", .glo "_law_fits", .glo "is_integer", .glo "is_number", .glo "_law_sum_right", .glo "_law_refused_right", .glo "_law_draw", .glo "_law_pair_right", .glo "_law_amount", .glo "_law_tape", .glo "law", .glo "_law_refusal", .glo "_law_said", .free "ValueError", .free "abs", .free "all", .free "bool", .free "dict", .free "enumerate", .free "int", .free "isinstance", .free "len", .free "list", .free "max", .free "min", .free "range", .free "repr", .free "set", .free "sorted", .free "str"]
def fas1 : List He.Fa := [.free "sum", .free "tuple", .free "zip", .glo "TextError", .glo "MachineError", .glo "ProgramError", .glo "PaperError", .glo "InvalidRow", .glo "InvalidText", .glo "NothingToUndo", .glo "InvalidEvent", .glo "NeverEnough", .glo "NotUsable", .glo "InvalidPaper", .glo "ChargeError", .int "BLOCK_DIGITS" 60, .int "BLOCK" 1000000000000000000000000000000000000000000000000000000000000, .glo "Width", .mkr "Width", .cls "Width", .noat "Width" "_number", .meth "Width" "__bool__", .meth "Width" "__str__", .meth "Width" "__add__", .meth "Width" "__radd__", .meth "Width" "__ge__", .meth "Width" "__or__", .meth "Width" "__le__", .meth "Width" "__and__", .meth "Width" "__eq__"]
def fas : List He.Fa := fas0 ++ fas1
def loose0 : List PySem.Str := ["BLOCK_DIGITS", "BLOCK", "ChargeError", "PaperError", "ProgramError", "MachineError", "TextError", "InvalidPaper", "NotUsable", "NeverEnough", "InvalidEvent", "NothingToUndo", "InvalidText", "InvalidRow", "Width", "is_integer", "is_number", "number_text", "_law_tape", "_law_draw", "_law_pick", "_law_refusal", "_law_said", "_law_amount", "_law_fits", "_law_pair_right", "_law_sum_right", "_law_refused_right"]
def loose : List PySem.Str := loose0
abbrev theRow : PySem.W.OpenRow := PySem.Challenge.rw_enoughcharge_k23_width_values.row
def tbs : Tb := []
def tfq : List (He.Defn × Str) := [(("_law_refused_right", Option.none), "_law_refused_right.<locals>.<lambda>"), (("law", Option.none), "law.<locals>.<lambda>")]
def tfs : List He.Defn := tfq.map (·.1)
def fms : List (Str × Ft) := []
def exs (K : PySem.W.Frag) : Bool := tabB tbs K && (fmB fms K && (xcsT subL fldL tfq K && ((insB K "Width") && (kitB2 K "Width" ss_Width) && (binB K "Width" "add") && (binB K "Width" "or") && (binB K "Width" "and") && (propB K "Width" "number"))))
def dff (x m : String) (i j : Nat) (T : String) : FarD := ⟨fun K => recA K x m T, ⟨(x, some m), m, x ++ "." ++ m, defArgs (clsDef (top i) j), defBody (clsDef (top i) j), defScope (clsDef (top i) j), [], []⟩⟩
def fars : List FarD := [dff "Width" "number" 21 1 "property"]
def as0 : List Addr := [3, 6, 4, 24, 37, 49, 61, 73, 92, 111, 130, 149, 168, 187, 206, 215, 222, 229, 318, 329, 336, 343, 350, 357, 364, 371, 378, 385, 392, 397, 0, 23, 36, 48, 60, 72, 91, 110, 129, 148, 167, 186, 205, 214, 221, 228, 317, 328, 335, 342, 349, 356, 363, 370, 377, 384, 391, 396, 22, 25, 35, 47, 59, 71, 89, 90, 108, 109, 127, 128, 146, 147, 165, 166, 184, 185, 203, 204, 209, 210, 211, 212, 213, 216, 217, 218, 219, 220, 223, 224, 225, 226, 227, 244, 252, 259, 266, 273, 280, 287, 294, 301, 308, 315, 316, 319, 320, 323, 324, 325, 326, 327, 330, 331, 332, 333, 334, 337, 338, 339, 340, 341, 344, 345, 346, 347, 348, 351, 352, 353, 354, 355, 358, 359, 360, 361, 362, 365, 366, 367, 368, 369, 372, 373, 374, 375, 376, 379, 380, 381, 382, 383, 386, 387, 388, 389, 390, 393, 394, 395, 88, 107, 126, 145, 164, 183, 202, 243, 237, 251, 258, 265, 272, 279, 286, 293, 300, 307, 314, 2, 250]
abbrev theHook : PySem.W.Hook := Pv.hookZ as0 fas fns (fmT fms) tfs exs fars
abbrev theView : Program := PySem.W.view theRow.prog [33]
def seen (t : PySem.W.SharedT) : Pv.AlY := Pv.obsZ as0 fas fns (fmT fms) tfs exs fars (HandSHeadRun.getT t)
section
open PySem PySem.W PySem.Calls PyProof.Rows
theorem goesF (w : World) : HandSHeadRun.RunEq theRow theView theHook seen 20000 loose w := fun os => by kernel_rfl
theorem goes (w : World) : HandSHeadRun.RunEq theRow theView theHook seen 20000 loose w := goesF w
end
end K23
set_option Elab.async false
set_option linter.all false
set_option maxRecDepth 100000
set_option maxHeartbeats 4000001
namespace Pv
open PySem PySem.Spec PyProof.Rows L2
theorem mulSame (l : Addr) (items : Array Value) (n : Nat) (sl : Array (Option Value)) (dd : Option Addr) (x : Int) (u : Tok) (c0 : (decide (x < -(2 ^ 63)) || decide (x ≥ 2 ^ 63)) = false) (c1 : (items.isEmpty || x == 1) = true) :
    Meets (Builtin.«tuple.__mul__» ⟨[.ref l, .int x u], []⟩) (fun _ R s => s.heap.get? l = some { cls := .type "tuple", dict := dd, data := .seq items n, slots := sl } ∧ R (.ok (.ret (.ref l))) s) :=
  .of_wp fun prog w A R s h => by
    obtain ⟨hp, g, d, tk, os⟩ := s
    obtain ⟨hl, h⟩ := h
    have f1 := AutoSeq1.idx_int
    wp_walk using wpAny_loadPart' hl
    repeat (first
      | (refine wpAny_ite_false (decide_eq_false (by rw [c0]; exact Bool.false_ne_true)) ?_; wp_walk using wpAny_loadPart' hl)
      | (refine wpAny_ite_true (decide_eq_true c1) ?_; wp_walk using wpAny_loadPart' hl))
    exact ⟨_, rfl, h⟩
theorem mulNone (l : Addr) (items : Array Value) (n : Nat) (sl : Array (Option Value)) (dd : Option Addr) (u : Tok) (c1 : items.isEmpty = false) :
    Meets (Builtin.«tuple.__mul__» ⟨[.ref l, .int 0 u], []⟩) (fun _ R s => s.heap.get? l = some { cls := .type "tuple", dict := dd, data := .seq items n, slots := sl } ∧
      R (.ok (.ret (Value.ref s.heap.objs.size))) { s with heap := s.heap.push { cls := Value.type "tuple", data := Data.seq #[] }, toks := s.toks }) :=
  .of_wp fun prog w A R s h => by
    obtain ⟨hp, g, d, tk, os⟩ := s
    obtain ⟨hl, h⟩ := h
    have f1 := AutoSeq1.idx_int
    have c0 : (decide ((0 : Int) < -(2 ^ 63)) || decide ((0 : Int) ≥ 2 ^ 63)) = false := by decide
    have c2 : (items.isEmpty || (0 : Int) == 1) = false := by rw [c1]; rfl
    have c3 : (decide ((0 : Int) ≤ 0) || items.isEmpty) = true := by rw [c1]; rfl
    wp_walk using wpAny_loadPart' hl
    repeat (first
      | (refine wpAny_ite_false (decide_eq_false (by rw [c0]; exact Bool.false_ne_true)) ?_; wp_walk using wpAny_loadPart' hl)
      | (refine wpAny_ite_false (decide_eq_false (by rw [c2]; exact Bool.false_ne_true)) ?_; wp_walk using wpAny_loadPart' hl)
      | (refine wpAny_ite_true (decide_eq_true c3) ?_; wp_walk using wpAny_loadPart' hl))
    exact ⟨_, rfl, h⟩
def rRepS (K : PySem.W.Frag) : R2 := fun x y H Q => ∃ l k xs, x = .ref l ∧ y = .int k ∧ SqT K H l xs ∧ ((xs = [] ∨ k = 1) ∧ 0 ≤ k ∧ k ≤ 1000 ∧ Q (.ref l) H ∨ xs ≠ [] ∧ k = 0 ∧ ∀ p, H p = none → Q (.ref p) (upd H p (.tup [])))
theorem op_repS {X : Cx} : OpR X (binaryOp .Mult) (rRepS X.K) := by
  intro pins s σ H x y v u Q I rx ry h
  obtain ⟨l, k, xs, rfl, rfl, hT, q⟩ := h
  cases rx
  obtain ⟨t, rfl⟩ := ry
  obtain ⟨its, r, ⟨⟨cls, dd, data, sl⟩, ho, hc, n, hd⟩, hs⟩ := I.tuple hT
  simp only at hc hd
  subst hc hd
  have hle : its.length = xs.length := r.length.symm

  rcases q with ⟨c, k0, k1, q⟩ | ⟨hne, rfl, q⟩
  · have c0 : (decide (k < -(2 ^ 63)) || decide (k ≥ 2 ^ 63)) = false := by
      rw [decide_eq_false (by omega), decide_eq_false (by omega)] <;> rfl
    have c1 : (its.toArray.isEmpty || k == 1) = true := by
      rcases c with c | c
      · subst c
        have : its = [] := List.eq_nil_of_length_eq_zero hle
        subst this
        rfl
      · subst c
        simp
    refine wpAny_binaryOp_repeat_ref (T := "tuple") (U := "int") (by decide) ⟨_, ho, rfl⟩ (fun s' => typeIs_int s' k t) noFill_tuple_mul F.fills_int_mul F.slot_int_rmul repeat_tuple F.slot_int_index.lookup
      (call_meets F.slot_int_rmul (typeIs_int s k t) F.entry_int_rmul (F.args_int_rmul_2 _ _) (int_rmul_tuple k t l its.toArray n dd sl)
        ⟨ho, rfl, ⟨_, ho, rfl⟩, call_meets F.slot_tuple_mul ⟨_, ho, rfl⟩ F.entry_tuple_mul (F.args_tuple_mul_2 _ _) (mulSame l its.toArray n sl dd k t c0 c1) ⟨ho, ?_⟩⟩)
    exact ⟨.ref l, H, I, rfl, q⟩
  · have hn : its ≠ [] := fun e => hne (by
      rw [e] at hle
      exact List.eq_nil_of_length_eq_zero hle.symm)
    have hi : its.toArray.isEmpty = false := by
      cases its with
      | nil => exact absurd rfl hn
      | cons a b => rfl
    refine wpAny_binaryOp_repeat_ref (T := "tuple") (U := "int") (by decide) ⟨_, ho, rfl⟩ (fun s' => typeIs_int s' 0 t) noFill_tuple_mul F.fills_int_mul F.slot_int_rmul repeat_tuple F.slot_int_index.lookup
      (call_meets F.slot_int_rmul (typeIs_int s 0 t) F.entry_int_rmul (F.args_int_rmul_2 _ _) (int_rmul_tuple 0 t l its.toArray n dd sl)
        ⟨ho, rfl, ⟨_, ho, rfl⟩, call_meets F.slot_tuple_mul ⟨_, ho, rfl⟩ F.entry_tuple_mul (F.args_tuple_mul_2 _ _) (mulNone l its.toArray n sl dd t hi) ⟨ho, ?_⟩⟩)
    refine ⟨.ref s.heap.objs.size, _, I.laid (t' := s.toks) (o := .tup []) (fun b ob q => Heap.get?_push_of_some _ q) (Nat.le_refl _) ?_, rfl, q _ (I.hok.fresh (Nat.le_refl _))⟩
    exact ⟨Nat.zero_le _, _, .nil, IsTup.new _ _⟩
end Pv
namespace Pv
open PySem PySem.Spec PyProof.Rows L2
@[simp] theorem bnd_none {α β : Type} (k : α → Store → Out β) : bnd none k = none := rfl
@[simp] theorem bnd_ok {α β : Type} (a : α) (S : Store) (k : α → Store → Out β) : bnd (some (.ok a, S)) k = k a S := rfl
@[simp] theorem bnd_ex {α β : Type} (x : Xd) (S : Store) (k : α → Store → Out β) : bnd (some (.ex x, S)) k = some (.ex x, S) := rfl
@[simp] theorem bnd_ret {α β : Type} (a : α) (S : Store) (k : α → Store → Out β) : bnd (ret a S) k = k a S := rfl

/-- a list or a dict is written -/
theorem TabOk.put {T : List (Addr × Str)} {H : Hp} {p : Addr} {o o' : HO} (t : TabOk T H) (hp : H p = some o') (h1 : ∀ ps, o' ≠ .tbl ps) (h2 : ∀ q, o' ≠ LamX.CodeO p q) (ho : ∀ ps, o ≠ .tbl ps) : TabOk T (upd H p o) := by
  have ne : ∀ {b u}, H b = some u → u ≠ o' → b ≠ p := fun e n z => n (by
    subst z
    rw [hp] at e
    exact (Option.some.inj e).symm)
  refine ⟨fun q hq => ?_, fun a ps e => ?_⟩
  · obtain ⟨ps, e1, e2, e3⟩ := t.tabs q hq
    refine ⟨ps, by rw [upd_ne (ne e1 fun z => h1 ps z.symm)]; exact e1, e2, fun pos cv hc => ?_⟩
    obtain ⟨c, f1, f2⟩ := e3 pos cv hc
    have hc : c ≠ p := fun z => by
      subst z
      rw [hp] at f2
      exact h2 _ (Option.some.inj f2)
    exact ⟨c, f1, by rw [upd_ne hc]; exact f2⟩
  · by_cases h : a = p
    · subst h
      rw [upd_same] at e
      exact absurd (Option.some.inj e) (ho ps)
    · rw [upd_ne h] at e
      exact t.all a ps e
theorem heap_with (p : Addr) (o : Obj) (hf : o.isFreed = false) : ∃ h : Heap, h.get? p = some o := by
  have sz : ∀ n : Nat, ∃ h : Heap, h.objs.size = n := fun n => by
    induction n with
    | zero => exact ⟨{ (default : Heap) with objs := #[] }, rfl⟩
    | succ n ih =>
      obtain ⟨h, e⟩ := ih
      exact ⟨h.push o, by rw [Heap.size_push, e]⟩
  obtain ⟨h, e⟩ := sz p
  subst e
  exact ⟨h.push o, Heap.get?_push_size _ hf⟩
theorem nest_code {p : Addr} {ps : List (NestedKey × Addr × Value)} : ∀ q, nestO p ps ≠ LamX.CodeO p q := fun q e => by
  have e1 := HO.ext.inj e
  obtain ⟨h, hp⟩ := heap_with p { cls := .none, data := .fields #[.none, .str q 0] } rfl
  have e2 : RawN p ps h := by
    rw [e1]
    exact ⟨_, _, 0, hp, rfl, rfl⟩
  obtain ⟨_, _, _, _, o, es, ep, h1, _, h2, _⟩ := e2
  rw [hp] at h1
  cases h1
  cases h2
theorem nest_tbl {p : Addr} {ps : List (NestedKey × Addr × Value)} : ∀ qs, nestO p ps ≠ .tbl qs := fun _ z => nomatch (show HO.ext _ = HO.tbl _ from z)
theorem nest_tup {p : Addr} {ps : List (NestedKey × Addr × Value)} : ∀ xs, nestO p ps ≠ .tup xs := fun _ z => nomatch (show HO.ext _ = HO.tup _ from z)
theorem nest_frz {p : Addr} {ps : List (NestedKey × Addr × Value)} : ∀ o u, nestO p ps ≠ .frz o u := fun _ _ z => nomatch (show HO.ext _ = HO.frz _ _ from z)
theorem lst_code {p : Addr} {xs : List V} : ∀ q, HO.lst xs ≠ LamX.CodeO p q := fun q z => nomatch (show HO.lst _ = HO.ext _ from z)
theorem dK_code {p : Addr} {xs : List (Key × V)} : ∀ q, HO.dK xs ≠ LamX.CodeO p q := fun q z => nomatch (show HO.dK _ = HO.ext _ from z)

section
variable {K : PySem.W.Frag} {R : RT} {n n' n'' : Nat} {φ φ' φ'' : Nat → Addr} {H H' H'' : Hp}
theorem Step.refl : Step n φ H n φ H := ⟨Nat.le_refl _, fun _ _ => rfl, fun _ _ h _ _ => h, fun _ o h => ⟨o, h⟩, fun i h1 h2 => absurd h2 (Nat.not_lt.mpr h1), fun _ _ h => h, fun _ _ _ h => h⟩
theorem Rps.get : ∀ {vs : List V} {ds : List D} {i : Nat} {d : D}, Rps K R n φ H vs ds → ds[i]? = some d → ∃ v, vs[i]? = some v ∧ Rp K R n φ H v d
  | _, _, _, _, .nil, e => by simp at e
  | _, _, 0, _, .cons h _, e => by simp at e; subst e; exact ⟨_, rfl, h⟩
  | _, _, i + 1, d, .cons _ r, e => by
    obtain ⟨v, h1, h2⟩ := Rps.get (i := i) (d := d) r (by simpa using e)
    exact ⟨v, by simpa using h1, h2⟩
theorem Rps.get' : ∀ {vs : List V} {ds : List D} {i : Nat} {v : V}, Rps K R n φ H vs ds → vs[i]? = some v → ∃ d, ds[i]? = some d ∧ Rp K R n φ H v d
  | _, _, _, _, .nil, e => by simp at e
  | _, _, 0, _, .cons h _, e => by simp at e; subst e; exact ⟨_, rfl, h⟩
  | _, _, i + 1, d, .cons _ r, e => by
    obtain ⟨v, h1, h2⟩ := Rps.get' (i := i) (v := d) r (by simpa using e)
    exact ⟨v, by simpa using h1, h2⟩
theorem Rps.drop : ∀ {vs : List V} {ds : List D} (k : Nat), Rps K R n φ H vs ds → Rps K R n φ H (vs.drop k) (ds.drop k)
  | _, _, 0, r => r
  | _, _, _ + 1, .nil => .nil
  | _, _, k + 1, .cons _ r => Rps.drop k r
theorem Rps.snoc {vs : List V} {ds : List D} {v : V} {d : D} (r : Rps K R n φ H vs ds) (h : Rp K R n φ H v d) : Rps K R n φ H (vs ++ [v]) (ds ++ [d]) := r.append (.cons h .nil)
theorem Good.there {S : Store} (g : Good K R φ H S) {i : Nat} (hi : i < S.length) : ∃ o, H (φ i) = some o ∧ (∀ xs, o ≠ .tup xs) ∧ ∀ ob u, o ≠ .frz ob u := by
  have e : S[i]? = some S[i] := List.getElem?_eq_getElem hi
  have q := g.at_ i _ e
  cases h : S[i] with
  | lst ds =>
    rw [h] at q
    obtain ⟨xs, e1, _⟩ := q
    exact ⟨_, e1, (fun _ z => nomatch z), (fun _ _ z => nomatch z)⟩
  | dct kvs =>
    rw [h] at q
    obtain ⟨ps, e1, _⟩ := q
    exact ⟨_, e1, (fun _ z => nomatch z), (fun _ _ z => nomatch z)⟩
  | dn kvs =>
    rw [h] at q
    obtain ⟨ps, vs, e1, _⟩ := q
    exact ⟨_, e1, nest_tup, nest_frz⟩
theorem CellR.kind {a : Addr} {c : Cell} (q : CellR K R n φ H a c) : ∃ o, H a = some o ∧ (∀ ps, o ≠ .tbl ps) ∧ ∀ q, o ≠ LamX.CodeO a q := by
  cases c with
  | lst ds =>
    obtain ⟨xs, e1, _⟩ := q
    exact ⟨_, e1, (fun _ z => nomatch z), lst_code⟩
  | dct kvs =>
    obtain ⟨ps, e1, _⟩ := q
    exact ⟨_, e1, (fun _ z => nomatch z), dK_code⟩
  | dn kvs =>
    obtain ⟨ps, vs, e1, _⟩ := q
    exact ⟨_, e1, nest_tbl, nest_code⟩
theorem Good.kind {S : Store} (g : Good K R φ H S) {i : Nat} (hi : i < S.length) : ∃ o, H (φ i) = some o ∧ (∀ ps, o ≠ .tbl ps) ∧ ∀ q, o ≠ LamX.CodeO (φ i) q := (g.at_ i _ (List.getElem?_eq_getElem hi)).kind
theorem EnvR.step {ρ : Env} {σ : L2.St} (e : EnvR K R n φ H ρ σ) (s : Step n φ H n' φ' H') : EnvR K R n' φ' H' ρ σ :=
  ⟨e.len, fun i d h => let ⟨v, h1, h2⟩ := e.at_ i d h; ⟨v, h1, h2.step s⟩⟩
end
end Pv
namespace Pv
open PySem PySem.Spec PyProof.Rows L2
def RB : RelT Bool Bool := fun _ _ _ a b => a = b
def RL (c : Ct) : RelT (List V) (List D) := fun n φ H vs ds => Rps c.K c.R n φ H vs ds

abbrev mB (c : Ct) (f : Env → Store → Out Bool) : TT := fun σ H Q => Wp c RB f σ H Q
abbrev mA (c : Ct) (f : Env → Store → Out (List D)) : TA := fun σ H Q => Wp c (RL c) f σ H Q

section
variable {c : Ct} {β α γ δ : Type} {rel : RelT β α} {rel2 : RelT δ γ} {σ : L2.St} {H : Hp} {Q : δ → Hp → Prop} {φ : Nat → Addr} {S : Store} {ρ : Env}
theorem Post.from {φ1 : Nat → Addr} {S1 : Store} {H1 : Hp} {r : Rs γ × Store} (s : Step S.length φ H S1.length φ1 H1) (p : Post c rel2 φ S H Q r) : Post c rel2 φ1 S1 H1 Q r := by
  obtain ⟨r, S'⟩ := r
  cases r with
  | ok a => exact fun b φ' H' t g q => p b φ' H' (s.trans t) g q
  | ex x => exact fun cl o φ' H' t g q => p cl o φ' H' (s.trans t) g q
/-- the first part of what is reckoned -/
theorem Wp.fst {f : Env → Store → Out α} {k : α → Store → Out γ} {R : β → Hp → Prop} {r : Rs γ × Store} (hg : Good c.K c.R φ H S) (he : EnvR c.K c.R S.length φ H ρ σ) (hf : bnd (f ρ S) k = some r) (hp : Post c rel2 φ S H Q r)
    (next : ∀ a S1 b φ1 H1, Step S.length φ H S1.length φ1 H1 → Good c.K c.R φ1 H1 S1 → EnvR c.K c.R S1.length φ1 H1 ρ σ → rel S1.length φ1 H1 b a → k a S1 = some r → Post c rel2 φ1 S1 H1 Q r → R b H1) : Wp c rel f σ H R := by
  cases e : f ρ S with
  | none => rw [e] at hf; cases hf
  | some q =>
    obtain ⟨q, S1⟩ := q
    rw [e] at hf
    refine ⟨φ, S, ρ, _, hg, he, e, ?_⟩
    cases q with
    | ok a => exact fun b φ' H' s g' rv => next a S1 b φ' H' s g' (he.step s) rv hf (hp.from s)
    | ex x =>
      have hf : some ((Rs.ex x : Rs γ), S1) = some r := hf
      cases hf
      exact hp
/-- an answer that is there -/
theorem Post.now {a : γ} {b : δ} (hp : Post c rel2 φ S H Q (.ok a, S)) (hg : Good c.K c.R φ H S) (hr : rel2 S.length φ H b a) : Q b H := hp b φ H Step.refl hg hr
end
section
variable {X : Cx} {c : Ct}
theorem pe_weak {e : Expr} {t t' : TE} (h : PE X e t) (k : ∀ σ H Q, t' σ H Q → t σ H Q) : PE X e t' := ⟨fun pins s σ H Q I w => h.run pins s σ H Q I (k σ H Q w)⟩
theorem pt_weak {e : Expr} {t t' : TT} (h : PT X e t) (k : ∀ σ H Q, t' σ H Q → t σ H Q) : PT X e t' := ⟨fun pins s σ H Q I w => h.run pins s σ H Q I (k σ H Q w)⟩
theorem pw_weak {e : Expr} {t t' : TT} (h : PW X e t) (k : ∀ σ H Q, t' σ H Q → t σ H Q) : PW X e t' := ⟨fun wh pins s σ H Q I w => h.run wh pins s σ H Q I (k σ H Q w)⟩
theorem pa_weak {e : List Expr} {t t' : TA} (h : PA X e t) (k : ∀ σ H Q, t' σ H Q → t σ H Q) : PA X e t' := ⟨fun pos pins s σ H Q I w => h.run pos pins s σ H Q I (k σ H Q w)⟩

def eVar (i : Nat) (ρ : Env) (S : Store) : Out D := match ρ[i]? with
  | some (some d) => ret d S
  | _ => none
def eC (d : D) (_ : Env) (S : Store) : Out D := ret d S
theorem m_var {i : Nat} {x : Str} {pos : Pos} (hN : X.N[i]? = some x) (hv : Vis X.env.scope x) (hd : (x == ("__debug__" : Str)) = false) (hcd : (x == ("__classdict__" : Str)) = false) : PE X (.Name x pos) (mE c (eVar i)) := by
  refine pe_weak (pe_var hN hv hd hcd) fun σ H Q ⟨φ, S, ρ, r, hg, he, hf, hp⟩ => ?_
  unfold eVar at hf
  split at hf
  · rename_i d e
    obtain ⟨v, h1, h2⟩ := he.at_ i d e
    cases hf
    exact ⟨v, h1, hp.now hg h2⟩
  · cases hf
theorem Wp.con {γ δ : Type} {rel2 : RelT δ γ} {σ : L2.St} {H : Hp} {Q : δ → Hp → Prop} {a : γ} {b : δ} (h : Wp c rel2 (fun _ S => ret a S) σ H Q) (hr : ∀ n φ, rel2 n φ H b a) : Q b H := by
  obtain ⟨φ, S, ρ, r, hg, he, hf, hp⟩ := h
  cases hf
  exact hp.now hg (hr _ _)
theorem m_int {i : Int} {j : Nat} {pos : Pos} : PE X (.Constant (.int i) j pos) (mE c (eC (.int i))) := pe_weak pe_int fun σ H Q h => Wp.con (b := V.int i) h fun _ _ => .int i
theorem m_bl {i : Bool} {j : Nat} {pos : Pos} : PE X (.Constant (.bool i) j pos) (mE c (eC (.bl i))) := pe_weak pe_bl fun σ H Q h => Wp.con (b := V.bl i) h fun _ _ => .bl i
theorem m_non {j : Nat} {pos : Pos} : PE X (.Constant .none j pos) (mE c (eC .non)) := pe_weak pe_non fun σ H Q h => Wp.con (b := V.non) h fun _ _ => .non
theorem m_str {i : Str} {j : Nat} {pos : Pos} : PE X (.Constant (.str i) j pos) (mE c (eC (.str i))) := pe_weak pe_str fun σ H Q h => Wp.con (b := V.str i) h fun _ _ => .str i

def eBin (op : D → D → Store → Out D) (fa fb : Env → Store → Out D) (ρ : Env) (S : Store) : Out D := bnd (fa ρ S) fun x S1 => bnd (fb ρ S1) fun y S2 => op x y S2
theorem m_bin {r : R2} {op : D → D → Store → Out D} {fa fb : Env → Store → Out D} (ho : OpM c r op) {σ : L2.St} {H : Hp} {Q : VK} (h : mE c (eBin op fa fb) σ H Q) : tOp r (mE c fa) (mE c fb) σ H Q := by
  obtain ⟨φ, S, ρ, z, hg, he, hf, hp⟩ := h
  exact Wp.fst hg he hf hp fun a S1 x φ1 H1 s1 g1 e1 r1 hf1 hp1 => Wp.fst g1 e1 hf1 hp1 fun b S2 y φ2 H2 s2 g2 e2 r2 hf2 hp2 => ho φ2 S2 H2 Q x y a b z g2 (Rp.step s2 r1) r2 hf2 hp2
def eUn (op : D → Store → Out D) (fa : Env → Store → Out D) (ρ : Env) (S : Store) : Out D := bnd (fa ρ S) fun x S1 => op x S1
def UnM (c : Ct) (r : V → Hp → VK → Prop) (op : D → Store → Out D) : Prop := ∀ (φ : Nat → Addr) (S : Store) (H : Hp) (Q : VK) (x : V) (a : D) (z : Rs D × Store),
  Good c.K c.R φ H S → Rp c.K c.R S.length φ H x a → op a S = some z → Post c (RV c) φ S H Q z → r x H Q
theorem m_un {r : V → Hp → VK → Prop} {op : D → Store → Out D} {fa : Env → Store → Out D} (ho : UnM c r op) {σ : L2.St} {H : Hp} {Q : VK} (h : mE c (eUn op fa) σ H Q) : tUn r (mE c fa) σ H Q := by
  obtain ⟨φ, S, ρ, z, hg, he, hf, hp⟩ := h
  exact Wp.fst hg he hf hp fun a S1 x φ1 H1 s1 g1 e1 r1 hf1 hp1 => ho φ1 S1 H1 Q x a z g1 r1 hf1 hp1

/-- the same, but for what can't be changed -/
def asM (S : Store) : D → Option (List D)
  | .lst ds => some ds
  | .cell i => (match S[i]? with | some (.lst ds) => some ds | _ => none)
  | _ => none
theorem asM_ok {φ : Nat → Addr} {S : Store} {H : Hp} {x : V} {a : D} {ds : List D} (g : Good c.K c.R φ H S) (r : Rp c.K c.R S.length φ H x a) (h : asM S a = some ds) : ∃ p xs, x = .ref p ∧ H p = some (.lst xs) ∧ Rps c.K c.R S.length φ H xs ds := by
  cases r with
  | lst k _ _ q => cases h; exact ⟨_, _, rfl, k, q⟩
  | cell hi =>
    rename_i i
    have h : (match S[i]? with | some (.lst ds) => some ds | _ => none) = some ds := h
    split at h
    · rename_i e
      cases h
      obtain ⟨xs, e1, q⟩ := g.at_ _ _ e
      exact ⟨_, _, rfl, e1, q⟩
    · cases h
  | _ => cases h
theorem asL_ok {φ : Nat → Addr} {S : Store} {H : Hp} {x : V} {a : D} {ds : List D} (g : Good c.K c.R φ H S) (r : Rp c.K c.R S.length φ H x a) (h : asL S a = some ds) : ∃ p xs, x = .ref p ∧ SqL c.K H p xs ∧ Rps c.K c.R S.length φ H xs ds := by
  have main : asM S a = some ds → ∃ p xs, x = .ref p ∧ SqL c.K H p xs ∧ Rps c.K c.R S.length φ H xs ds := fun h => by
    obtain ⟨p, xs, e, k, q⟩ := asM_ok g r h
    exact ⟨p, xs, e, .of k, q⟩
  cases r with
  | klst k q => cases h; exact ⟨_, _, rfl, k.sq, q⟩
  | frz k q => cases h; exact ⟨_, _, rfl, .inl (.inr ⟨_, k⟩), q⟩
  | lst k _ _ q => exact main h
  | cell hi => exact main h
  | _ => cases h

def guard' {α : Type} (b : Bool) (m : Out α) : Out α := if b then m else none
theorem guard_ok {α : Type} {b : Bool} {m : Out α} {r : Rs α × Store} (h : guard' b m = some r) : b = true ∧ m = some r := by
  unfold guard' at h
  cases b with
  | true => exact ⟨rfl, h⟩
  | false => cases h
@[simp] theorem guard_true {α : Type} (m : Out α) : guard' true m = m := rfl

def line : Nat := 10000000
theorem line_ok {n : Nat} (h : decide (n ≤ line) = true) : n ≤ sizeLine := Nat.le_trans (of_decide_eq_true h) (by decide)
end
end Pv
namespace Pv
open PySem PySem.Spec PyProof.Rows L2
def D.py (S : Store) : D → Option PyData
  | .cell i => (match S[i]? with
    | some (.lst ds) => (match D.pys ds with | some ps => some (.list ps) | none => none)
    | _ => none)
  | d => D.py0 d
section
variable {c : Ct} {n : Nat} {φ : Nat → Addr} {S : Store} {H : Hp}
theorem py_ok {K : PySem.W.Frag} {R : RT} {d : D} {v : V} {p : PyData} (g : Good K R φ H S) (r : Rp K R S.length φ H v d) (h : d.py S = some p) : Dp K H v p := by
  cases d with
  | cell i =>
    simp only [D.py] at h
    cases e : S[i]? with
    | none => rw [e] at h; cases h
    | some q =>
      rw [e] at h
      cases q with
      | dct kvs => cases h
      | dn kvs => cases h
      | lst ds =>
        simp only at h
        cases e2 : D.pys ds with
        | none => rw [e2] at h; cases h
        | some ps =>
          rw [e2] at h
          cases h
          cases r
          obtain ⟨xs, e1, q⟩ := g.at_ _ _ e
          exact .lst (.of e1) (pys_ok _ _ _ q e2)
  | non => exact py0_ok _ _ _ r h
  | bl b => exact py0_ok _ _ _ r h
  | int b => exact py0_ok _ _ _ r h
  | str b => exact py0_ok _ _ _ r h
  | tup b => exact py0_ok _ _ _ r h
  | lst b => exact py0_ok _ _ _ r h
  | frz b => exact py0_ok _ _ _ r h
  | err => cases h
  | ob => cases h
end
def D.sc : D → Option V
  | .non => some .non
  | .bl b => some (.bl b)
  | .int i => some (.int i)
  | .str x => some (.str x)
  | _ => none
theorem sc_ok {K : PySem.W.Frag} {R : RT} {n : Nat} {φ : Nat → Addr} {H : Hp} {d : D} {v w : V} (r : Rp K R n φ H v d) (h : d.sc = some w) : v = w := by
  cases r <;> first | (cases h; rfl) | cases h
/-- == of two scalars of unlike or of one kind -/
def scEq (x y : D) : Option Bool := match x.sc, y.sc with
  | some v, some w => if scal v w then some (decide (v = w)) else none
  | _, _ => none
theorem scEq_ok {K : PySem.W.Frag} {R : RT} {n : Nat} {φ : Nat → Addr} {H : Hp} {x y : D} {v w : V} {b : Bool} (rx : Rp K R n φ H v x) (ry : Rp K R n φ H w y) (h : scEq x y = some b) : scal v w = true ∧ decide (v = w) = b := by
  unfold scEq at h
  split at h
  · rename_i e1 e2
    have h1 := sc_ok rx e1
    have h2 := sc_ok ry e2
    subst h1 h2
    split at h
    · rename_i hs
      cases h
      exact ⟨hs, rfl⟩
    · cases h
  · cases h
def pyEq (S : Store) (x y : D) : Option Bool := match scEq x y with
  | some b => some b
  | none => (match x.py S, y.py S with
    | some p, some q => if SeqAt.shaped p && SeqAt.shaped q then some (PyData.eqv p q) else none
    | _, _ => none)
def oEq (x y : D) (S : Store) : Out D := match pyEq S x y with
  | some b => ret (.bl b) S
  | none => none
def oNe (x y : D) (S : Store) : Out D := match pyEq S x y with
  | some b => ret (.bl (!b)) S
  | none => none
def rEqM (K : PySem.W.Frag) : R2 := fun x y H Q => rEq x y H Q ∨ rEqD K x y H Q
def rNeM (K : PySem.W.Frag) : R2 := fun x y H Q => rNe x y H Q ∨ rNeD K x y H Q
theorem opm_eq {c : Ct} : OpM c (rEqM c.K) oEq := by
  intro φ S H Q x y a b z g rx ry h hp
  unfold oEq at h
  cases e : pyEq S a b with
  | none => rw [e] at h; cases h
  | some k =>
    rw [e] at h
    cases h
    have fin : Q (.bl k) H := hp.now g (.bl k)
    unfold pyEq at e
    split at e
    · rename_i e1
      cases e
      obtain ⟨h1, h2⟩ := scEq_ok rx ry e1
      exact .inl ⟨h1, by rw [h2]; exact fin⟩
    · split at e
      · rename_i p q e1 e2
        split at e
        · rename_i hs
          cases e
          obtain ⟨s1, s2⟩ := Bool.and_eq_true_iff.mp hs
          exact .inr ⟨p, q, py_ok g rx e1, py_ok g ry e2, s1, s2, fin⟩
        · cases e
      · cases e
theorem opm_ne {c : Ct} : OpM c (rNeM c.K) oNe := by
  intro φ S H Q x y a b z g rx ry h hp
  unfold oNe at h
  cases e : pyEq S a b with
  | none => rw [e] at h; cases h
  | some k =>
    rw [e] at h
    cases h
    have fin : Q (.bl (!k)) H := hp.now g (.bl (!k))
    unfold pyEq at e
    split at e
    · rename_i e1
      cases e
      obtain ⟨h1, h2⟩ := scEq_ok rx ry e1
      exact .inl ⟨h1, by rw [h2]; exact fin⟩
    · split at e
      · rename_i p q e1 e2
        split at e
        · rename_i hs
          cases e
          obtain ⟨s1, s2⟩ := Bool.and_eq_true_iff.mp hs
          exact .inr ⟨p, q, py_ok g rx e1, py_ok g ry e2, s1, s2, fin⟩
        · cases e
      · cases e
theorem op_eqM {X : Cx} (hu : X.A.units + 64 < cLine) : OpR X (compareOp .Eq) (rEqM X.K) := OpR.or op_eq (op_eqD hu)
theorem op_neM {X : Cx} (hu : X.A.units + 64 < cLine) : OpR X (compareOp .NotEq) (rNeM X.K) := OpR.or op_ne (op_neD hu)

def oLt (x y : D) (S : Store) : Out D := match x, y with
  | .int i, .int j => ret (.bl (decide (i < j))) S
  | .str i, .str j => ret (.bl (decide (i.cps.toList < j.cps.toList))) S
  | _, _ => none
def oLe (x y : D) (S : Store) : Out D := match x, y with
  | .int i, .int j => ret (.bl (decide (i ≤ j))) S
  | .str i, .str j => ret (.bl (!decide (j.cps.toList < i.cps.toList))) S
  | _, _ => none
def oGt (x y : D) (S : Store) : Out D := match x, y with
  | .int i, .int j => ret (.bl (decide (j < i))) S
  | .str i, .str j => ret (.bl (decide (j.cps.toList < i.cps.toList))) S
  | _, _ => none
def oGe (x y : D) (S : Store) : Out D := match x, y with
  | .int i, .int j => ret (.bl (decide (j ≤ i))) S
  | .str i, .str j => ret (.bl (!decide (i.cps.toList < j.cps.toList))) S
  | _, _ => none
abbrev rStrC (p : Str → Str → Bool) : R2 := fun x y H Q => ∃ i j, x = .str i ∧ y = .str j ∧ Q (.bl (p i j)) H
abbrev rLtM : R2 := fun x y H Q => rI0 (fun i j => .bl (decide (i < j))) x y H Q ∨ rStrC (fun i j => decide (i.cps.toList < j.cps.toList)) x y H Q
abbrev rLeM : R2 := fun x y H Q => rI0 (fun i j => .bl (decide (i ≤ j))) x y H Q ∨ rStrC (fun i j => !decide (j.cps.toList < i.cps.toList)) x y H Q
abbrev rGtM : R2 := fun x y H Q => rI0 (fun i j => .bl (decide (j < i))) x y H Q ∨ rStrC (fun i j => decide (j.cps.toList < i.cps.toList)) x y H Q
abbrev rGeM : R2 := fun x y H Q => rI0 (fun i j => .bl (decide (j ≤ i))) x y H Q ∨ rStrC (fun i j => !decide (i.cps.toList < j.cps.toList)) x y H Q
theorem opm_lt {c : Ct} : OpM c rLtM oLt := by
  intro φ S H Q x y a b z g rx ry h hp
  unfold oLt at h
  split at h
  · cases rx; cases ry; cases h; exact .inl ⟨_, _, rfl, rfl, hp.now g (.bl _)⟩
  · cases rx; cases ry; cases h; exact .inr ⟨_, _, rfl, rfl, hp.now g (.bl _)⟩
  · cases h
theorem opm_le {c : Ct} : OpM c rLeM oLe := by
  intro φ S H Q x y a b z g rx ry h hp
  unfold oLe at h
  split at h
  · cases rx; cases ry; cases h; exact .inl ⟨_, _, rfl, rfl, hp.now g (.bl _)⟩
  · cases rx; cases ry; cases h; exact .inr ⟨_, _, rfl, rfl, hp.now g (.bl _)⟩
  · cases h
theorem opm_gt {c : Ct} : OpM c rGtM oGt := by
  intro φ S H Q x y a b z g rx ry h hp
  unfold oGt at h
  split at h
  · cases rx; cases ry; cases h; exact .inl ⟨_, _, rfl, rfl, hp.now g (.bl _)⟩
  · cases rx; cases ry; cases h; exact .inr ⟨_, _, rfl, rfl, hp.now g (.bl _)⟩
  · cases h
theorem opm_ge {c : Ct} : OpM c rGeM oGe := by
  intro φ S H Q x y a b z g rx ry h hp
  unfold oGe at h
  split at h
  · cases rx; cases ry; cases h; exact .inl ⟨_, _, rfl, rfl, hp.now g (.bl _)⟩
  · cases rx; cases ry; cases h; exact .inr ⟨_, _, rfl, rfl, hp.now g (.bl _)⟩
  · cases h
theorem op_ltM {X : Cx} : OpR X (compareOp .Lt) rLtM := OpR.or op_lt op_lt_str
theorem op_leM {X : Cx} : OpR X (compareOp .LtE) rLeM := OpR.or op_le op_le_str
theorem op_gtM {X : Cx} : OpR X (compareOp .Gt) rGtM := OpR.or op_gt op_gt_str
theorem op_geM {X : Cx} : OpR X (compareOp .GtE) rGeM := OpR.or op_ge op_ge_str

def D.isNon : D → Bool
  | .non => true
  | _ => false
def oIs (neg : Bool) (x y : D) (S : Store) : Out D := match y with
  | .non => ret (.bl (if neg then !x.isNon else x.isNon)) S
  | _ => none
theorem isn_ok {K : PySem.W.Frag} {R : RT} {n : Nat} {φ : Nat → Addr} {H : Hp} {d : D} {v : V} (r : Rp K R n φ H v d) : decide (v = .non) = d.isNon := by
  cases r <;> simp [D.isNon]
theorem opm_is {c : Ct} : OpM c (fun x y H Q => y = .non ∧ Q (.bl (decide (x = .non))) H) (oIs false) := by
  intro φ S H Q x y a b z g rx ry h hp
  unfold oIs at h
  split at h
  · cases ry
    refine ⟨rfl, ?_⟩
    rw [isn_ok rx]
    cases h
    exact hp.now g (.bl _)
  · cases h
theorem opm_isnot {c : Ct} : OpM c (fun x y H Q => y = .non ∧ Q (.bl (!decide (x = .non))) H) (oIs true) := by
  intro φ S H Q x y a b z g rx ry h hp
  unfold oIs at h
  split at h
  · cases ry
    refine ⟨rfl, ?_⟩
    rw [isn_ok rx]
    cases h
    exact hp.now g (.bl _)
  · cases h

def oAdd (x y : D) (S : Store) : Out D := match x, y with
  | .int i, .int j => ret (.int (i + j)) S
  | .str i, .str j => guard' (decide (i.length + j.length ≤ line)) (ret (.str (i ++ j)) S)
  | .tup a, .tup b => guard' (decide (a.length + b.length ≤ line)) (ret (.tup (a ++ b)) S)
  | x, y => (match asM S x with
    | some a => (match asM S y with
      | some b => guard' (decide (a.length + b.length ≤ line)) (ret (.lst (a ++ b)) S)
      | none => none)
    | none => none)
def rAddM (K : PySem.W.Frag) : R2 := fun x y H Q => ((rI0 fun i j => .int (i + j)) x y H Q ∨ (∃ i j, x = .str i ∧ y = .str j ∧ i.length + j.length ≤ sizeLine ∧ Q (.str (i ++ j)) H)) ∨ (rCatA K x y H Q ∨ rCat x y H Q)
theorem op_addM {X : Cx} : OpR X (binaryOp .Add) (rAddM X.K) := OpR.or (OpR.or op_add op_add_str) (OpR.or op_catA op_cat)
theorem new_lst {K : PySem.W.Frag} {R : RT} {φ : Nat → Addr} {S : Store} {H : Hp} {p : Addr} {xs : List V} {ds : List D} (g : Good K R φ H S) (hn : H p = none) (r : Rps K R S.length φ H xs ds) : Rp K R S.length φ (upd H p (.lst xs)) (.ref p) (.lst ds) :=
  .lst upd_same (fun hr => by
    obtain ⟨o, h⟩ := g.off p hr
    rw [hn] at h; cases h) (fun i hi e => by
    obtain ⟨o, h, _⟩ := g.there hi
    rw [← e, hn] at h; cases h) (r.step (Step.new hn))
theorem new_tup {K : PySem.W.Frag} {R : RT} {φ : Nat → Addr} {S : Store} {H : Hp} {p : Addr} {xs : List V} {ds : List D} (hn : H p = none) (r : Rps K R S.length φ H xs ds) : Rp K R S.length φ (upd H p (.tup xs)) (.ref p) (.tup ds) :=
  .tup (.of upd_same) (r.step (Step.new hn))
theorem opm_add {c : Ct} : OpM c (rAddM c.K) oAdd := by
  intro φ S H Q x y a b z g rx ry h hp
  unfold oAdd at h
  split at h
  · cases rx; cases ry; cases h; exact .inl (.inl ⟨_, _, rfl, rfl, hp.now g (.int _)⟩)
  · obtain ⟨hl, h⟩ := guard_ok h
    cases rx; cases ry; cases h; exact .inl (.inr ⟨_, _, rfl, rfl, line_ok hl, hp.now g (.str _)⟩)
  · obtain ⟨hl, h⟩ := guard_ok h
    cases h
    cases rx with
    | tup k1 r1 =>
      cases ry with
      | tup k2 r2 =>
        refine .inr (.inl ⟨_, _, _, _, rfl, rfl, k1, k2, by rw [r1.length, r2.length]; exact line_ok hl, fun e => ?_, fun _ e => ?_, fun _ _ p hn => ?_⟩)
        · subst e
          cases r1
          exact hp.now g (.tup k2 r2)
        · subst e
          cases r2
          rw [List.append_nil] at hp
          exact hp.now g (.tup k1 r1)
        · exact hp.new g hn (new_tup hn (r1.append r2))
  · split at h
    · rename_i e1
      split at h
      · rename_i e2
        obtain ⟨hl, h⟩ := guard_ok h
        cases h
        obtain ⟨p, xs, rfl, k1, r1⟩ := asM_ok g rx e1
        obtain ⟨q, ys, rfl, k2, r2⟩ := asM_ok g ry e2
        exact .inr (.inr ⟨_, _, _, _, rfl, rfl, k1, k2, by rw [r1.length, r2.length]; exact line_ok hl, fun p hn => hp.new g hn (new_lst g hn (r1.append r2))⟩)
      · cases h
    · cases h
def oSub (x y : D) (S : Store) : Out D := match x, y with
  | .int i, .int j => ret (.int (i - j)) S
  | _, _ => none
theorem opm_sub {c : Ct} : OpM c (rI0 fun i j => .int (i - j)) oSub := by
  intro φ S H Q x y a b z g rx ry h hp
  unfold oSub at h
  split at h
  · cases rx; cases ry; cases h; exact ⟨_, _, rfl, rfl, hp.now g (.int _)⟩
  · cases h
/-- a number's size: below 2 ^ 4000 -/
def bits : Nat := 4000
def oMul (x y : D) (S : Store) : Out D := match x, y with
  | .int i, .int j => guard' (decide (i.natAbs.log2 + j.natAbs.log2 < 1000000)) (ret (.int (i * j)) S)
  | .tup a, .int k => guard' (decide (0 ≤ k) && decide (k ≤ 1000) && decide (a.length ≤ 1000)) (ret (.tup (List.replicate k.toNat a).flatten) S)
  | x, .int k => (match asM S x with
    | some a => guard' (decide (0 ≤ k) && decide (k ≤ 1000) && decide (a.length ≤ 100)) (ret (.lst (List.replicate k.toNat a).flatten) S)
    | none => none)
  | _, _ => none
def rMulM (K : PySem.W.Frag) : R2 := fun x y H Q => (rI CMulW fun i j => .int (i * j)) x y H Q ∨ ((rRepT K x y H Q ∨ rRepS K x y H Q) ∨ rRep x y H Q)
theorem op_mulM {X : Cx} : OpR X (binaryOp .Mult) (rMulM X.K) := OpR.or op_mulW (OpR.or (OpR.or op_repT op_repS) op_rep)
theorem Rps.rep {K : PySem.W.Frag} {R : RT} {n : Nat} {φ : Nat → Addr} {H : Hp} {xs : List V} {ds : List D} (r : Rps K R n φ H xs ds) : ∀ k : Nat, Rps K R n φ H (List.replicate k xs).flatten (List.replicate k ds).flatten
  | 0 => .nil
  | k + 1 => by
    rw [List.replicate_succ, List.replicate_succ, List.flatten_cons, List.flatten_cons]
    exact r.append (Rps.rep r k)
theorem opm_mul {c : Ct} : OpM c (rMulM c.K) oMul := by
  intro φ S H Q x y a b z g rx ry h hp
  unfold oMul at h
  split at h
  · obtain ⟨hl, h⟩ := guard_ok h
    cases rx; cases ry; cases h; exact .inl ⟨_, _, rfl, rfl, (of_decide_eq_true hl : _ < _), hp.now g (.int _)⟩
  · obtain ⟨hl, h⟩ := guard_ok h
    cases h
    cases ry
    simp only [Bool.and_eq_true, decide_eq_true_eq] at hl
    obtain ⟨⟨h0, h2⟩, h3⟩ := hl
    cases rx with
    | tup k1 r1 =>
      rename_i al k p0 xs
      by_cases hx : xs = [] ∨ k = 1
      · refine .inr (.inl (.inr ⟨_, _, _, rfl, rfl, k1, .inl ⟨hx, h0, h2, hp.now g ?_⟩⟩))
        rcases hx with hx | hx
        · subst hx
          cases r1
          have e : (List.replicate k.toNat ([] : List D)).flatten = [] := by simp
          rw [e]
          exact .tup k1 .nil
        · subst hx
          have e : (List.replicate (1 : Int).toNat al).flatten = al := by show (List.replicate 1 al).flatten = al; simp
          rw [e]
          exact .tup k1 r1
      · rw [not_or] at hx
        by_cases hk : k = 0
        · subst hk
          exact .inr (.inl (.inr ⟨_, _, _, rfl, rfl, k1, .inr ⟨hx.1, rfl, fun p hn => hp.new g hn (new_tup hn .nil)⟩⟩))
        · exact .inr (.inl (.inl ⟨_, _, _, rfl, rfl, k1, hx.1, by omega, h2, by rw [r1.length]; exact h3, fun p hn => hp.new g hn (new_tup hn (r1.rep _))⟩))
  · split at h
    · rename_i e1
      obtain ⟨hl, h⟩ := guard_ok h
      cases h
      cases ry
      simp only [Bool.and_eq_true, decide_eq_true_eq] at hl
      obtain ⟨⟨h0, h1⟩, h2⟩ := hl
      obtain ⟨p, xs, rfl, k1, r1⟩ := asM_ok g rx e1
      refine .inr (.inr ⟨_, _, _, rfl, rfl, k1, by omega, by omega, ?_, fun p hn => hp.new g hn (new_lst g hn (r1.rep _))⟩)
      rw [r1.length]
      exact Nat.le_trans (Nat.mul_le_mul h2 (Int.toNat_le.mpr h1 : _ ≤ 1000)) (by decide)
    · cases h
  · cases h
def oDiv (x y : D) (S : Store) : Out D := match x, y with
  | .int i, .int j => guard' (decide (0 < j) && decide (j.natAbs.log2 < 9000)) (ret (.int (i / j)) S)
  | _, _ => none
theorem opm_div {c : Ct} : OpM c (rI CDivW fun i j => .int (i / j)) oDiv := by
  intro φ S H Q x y a b z g rx ry h hp
  unfold oDiv at h
  split at h
  · obtain ⟨hl, h⟩ := guard_ok h
    simp only [Bool.and_eq_true, decide_eq_true_eq] at hl
    cases rx; cases ry; cases h; exact ⟨_, _, rfl, rfl, hl, hp.now g (.int _)⟩
  · cases h
def oMod (x y : D) (S : Store) : Out D := match x, y with
  | .int i, .int j => guard' (decide (0 < j)) (ret (.int (i % j)) S)
  | _, _ => none
theorem opm_mod {c : Ct} : OpM c (rI (fun _ j => 0 < j) fun i j => .int (i % j)) oMod := by
  intro φ S H Q x y a b z g rx ry h hp
  unfold oMod at h
  split at h
  · obtain ⟨hl, h⟩ := guard_ok h
    cases rx; cases ry; cases h; exact ⟨_, _, rfl, rfl, of_decide_eq_true hl, hp.now g (.int _)⟩
  · cases h
def oPow (x y : D) (S : Store) : Out D := match x, y with
  | .int i, .int j => guard' (decide (0 ≤ j) && decide (j ≤ 1000) && decide (i.natAbs < 2 ^ 64)) (ret (.int (i ^ j.toNat)) S)
  | _, _ => none
theorem opm_pow {c : Ct} : OpM c (rI CPow fun i j => .int (i ^ j.toNat)) oPow := by
  intro φ S H Q x y a b z g rx ry h hp
  unfold oPow at h
  split at h
  · obtain ⟨hl, h⟩ := guard_ok h
    simp only [Bool.and_eq_true, decide_eq_true_eq] at hl
    cases rx; cases ry; cases h; exact ⟨_, _, rfl, rfl, ⟨hl.1.1, by omega, hl.2⟩, hp.now g (.int _)⟩
  · cases h
def oNeg (x : D) (S : Store) : Out D := match x with
  | .int i => ret (.int (-i)) S
  | _ => none
theorem unm_neg {c : Ct} : UnM c (rU fun i => .int (-i)) oNeg := by
  intro φ S H Q x a z g rx h hp
  unfold oNeg at h
  split at h
  · cases rx; cases h; exact ⟨_, rfl, hp.now g (.int _)⟩
  · cases h
end Pv
namespace Pv
open PySem PySem.Spec PyProof.Rows L2
def truD (S : Store) : D → Option Bool
  | .non => some false
  | .bl b => some b
  | .int i => some (i != 0)
  | .str y => if y.length ≤ line then some ((y.length : Int) != 0) else none
  | .tup ds => some (!ds.isEmpty)
  | .lst ds => some (!ds.isEmpty)
  | .frz ds => some (!ds.isEmpty)
  | .cell i => (match S[i]? with
    | some (.lst ds) => some (!ds.isEmpty)
    | some (.dct kvs) => some (!kvs.isEmpty)
    | _ => none)
  | .err _ _ _ => none
  | .ob _ _ _ => none
theorem empty_len {α β : Type} : ∀ {a : List α} {b : List β}, a.length = b.length → a.isEmpty = b.isEmpty
  | [], [], _ => rfl
  | _ :: _, _ :: _, _ => rfl
  | [], _ :: _, h => by simp at h
  | _ :: _, [], h => by simp at h
theorem tru_ok' {K : PySem.W.Frag} {R : RT} {φ : Nat → Addr} {S : Store} {H : Hp} {v : V} {d : D} {b : Bool} (g : Good K R φ H S) (r : Rp K R S.length φ H v d) (h : truD S d = some b) : TruV K v H b := by
  cases r with
  | non => cases h; rfl
  | bl k => cases h; rfl
  | int i => cases h; rfl
  | str y =>
    have h : (if y.length ≤ line then some ((y.length : Int) != 0) else none) = some b := h
    split at h
    · rename_i hl
      cases h
      exact ⟨Nat.le_trans hl (by decide), rfl⟩
    · cases h
  | tup k r => cases h; exact .inr (.inl ⟨_, k, by rw [r.empty]⟩)
  | lst k _ _ r => cases h; exact .inl ⟨_, .of k, by rw [r.empty]⟩
  | klst k r => cases h; exact .inl ⟨_, k.sq, by rw [r.empty]⟩
  | frz k r => cases h; exact .inl ⟨_, .inl (.inr ⟨_, k⟩), by rw [r.empty]⟩
  | err _ _ _ _ _ _ => cases h
  | ob _ _ _ _ _ _ => cases h
  | cell hi =>
    rename_i i
    have h : (match S[i]? with
      | some (.lst ds) => some (!ds.isEmpty)
      | some (.dct kvs) => some (!kvs.isEmpty)
      | _ => none) = some b := h
    split at h
    · rename_i e
      cases h
      obtain ⟨xs, e1, q⟩ := g.at_ _ _ e
      exact .inl ⟨xs, .of e1, by rw [q.empty]⟩
    · rename_i e
      cases h
      obtain ⟨ps, e1, ek, q⟩ := g.at_ _ _ e
      refine .inr (.inr ⟨ps, e1, ?_⟩)
      have := q.length
      simp only [List.length_map] at this
      rw [empty_len this]
    · cases h
/-- what d's truth decides -/
def byT {α : Type} (S : Store) (d : D) (k : Bool → Out α) : Out α := match truD S d with
  | some b => k b
  | none => none
theorem byT_ok {α : Type} {S : Store} {d : D} {k : Bool → Out α} {r : Rs α × Store} (h : byT S d k = some r) : ∃ b, truD S d = some b ∧ k b = some r := by
  unfold byT at h
  split at h
  · rename_i b e
    exact ⟨b, e, h⟩
  · cases h
def eTru (f : Env → Store → Out D) (ρ : Env) (S : Store) : Out Bool := bnd (f ρ S) fun d S1 => byT S1 d fun b => ret b S1
def eOr (fa fb : Env → Store → Out D) (ρ : Env) (S : Store) : Out D := bnd (fa ρ S) fun d S1 => byT S1 d fun b => if b then ret d S1 else fb ρ S1
def eAnd (fa fb : Env → Store → Out D) (ρ : Env) (S : Store) : Out D := bnd (fa ρ S) fun d S1 => byT S1 d fun b => if b then fb ρ S1 else ret d S1
def eNot (f : Env → Store → Out D) (ρ : Env) (S : Store) : Out D := bnd (f ρ S) fun d S1 => byT S1 d fun b => ret (.bl (!b)) S1
def bOr (fa fb : Env → Store → Out Bool) (ρ : Env) (S : Store) : Out Bool := bnd (fa ρ S) fun d S1 => if d then ret true S1 else fb ρ S1
def bAnd (fa fb : Env → Store → Out Bool) (ρ : Env) (S : Store) : Out Bool := bnd (fa ρ S) fun d S1 => if d then fb ρ S1 else ret false S1
def bNot (f : Env → Store → Out Bool) (ρ : Env) (S : Store) : Out Bool := bnd (f ρ S) fun d S1 => ret (!d) S1
def eIf (t : Env → Store → Out Bool) (fa fb : Env → Store → Out D) (ρ : Env) (S : Store) : Out D := bnd (t ρ S) fun d S1 => if d then fa ρ S1 else fb ρ S1
section
variable {X : Cx} {c : Ct} {a b : Expr} {rest : List Expr} {pos : Pos} {fa fb : Env → Store → Out D} {ta tb : Env → Store → Out Bool}
theorem m_tru (hK : c.K = X.K) (ha : PE X a (mE c fa)) (he : ∀ whole, isTrue a X.env whole = (do let v ← whole; standAt a.pos; holding [v] (truthy v))) : PT X a (mB c (eTru fa)) := by
  refine pt_weak (pt_truth ha he) fun σ H Q ⟨φ, S, ρ, z, hg, hr, hf, hp⟩ => ?_
  refine Wp.fst hg hr hf hp fun d S1 v φ1 H1 s1 g1 e1 r1 hf1 hp1 => ?_
  obtain ⟨k, h1, h2⟩ := byT_ok hf1
  cases h2
  exact ⟨k, by rw [← hK]; exact tru_ok' g1 r1 h1, hp1.now g1 rfl⟩
theorem m_or (hK : c.K = X.K) (ha : PE X a (mE c fa)) (hb : PE X (.BoolOp .Or (b :: rest) pos) (mE c fb)) : PE X (.BoolOp .Or (a :: b :: rest) pos) (mE c (eOr fa fb)) := by
  refine pe_weak (pe_orT ha hb) fun σ H Q ⟨φ, S, ρ, z, hg, hr, hf, hp⟩ => ?_
  refine Wp.fst hg hr hf hp fun d S1 v φ1 H1 s1 g1 e1 r1 hf1 hp1 => ?_
  obtain ⟨k, h1, h2⟩ := byT_ok hf1
  refine ⟨k, by rw [← hK]; exact tru_ok' g1 r1 h1, ?_⟩
  cases k with
  | true =>
    cases h2
    exact iteT (hp1.now g1 r1)
  | false => exact iteF ⟨φ1, S1, ρ, z, g1, e1, h2, hp1⟩
theorem m_and (hK : c.K = X.K) (ha : PE X a (mE c fa)) (hb : PE X (.BoolOp .And (b :: rest) pos) (mE c fb)) : PE X (.BoolOp .And (a :: b :: rest) pos) (mE c (eAnd fa fb)) := by
  refine pe_weak (pe_andT ha hb) fun σ H Q ⟨φ, S, ρ, z, hg, hr, hf, hp⟩ => ?_
  refine Wp.fst hg hr hf hp fun d S1 v φ1 H1 s1 g1 e1 r1 hf1 hp1 => ?_
  obtain ⟨k, h1, h2⟩ := byT_ok hf1
  refine ⟨k, by rw [← hK]; exact tru_ok' g1 r1 h1, ?_⟩
  cases k with
  | false =>
    cases h2
    exact iteF (hp1.now g1 r1)
  | true => exact iteT ⟨φ1, S1, ρ, z, g1, e1, h2, hp1⟩
theorem m_not (hK : c.K = X.K) (ha : PE X a (mE c fa)) : PE X (.UnaryOp .Not a pos) (mE c (eNot fa)) := by
  refine pe_weak (pe_notT ha) fun σ H Q ⟨φ, S, ρ, z, hg, hr, hf, hp⟩ => ?_
  refine Wp.fst hg hr hf hp fun d S1 v φ1 H1 s1 g1 e1 r1 hf1 hp1 => ?_
  obtain ⟨k, h1, h2⟩ := byT_ok hf1
  cases h2
  exact ⟨k, by rw [← hK]; exact tru_ok' g1 r1 h1, hp1.now g1 (.bl _)⟩
theorem b_or (ha : PT X a (mB c ta)) (hb : PW X (.BoolOp .Or (b :: rest) pos) (mB c tb)) : PW X (.BoolOp .Or (a :: b :: rest) pos) (mB c (bOr ta tb)) := by
  refine pw_weak (pw_or ha hb) fun σ H Q ⟨φ, S, ρ, z, hg, hr, hf, hp⟩ => ?_
  refine Wp.fst hg hr hf hp fun d S1 v φ1 H1 s1 g1 e1 r1 hf1 hp1 => ?_
  cases r1
  cases d with
  | true =>
    cases hf1
    exact iteT (hp1.now g1 rfl)
  | false => exact iteF ⟨φ1, S1, ρ, z, g1, e1, hf1, hp1⟩
theorem b_and (ha : PT X a (mB c ta)) (hb : PW X (.BoolOp .And (b :: rest) pos) (mB c tb)) : PW X (.BoolOp .And (a :: b :: rest) pos) (mB c (bAnd ta tb)) := by
  refine pw_weak (pw_and ha hb) fun σ H Q ⟨φ, S, ρ, z, hg, hr, hf, hp⟩ => ?_
  refine Wp.fst hg hr hf hp fun d S1 v φ1 H1 s1 g1 e1 r1 hf1 hp1 => ?_
  cases r1
  cases d with
  | false =>
    cases hf1
    exact iteF (hp1.now g1 rfl)
  | true => exact iteT ⟨φ1, S1, ρ, z, g1, e1, hf1, hp1⟩
theorem b_not (ha : PT X a (mB c ta)) : PT X (.UnaryOp .Not a pos) (mB c (bNot ta)) := by
  refine pt_weak (pt_not ha) fun σ H Q ⟨φ, S, ρ, z, hg, hr, hf, hp⟩ => ?_
  refine Wp.fst hg hr hf hp fun d S1 v φ1 H1 s1 g1 e1 r1 hf1 hp1 => ?_
  cases r1
  cases hf1
  exact hp1.now g1 rfl
theorem m_if {t : Expr} (ht : PT X t (mB c ta)) (ha : PE X a (mE c fa)) (hb : PE X b (mE c fb)) : PE X (.IfExp t a b pos) (mE c (eIf ta fa fb)) := by
  refine pe_weak (pe_ifExp ht ha hb) fun σ H Q ⟨φ, S, ρ, z, hg, hr, hf, hp⟩ => ?_
  refine Wp.fst hg hr hf hp fun d S1 v φ1 H1 s1 g1 e1 r1 hf1 hp1 => ?_
  cases r1
  cases d with
  | false => exact iteF ⟨φ1, S1, ρ, z, g1, e1, hf1, hp1⟩
  | true => exact iteT ⟨φ1, S1, ρ, z, g1, e1, hf1, hp1⟩

theorem m_cmp {op : CmpOp} {r : R2} {o : D → D → Store → Out D} (ho : OpR X (compareOp op) r) (hm : OpM c r o) (ha : PE X a (mE c fa)) (hb : PE X b (mE c fb)) (hk : behindInMarks op b = false) : PE X (.Compare a [op] [b] pos) (mE c (eBin o fa fb)) :=
  pe_weak (pe_cmpR ho ha hb hk) fun σ H Q h => m_bin hm h
theorem b_cmp {op : CmpOp} {r : R2} {o : D → D → Store → Out D} (ho : OpR X (compareOp op) r) (hm : OpM c r o) (ha : PE X a (mE c fa)) (hb : PE X b (mE c fb)) (hk : behindInMarks op b = false)
    (hbl : ∀ x y S d S', o x y S = some (.ok d, S') → ∃ k, d = .bl k) : PT X (.Compare a [op] [b] pos) (mB c (eTru (eBin o fa fb))) := by
  refine pt_weak (pt_cmpR ho ha hb hk) fun σ H Q ⟨φ, S, ρ, z, hg, hr, hf, hp⟩ => ?_
  refine m_bin hm ?_
  have hbl' : ∀ d S', eBin o fa fb ρ S = some (.ok d, S') → ∃ k, d = .bl k := fun d S' e => by
    unfold eBin at e
    cases e1 : fa ρ S with
    | none => rw [e1] at e; cases e
    | some q =>
      obtain ⟨q, S1⟩ := q
      rw [e1] at e
      cases q with
      | ex x => cases e
      | ok x =>
        simp only [bnd_ok] at e
        cases e2 : fb ρ S1 with
        | none => rw [e2] at e; cases e
        | some q =>
          obtain ⟨q, S2⟩ := q
          rw [e2] at e
          cases q with
          | ex x => cases e
          | ok y => exact hbl _ _ _ _ _ e
  cases e : eBin o fa fb ρ S with
  | none =>
    unfold eTru at hf
    rw [e] at hf; cases hf
  | some q =>
    obtain ⟨q, S1⟩ := q
    unfold eTru at hf
    rw [e] at hf
    refine ⟨φ, S, ρ, _, hg, hr, e, ?_⟩
    cases q with
    | ex x => cases hf; exact hp
    | ok d =>
      obtain ⟨k, rfl⟩ := hbl' d S1 e
      cases hf
      refine fun v φ' H' s g rv => ?_
      cases rv
      exact ⟨k, rfl, hp k φ' H' s g rfl⟩
/-- a op1 b op2 c -/
def chK (o' : D → D → Store → Out D) (fd : Env → Store → Out D) (ρ : Env) (y : D) (w : D) (S : Store) : Out D := match w with
  | .bl true => bnd (fd ρ S) fun z S4 => o' y z S4
  | .bl false => ret (.bl false) S
  | _ => none
def eChain (o o' : D → D → Store → Out D) (fa fb fd : Env → Store → Out D) (ρ : Env) (S : Store) : Out D :=
  bnd (fa ρ S) fun x S1 => bnd (fb ρ S1) fun y S2 => bnd (o x y S2) fun d S3 => chK o' fd ρ y d S3
end
def eTup (fs : Env → Store → Out (List D)) (ρ : Env) (S : Store) : Out D := bnd (fs ρ S) fun ds S1 => guard' (decide (ds.length ≤ line)) (ret (.tup ds) S1)
def eLst (fs : Env → Store → Out (List D)) (ρ : Env) (S : Store) : Out D := bnd (fs ρ S) fun ds S1 => guard' (decide (ds.length ≤ line)) (ret (.lst ds) S1)
section
variable {X : Cx} {c : Ct} {e : Expr} {es : List Expr} {pos : Pos} {f : Env → Store → Out D} {fs : Env → Store → Out (List D)}
theorem m_nil : PA X [] (mA c eNil) := by
  refine pa_weak pa_nil fun σ H Q h => ?_
  exact Wp.con (b := ([] : List V)) h fun _ _ => .nil
theorem m_cons (hs : starEach (e :: es) X.env = (false, eval e X.env) :: starEach es X.env) (h : PE X e (mE c f)) (hr : PA X es (mA c fs)) : PA X (e :: es) (mA c (eCons f fs)) := by
  refine pa_weak (pa_cons h hr hs) fun σ H Q ⟨φ, S, ρ, z, hg, hr, hf, hp⟩ => ?_
  refine Wp.fst hg hr hf hp fun d S1 v φ1 H1 s1 g1 e1 r1 hf1 hp1 => ?_
  refine Wp.fst g1 e1 hf1 hp1 fun ds S2 vs φ2 H2 s2 g2 e2 r2 hf2 hp2 => ?_
  cases hf2
  exact hp2.now g2 (.cons (Rp.step s2 r1) r2)
theorem m_tup {k : Nat} (h : PA X es (mA c fs)) : PE X (.Tuple es k pos) (mE c (eTup fs)) := by
  refine pe_weak (pe_tup h) fun σ H Q ⟨φ, S, ρ, z, hg, hr, hf, hp⟩ => ?_
  refine Wp.fst hg hr hf hp fun ds S1 vs φ1 H1 s1 g1 e1 r1 hf1 hp1 => ?_
  obtain ⟨hl, hf1⟩ := guard_ok hf1
  cases hf1
  refine ⟨by rw [Rps.length r1]; exact line_ok hl, fun p hn => hp1.new g1 hn (new_tup hn r1)⟩
theorem m_lst (h : PA X es (mA c fs)) : PE X (.List es pos) (mE c (eLst fs)) := by
  refine pe_weak (pe_lst h) fun σ H Q ⟨φ, S, ρ, z, hg, hr, hf, hp⟩ => ?_
  refine Wp.fst hg hr hf hp fun ds S1 vs φ1 H1 s1 g1 e1 r1 hf1 hp1 => ?_
  obtain ⟨hl, hf1⟩ := guard_ok hf1
  cases hf1
  refine ⟨by rw [Rps.length r1]; exact line_ok hl, fun p hn => hp1.new g1 hn (new_lst g1 hn r1)⟩
end
theorem ix_dict {X : Cx} (hu : X.A.units + 1 < cLine) : IxR X (fun x y H Q => ∃ a v, x = .ref a ∧ DGet H a y (some v) ∧ Q v H) := by
  intro value slice pins s σ H x y v u Q I rx ry h hs
  obtain ⟨a, w, rfl, g, q⟩ := h
  obtain rfl : v = Value.ref a := rx
  exact tail_any (dict_typeIs I g) PySem.F.slot_dict_getitem.lookup (d_getItem hu I g ry fun w' s' I' r' => ⟨w, H, I', r', q⟩) hs
def dKey : D → Option Key
  | .int i => some (.inl i)
  | .str x => some (.inr x)
  | _ => none
theorem key_ok {K : PySem.W.Frag} {R : RT} {n : Nat} {φ : Nat → Addr} {H : Hp} {d : D} {v : V} {k : Key} (r : Rp K R n φ H v d) (h : dKey d = some k) : v = kV k := by
  cases r <;> first | (cases h; rfl) | cases h
def valD : List (Key × D) → Key → Option D
  | [], _ => none
  | (k', d) :: r, k => if k' = k then some d else valD r k
theorem val_ok {K : PySem.W.Frag} {R : RT} {n : Nat} {φ : Nat → Addr} {H : Hp} {k : Key} : ∀ {ps : List (Key × V)} {kvs : List (Key × D)}, ps.map (·.1) = kvs.map (·.1) → Rps K R n φ H (ps.map (·.2)) (kvs.map (·.2)) →
    (∀ d, valD kvs k = some d → ∃ v, valV ps k = some v ∧ Rp K R n φ H v d) ∧ (valD kvs k = none → valV ps k = none)
  | [], [], _, _ => ⟨(fun _ h => nomatch h), fun _ => rfl⟩
  | [], _ :: _, e, _ => by simp at e
  | _ :: _, [], e, _ => by simp at e
  | (k1, v1) :: ps, (k2, d2) :: kvs, e, r => by
    simp only [List.map_cons, List.cons.injEq] at e
    obtain ⟨e1, e2⟩ := e
    subst e1
    cases r with
    | cons r rs =>
      have ih := val_ok (k := k) e2 rs
      unfold valD valV
      rw [List.find?_cons]
      by_cases h : k1 = k
      · rw [if_pos h, decide_eq_true h]
        exact ⟨fun d e => by cases e; exact ⟨_, rfl, r⟩, (fun e => nomatch e)⟩
      · rw [if_neg h, decide_eq_false h]
        exact ih
def rIxM (K : PySem.W.Frag) : R2 := fun x y H Q => rIx K x y H Q ∨ ∃ a v, x = .ref a ∧ DGet H a y (some v) ∧ Q v H
theorem ix_M {X : Cx} (hu : X.A.units + 1 < cLine) : IxR X (rIxM X.K) := IxR.or ix_seq (ix_dict hu)
def oIx (x y : D) (S : Store) : Out D := match x, y with
  | .str z, .int i => guard' (decide (z.length ≤ line)) (match atI z.cps.toList i with
    | some k => ret (.str ⟨#[k]⟩) S
    | none => none)
  | .tup ds, .int i => (match atI ds i with
    | some d => ret d S
    | none => none)
  | .cell j, k => (match S[j]? with
    | some (.dct kvs) => (match dKey k with
      | some k => (match valD kvs k with
        | some d => ret d S
        | none => none)
      | none => none)
    | some (.lst ds) => (match k with
      | .int i => (match atI ds i with
        | some d => ret d S
        | none => none)
      | _ => none)
    | _ => none)
  | x, .int i => (match asL S x with
    | some ds => (match atI ds i with
      | some d => ret d S
      | none => none)
    | none => none)
  | _, _ => none
theorem atI_rel {K : PySem.W.Frag} {R : RT} {n : Nat} {φ : Nat → Addr} {H : Hp} {vs : List V} {ds : List D} {i : Int} {d : D} (r : Rps K R n φ H vs ds) (h : atI ds i = some d) : ∃ v, atI vs i = some v ∧ Rp K R n φ H v d := by
  unfold atI at h ⊢
  rw [r.length]
  cases e : ixN ds.length i with
  | none => rw [e] at h; cases h
  | some j =>
    rw [e] at h
    exact r.get (by simpa using h)
theorem opm_ix {c : Ct} : OpM c (rIxM c.K) oIx := by
  intro φ S H Q x y a b z g rx ry h hp
  unfold oIx at h
  split at h
  · obtain ⟨hl, h⟩ := guard_ok h
    cases rx; cases ry
    split at h
    · rename_i e
      cases h
      exact .inl (.inr (.inr ⟨_, _, _, rfl, rfl, line_ok hl, e, hp.now g (.str _)⟩))
    · cases h
  · cases ry
    cases rx with
    | tup k r =>
      split at h
      · rename_i e
        cases h
        obtain ⟨v, e1, r1⟩ := atI_rel r e
        exact .inl (.inr (.inl ⟨_, _, _, v, rfl, rfl, k, e1, hp.now g r1⟩))
      · cases h
  · cases rx with
    | cell hi =>
      split at h
      · rename_i e
        split at h
        · rename_i ek
          split at h
          · rename_i ev
            cases h
            obtain ⟨ps, e1, e2, r⟩ := g.at_ _ _ e
            obtain ⟨v, hv, rv⟩ := (val_ok e2 r).1 _ ev
            have := key_ok ry ek
            subst this
            exact .inr ⟨_, v, rfl, by rw [← hv]; exact .k e1, hp.now g rv⟩
          · cases h
        · cases h
      · rename_i e
        split at h
        · cases ry
          split at h
          · rename_i ev
            cases h
            obtain ⟨xs, e1, r⟩ := g.at_ _ _ e
            obtain ⟨v, e2, r1⟩ := atI_rel r ev
            exact .inl (.inl ⟨_, _, _, v, rfl, rfl, .of e1, e2, hp.now g r1⟩)
          · cases h
        · cases h
      · cases h
  · split at h
    · rename_i e
      split at h
      · rename_i ev
        cases h
        cases ry
        obtain ⟨p, xs, rfl, k, r⟩ := asL_ok g rx e
        obtain ⟨v, e2, r1⟩ := atI_rel r ev
        exact .inl (.inl ⟨_, _, _, v, rfl, rfl, k, e2, hp.now g r1⟩)
      · cases h
    · cases h
  · cases h
end Pv
namespace Pv
open PySem PySem.Spec PyProof.Rows L2 PySem.Calls
section
variable {X : Cx} {c : Ct} {a b d : Expr} {pos : Pos} {fa fb fd : Env → Store → Out D}
@[simp] theorem chK_t (o' : D → D → Store → Out D) (fd : Env → Store → Out D) (ρ : Env) (y : D) (S : Store) : chK o' fd ρ y (.bl true) S = bnd (fd ρ S) fun z S4 => o' y z S4 := rfl
end
def cutG {α : Type} (xs : List α) (lo hi : Option Int) : List α := (xs.drop (HT.sIx xs.length 0 lo)).take (HT.sIx xs.length xs.length hi - HT.sIx xs.length 0 lo)
theorem Rps.cut {K : PySem.W.Frag} {R : RT} {n : Nat} {φ : Nat → Addr} {H : Hp} {vs : List V} {ds : List D} (r : Rps K R n φ H vs ds) (lo hi : Option Int) : Rps K R n φ H (cutV vs lo hi) (cutG ds lo hi) := by
  unfold cutV cutG
  rw [r.length]
  exact (r.drop _).take _
theorem cutG_whole {α : Type} {xs : List α} {lo hi : Option Int} (h : HT.sIx xs.length 0 lo = 0 ∧ HT.sIx xs.length xs.length hi = xs.length) : cutG xs lo hi = xs := by
  unfold cutG
  rw [h.1, h.2]
  simp
def oSl (x : D) (lo hi : Option Int) (S : Store) : Out D := match x with
  | .str z => guard' (decide (z.length ≤ line)) (ret (.str (cutS z lo hi)) S)
  | .tup ds => ret (.tup (cutG ds lo hi)) S
  | x => (match asL S x with
    | some ds => ret (.lst (cutG ds lo hi)) S
    | none => none)
def rSlM (K : PySem.W.Frag) : V → Option Int → Option Int → Hp → VK → Prop := fun x lo hi H Q => rSlS x lo hi H Q ∨ (rSlA K x lo hi H Q ∨ rSlL K x lo hi H Q)
theorem sl_M {X : Cx} : SlR X (rSlM X.K) := SlR.or sl_str (SlR.or sl_tupA sl_list)
theorem slm {c : Ct} {φ : Nat → Addr} {S : Store} {H : Hp} {Q : VK} {x : V} {a : D} {lo hi : Option Int} {z : Rs D × Store} (g : Good c.K c.R φ H S) (rx : Rp c.K c.R S.length φ H x a) (h : oSl a lo hi S = some z) (hp : Post c (RV c) φ S H Q z) : rSlM c.K x lo hi H Q := by
  unfold oSl at h
  split at h
  · obtain ⟨hl, h⟩ := guard_ok h
    cases rx
    cases h
    exact .inl ⟨_, rfl, line_ok hl, hp.now g (.str _)⟩
  · cases rx with
    | tup k r =>
      cases h
      refine .inr (.inl ⟨_, _, rfl, k, fun e => ?_, fun _ p hn => hp.new g hn (new_tup hn (r.cut lo hi))⟩)
      rw [r.length] at e
      rw [cutG_whole e] at hp
      exact hp.now g (.tup k r)
  · split at h
    · rename_i e
      cases h
      obtain ⟨p, xs, rfl, k, r⟩ := asL_ok g rx e
      exact .inr (.inr ⟨_, _, rfl, k, fun p hn => hp.new g hn (new_lst g hn (r.cut lo hi))⟩)
    · cases h
/-- a slice's end: none, or a number -/
def ePart (f : Option (Env → Store → Out D)) (ρ : Env) (S : Store) : Out (Option Int) := match f with
  | none => ret none S
  | some f => bnd (f ρ S) fun d S1 => match d with
    | .int i => ret (some i) S1
    | _ => none
def RO : RelT (Option Int) (Option Int) := fun _ _ _ a b => a = b
def eSl (f : Env → Store → Out D) (lo hi : Option (Env → Store → Out D)) (ρ : Env) (S : Store) : Out D := bnd (f ρ S) fun d S1 => bnd (ePart lo ρ S1) fun l S2 => bnd (ePart hi ρ S2) fun h S3 => oSl d l h S3
section
variable {X : Cx} {c : Ct} {e : Expr} {f : Env → Store → Out D} {pos p2 : Pos}
/-- a part's reading -/
def MPart (X : Cx) (c : Ct) : Option Expr → Option (Env → Store → Out D) → Prop
  | none, none => True
  | some e, some f => PE X e (mE c f)
  | _, _ => False
theorem m_part {o : Option Expr} {fo : Option (Env → Store → Out D)} (h : MPart X c o fo) : ∃ t, PO X o t ∧ ∀ σ H Q, Wp c RO (ePart fo) σ H Q → t σ H Q := by
  cases o with
  | none =>
    cases fo with
    | some _ => cases h
    | none => exact ⟨_, po_none, fun σ H Q h => Wp.con (b := (none : Option Int)) h fun _ _ => rfl⟩
  | some e =>
    cases fo with
    | none => cases h
    | some f =>
      refine ⟨_, po_some h, fun σ H Q ⟨φ, S, ρ, z, hg, hr, hf, hp⟩ => ?_⟩
      refine Wp.fst hg hr hf hp fun d S1 v φ1 H1 s1 g1 e1 r1 hf1 hp1 => ?_
      split at hf1
      · cases r1
        cases hf1
        exact ⟨_, rfl, hp1.now g1 rfl⟩
      · cases hf1
theorem m_sl {lo hi : Option Expr} {fl fh : Option (Env → Store → Out D)} (hK : c.K = X.K) (he : PE X e (mE c f)) (hl : MPart X c lo fl) (hh : MPart X c hi fh) : PE X (.Subscript e (.Slice lo hi none p2) pos) (mE c (eSl f fl fh)) := by
  obtain ⟨tl, h1, h2⟩ := m_part hl
  obtain ⟨th, h3, h4⟩ := m_part hh
  refine pe_weak (pe_slice sl_M he h1 h3) fun σ H Q ⟨φ, S, ρ, z, hg, hr, hf, hp⟩ => ?_
  refine Wp.fst hg hr hf hp fun d S1 v φ1 H1 s1 g1 e1 r1 hf1 hp1 => h2 _ _ _ ?_
  refine Wp.fst g1 e1 hf1 hp1 fun l S2 w φ2 H2 s2 g2 e2 r2 hf2 hp2 => h4 _ _ _ ?_
  refine Wp.fst g2 e2 hf2 hp2 fun h S3 y φ3 H3 s3 g3 e3 r3 hf3 hp3 => ?_
  cases r2
  cases r3
  rw [← hK]
  exact slm g3 (Rp.step s3 (Rp.step s2 r1)) hf3 hp3
def oRev (x : D) (S : Store) : Out D := match x with
  | .tup ds => ret (.tup ds.reverse) S
  | x => (match asL S x with
    | some ds => ret (.lst ds.reverse) S
    | none => none)
end
section
variable {prog : Program} {w : World} {A : Around} {E : Value → Shared → Prop} {s : Shared}
theorem rev_places (n : Nat) : Builtin.Slice.slicePlaces ((n : Int) - 1) (-1) (-1) = n := by
  unfold Builtin.Slice.slicePlaces
  have h1 : ¬ ((-1 : Int) > 0) := by decide
  have e : (- -1 : Int) = 1 := by decide
  simp only [h1, if_false, e, Int.ediv_one]
  split <;> omega
theorem rev_items (xs : Array Value) : ((List.range xs.size).filterMap fun (k : Nat) => xs[(((xs.size : Int) - 1) + (k : Int) * (-1)).toNat]?).toArray = xs.toList.reverse.toArray := by
  have e : ((List.range xs.size).filterMap fun (k : Nat) => xs[(((xs.size : Int) - 1) + (k : Int) * (-1)).toNat]?) = ((List.range xs.size).map fun k => xs.size - 1 - k).filterMap (xs[·]?) := by
    rw [List.filterMap_map]
    refine congrArg (fun f => List.filterMap f _) (funext fun k => ?_)
    have q : (((xs.size : Int) - 1) + (k : Int) * (-1)).toNat = xs.size - 1 - k := by omega
    show xs[_]? = xs[_]?
    rw [q]
  rw [e, PySem.W.krv_range, List.filterMap_reverse, PySem.W.krv_all]
theorem rev_applied {sl : Addr} {vs : Value} {n : Nat} {Q : Int × Int × Nat → Shared → Prop} (hs : s.heap.IsSliceOf sl .none .none vs) (ps : IsPart vs (some (-1)))
    (h : Q ((n : Int) - 1, -1, n) s) : wpAny (model prog w) A (Builtin.Slice.sliceApplied (.ref sl) (pure (n : Int))) Q E s := by
  obtain ⟨os, hos, hcs, hds⟩ := id hs
  unfold Builtin.Slice.sliceApplied Builtin.Slice.sliceFields
  refine wpAny_bind (wpAny_bind (wpAny_field hos hds (x := .none) rfl (wpAny_bind (wpAny_field hos hds (x := .none) rfl (wpAny_bind (wpAny_field hos hds (x := vs) rfl (wpAny_pure ?_)))))))
  refine wpAny_bind (HT.slicePart_ ps ?_)
  show wpAny _ _ (if ((-1 : Int) == 0) = true then _ else _) _ _ s
  rw [if_neg (by decide)]
  refine wpAny_bind (HT.slicePart_ .none (wpAny_bind (HT.slicePart_ .none (wpAny_bind (wpAny_pure ?_)))))
  show wpAny _ _ (pure ((n : Int) - 1, (-1 : Int), Builtin.Slice.slicePlaces ((n : Int) - 1) (-1) (-1))) _ _ s
  rw [rev_places]
  exact wpAny_pure h
theorem getItem_tuple_rev {t sl : Addr} {items : Array Value} {vs : Value} {Q : Value → Shared → Prop} (ht : IsTup s.heap t items) (hs : s.heap.IsSliceOf sl .none .none vs) (ps : IsPart vs (some (-1)))
    (h : Q (.ref s.heap.objs.size) { s with heap := s.heap.push { cls := .type "tuple", data := .seq items.toList.reverse.toArray } })
    (hsz : items.size ≤ sizeLine) : wpAny (model prog w) A (getItem (.ref t) (.ref sl)) Q E s := by
  have htake : sizeOk (.seq items.toList.reverse.toArray) := by
    show items.toList.reverse.toArray.size ≤ sizeLine
    rw [List.size_toArray, List.length_reverse, Array.length_toList]
    omega
  obtain ⟨os, hos, hcs, hds⟩ := id hs
  have hTs : s.TypeIs (.ref sl) "slice" := ⟨os, hos, hcs⟩
  unfold getItem
  try with_reducible refine wpAny_holding ?_
  first | refine wpAny_bind (wpAny_pure ?_) | skip
  refine wpAny_bind (wpAny_sequenceKey ht.typeIs (by decide) ?_)
  refine wpAny_bind (wpAny_callSpecial?_slot (name := Str.ofString "__getitem__") ht.typeIs PyProof.Rows.slot_tuple_getitem
    (wpAny_call_entry PyProof.Rows.slot_tuple_getitem ht.typeIs entry_tuple_getitem ?_ (args_tuple_getitem _ _)))
  show wpAny _ _ (Builtin.Tuple.tupleItemsOf (.ref t) >>= _) _ _ s
  refine wpAny_bind (tupleItemsOf_ ht ?_)
  refine wpAny_bind (wpAny_typeOf hTs ?_)
  rw [if_pos (by decide)]
  refine wpAny_bind (rev_applied hs ps ?_)
  have hno : ¬ ((((items.size : Int) - 1) == 0 && (-1 : Int) == 1 && items.size == items.size) = true) := by
    intro q
    rw [Bool.and_eq_true, Bool.and_eq_true] at q
    exact absurd q.1.2 (by decide)
  show wpAny _ _ (if (((items.size : Int) - 1) == 0 && (-1 : Int) == 1 && items.size == items.size) = true then _ else _) _ _ s
  rw [if_neg hno, rev_items]
  first
    | exact wpAny_bind (m := Builtin.Tuple.tupleExact _) (wpAny_newObj_type (wpAny_pure ⟨_, rfl, wpAny_pure h⟩) htake)
    | exact wpAny_bind (m := Builtin.Tuple.tupleExact _) (wpAny_newObj_type (wpAny_bind (wpAny_pure (wpAny_pure ⟨_, rfl, wpAny_pure h⟩))) htake)
    | exact wpAny_bind (wpAny_bind (m := Builtin.Tuple.tupleExact _) (wpAny_newObj_type (wpAny_pure (wpAny_pure ⟨_, rfl, wpAny_pure h⟩)) htake))
    | exact wpAny_bind (wpAny_bind (m := Builtin.Tuple.tupleExact _) (wpAny_newObj_type (wpAny_pure ⟨_, rfl, wpAny_pure h⟩) htake))
end
def tRevA (K : PySem.W.Frag) (te : TE) : TE := fun σ H Q => te σ H fun x H1 => ∃ a xs, x = .ref a ∧ ((SqL K H1 a xs ∧ ∀ p, H1 p = none → Q (.ref p) (upd H1 p (.lst xs.reverse))) ∨ (SqT K H1 a xs ∧ ∀ p, H1 p = none → Q (.ref p) (upd H1 p (.tup xs.reverse))))
section
variable {X : Cx} {c : Ct} {e : Expr} {f : Env → Store → Out D} {te : TE} {pos p2 : Pos}
theorem pe_revA {k : Nat} {p1 p2 p3 pos : Pos} (he : PE X e te) : PE X (.Subscript e (.Slice none none (some (.UnaryOp .USub (.Constant (.int 1) k p1) p2)) p3) pos) (tRevA X.K te) := by
  refine ⟨fun pins s σ H Q I h => ?_⟩
  refine Subscript_ (thn (he.run pins s σ H _ I h) fun v s1 ⟨x, H1, I1, r1, q1⟩ => ?_)
  obtain ⟨a, xs, ex, hxq⟩ := q1
  subst ex
  cases r1
  have hst : PO X (some (.UnaryOp .USub (.Constant (.int 1) k p1) p2)) (tPart (tUn (rU fun i => .int (-i)) (tC (.int 1)))) := po_some (pe_un un_neg pe_int)
  refine wpAny_Slice (thn (po_none.run pins s1 σ H1 (fun o H2 => o = none ∧ H2 = H1) I1 ⟨rfl, rfl⟩) fun vl s2 ⟨l, H2, I2, pl, el, e2⟩ => ?_)
  subst el e2
  refine thn (po_none.run pins s2 σ H2 (fun o H3 => o = none ∧ H3 = H2) I2 ⟨rfl, rfl⟩) fun vu s3 ⟨u, H3, I3, pu, eu, e3⟩ => ?_
  subst eu e3
  refine thn (hst.run pins s3 σ H3 (fun o H4 => o = some (-1) ∧ H4 = H3) I3 ⟨1, rfl, -1, rfl, rfl, rfl⟩) fun vs s4 ⟨o, H4, I4, ps, eo, e4⟩ => ?_
  subst eo e4
  have I5 : Inv X pins σ H4 { s4 with heap := s4.heap.push { cls := .type "slice", data := .fields #[vl, vu, vs] } } := I4.kept (t' := s4.toks) fun b ob q => Heap.get?_push_of_some _ q
  show wpAny (model X.prog X.w) X.A (subscriptTail e (.Slice none none (some (.UnaryOp .USub (.Constant (.int 1) k p1) p2)) p3) (.ref a) (.ref s4.heap.objs.size)) (EP X pins σ Q) X.xe { s4 with heap := s4.heap.push { cls := .type "slice", data := .fields #[vl, vu, vs] } }
  rcases hxq with ⟨hx, q⟩ | ⟨hx, q⟩
  · obtain ⟨its, r, ht, hz⟩ := I5.list hx
    have hlen := r.length
    refine tail_any (ops := [.ref a, .ref s4.heap.objs.size]) ht.isList.typeIs (PySem.slot_list_getitem.lookup) ?_ (by with_unfolding_all rfl)
    refine wpAny_getItem_list_slice ht.isList (Heap.IsSliceOf.new _ vl vu vs) pl pu ps (by decide) ?_ (by rw [List.size_toArray]; omega)
    rw [PySem.W.krv_pick]
    refine ⟨.ref _, _, I5.laid (t' := s4.toks) (o := .lst xs.reverse) (fun b ob q => Heap.get?_push_of_some _ q) (Nat.le_refl _) ?_, rfl, q _ (I5.hok.fresh (Nat.le_refl _))⟩
    exact ⟨by rw [List.length_reverse]; exact hz, _, 0, r.reverse, Heap.get?_push_size _ rfl⟩
  · obtain ⟨its, r, ht, hz⟩ := I5.tuple hx
    have hlen := r.length
    cases pl
    cases pu
    refine tail_any (ops := [.ref a, .ref s4.heap.objs.size]) ht.typeIs (PyProof.Rows.slot_tuple_getitem.lookup) ?_ (by with_unfolding_all rfl)
    refine getItem_tuple_rev ht (Heap.IsSliceOf.new _ .none .none vs) ps ?_ (by rw [List.size_toArray]; omega)
    refine ⟨.ref _, _, I5.laid (t' := s4.toks) (o := .tup xs.reverse) (fun b ob q => Heap.get?_push_of_some _ q) (Nat.le_refl _) ?_, rfl, q _ (I5.hok.fresh (Nat.le_refl _))⟩
    exact ⟨by rw [List.length_reverse]; exact hz, _, r.reverse, IsTup.new _ _⟩
theorem m_rev {k : Nat} {p1 p3 p4 : Pos} (hK : c.K = X.K) (he : PE X e (mE c f)) : PE X (.Subscript e (.Slice none none (some (.UnaryOp .USub (.Constant (.int 1) k p1) p3)) p4) pos) (mE c (eUn oRev f)) := by
  refine pe_weak (pe_revA he) fun σ H Q ⟨φ, S, ρ, z, hg, hr, hf, hp⟩ => ?_
  refine Wp.fst hg hr hf hp fun d S1 v φ1 H1 s1 g1 e1 r1 hf1 hp1 => ?_
  unfold oRev at hf1
  split at hf1
  · cases r1 with
    | tup k r =>
      cases hf1
      exact ⟨_, _, rfl, .inr ⟨by rw [← hK]; exact k, fun p hn => hp1.new g1 hn (new_tup hn r.reverse)⟩⟩
  · split at hf1
    · rename_i e
      cases hf1
      obtain ⟨p, xs, rfl, k, r⟩ := asL_ok g1 r1 e
      exact ⟨_, _, rfl, .inl ⟨by rw [← hK]; exact k, fun p hn => hp1.new g1 hn (new_lst g1 hn r.reverse)⟩⟩
    · cases hf1
end
def eBl (o : List D → Store → Out D) (fs : Env → Store → Out (List D)) (ρ : Env) (S : Store) : Out D := bnd (fs ρ S) fun ds S1 => o ds S1
theorem m_bl_ {c : Ct} {r : List V → Hp → VK → Prop} {o : List D → Store → Out D} {fs : Env → Store → Out (List D)} (ho : BlM c r o) {σ : L2.St} {H : Hp} {Q : VK} (h : mE c (eBl o fs) σ H Q) : tCB r (mA c fs) σ H Q := by
  obtain ⟨φ, S, ρ, z, hg, he, hf, hp⟩ := h
  exact Wp.fst hg he hf hp fun ds S1 xs φ1 H1 s1 g1 e1 r1 hf1 hp1 => ho φ1 S1 H1 Q xs ds z g1 r1 hf1 hp1
theorem Rps.one {K : PySem.W.Frag} {R : RT} {n : Nat} {φ : Nat → Addr} {H : Hp} {vs : List V} {d : D} (r : Rps K R n φ H vs [d]) : ∃ v, vs = [v] ∧ Rp K R n φ H v d := by
  cases r with
  | cons h t => cases t; exact ⟨_, rfl, h⟩
theorem Rps.two {K : PySem.W.Frag} {R : RT} {n : Nat} {φ : Nat → Addr} {H : Hp} {vs : List V} {d e : D} (r : Rps K R n φ H vs [d, e]) : ∃ v w, vs = [v, w] ∧ Rp K R n φ H v d ∧ Rp K R n φ H w e := by
  cases r with
  | cons h t =>
    obtain ⟨w, rfl, h2⟩ := t.one
    exact ⟨_, _, rfl, h, h2⟩
def lenD (S : Store) : D → Option Nat
  | .str y => if y.length ≤ line then some y.length else none
  | .tup ds => some ds.length
  | .cell i => (match S[i]? with
    | some (.lst ds) => some ds.length
    | some (.dct kvs) => some kvs.length
    | _ => none)
  | .lst ds => some ds.length
  | .frz ds => some ds.length
  | _ => none
def oLen (ds : List D) (S : Store) : Out D := match ds with
  | [d] => (match lenD S d with
    | some n => ret (.int n) S
    | none => none)
  | _ => none
def rLenM (K : PySem.W.Frag) : List V → Hp → VK → Prop := fun xs H Q => (∃ x n, xs = [x] ∧ LenV K x H n ∧ Q (.int n) H) ∨ (∃ a kvs, xs = [V.ref a] ∧ H a = some (.dK kvs) ∧ Q (.int kvs.length) H)
theorem call_lenM {X : Cx} : CallR X (.builtin "len") (rLenM X.K) := CallR.or call_len call_lenD
theorem blm_len {c : Ct} : BlM c (rLenM c.K) oLen := by
  intro φ S H Q xs ds z g r h hp
  unfold oLen at h
  split at h
  · rename_i d
    obtain ⟨v, rfl, rv⟩ := r.one
    cases e : lenD S d with
    | none => rw [e] at h; cases h
    | some n =>
      rw [e] at h
      cases h
      have fin : Q (.int n) H := hp.now g (.int _)
      cases rv with
      | str y =>
        have e : (if y.length ≤ line then some y.length else none) = some n := e
        split at e
        · rename_i hl
          cases e
          exact .inl ⟨_, _, rfl, ⟨Nat.le_trans hl (by decide), rfl⟩, fin⟩
        · cases e
      | tup k qq => cases e; rw [← qq.length] at fin; exact .inl ⟨_, _, rfl, .inr ⟨_, k, rfl⟩, fin⟩
      | lst k _ _ qq => cases e; rw [← qq.length] at fin; exact .inl ⟨_, _, rfl, .inl ⟨_, .of k, rfl⟩, fin⟩
      | klst k qq => cases e; rw [← qq.length] at fin; exact .inl ⟨_, _, rfl, .inl ⟨_, k.sq, rfl⟩, fin⟩
      | frz k qq => cases e; rw [← qq.length] at fin; exact .inl ⟨_, _, rfl, .inl ⟨_, .inl (.inr ⟨_, k⟩), rfl⟩, fin⟩
      | cell hi =>
        rename_i i
        have e : (match S[i]? with
          | some (.lst ds) => some ds.length
          | some (.dct kvs) => some kvs.length
          | _ => none) = some n := e
        split at e
        · rename_i ee
          cases e
          obtain ⟨xs, e1, q⟩ := g.at_ _ _ ee
          rw [← q.length] at fin
          exact .inl ⟨_, _, rfl, .inl ⟨_, .of e1, rfl⟩, fin⟩
        · rename_i ee
          cases e
          obtain ⟨ps, e1, ek, q⟩ := g.at_ _ _ ee
          have hl := q.length
          simp only [List.length_map] at hl
          rw [← hl] at fin
          exact .inr ⟨_, _, rfl, e1, fin⟩
        · cases e
      | _ => cases e
  · cases h
def oInt (ds : List D) (S : Store) : Out D := match ds with
  | [.int i] => ret (.int i) S
  | [.bl b] => ret (.int (if b then 1 else 0)) S
  | _ => none
theorem blm_int {c : Ct} : BlM c (fun xs H Q => (∃ i, xs = [.int i] ∧ Q (.int i) H) ∨ ∃ k, xs = [.bl k] ∧ Q (.int (if k then 1 else 0)) H) oInt := by
  intro φ S H Q xs ds z g r h hp
  unfold oInt at h
  split at h
  · obtain ⟨v, rfl, rv⟩ := r.one
    cases rv; cases h; exact .inl ⟨_, rfl, hp.now g (.int _)⟩
  · obtain ⟨v, rfl, rv⟩ := r.one
    cases rv; cases h; exact .inr ⟨_, rfl, hp.now g (.int _)⟩
  · cases h
def oStr (ds : List D) (S : Store) : Out D := match ds with
  | [.int i] => guard' (decide (i.natAbs.log2 < 1920)) (ret (.str (toString i)) S)
  | [.str x] => ret (.str x) S
  | _ => none
def rStrM : List V → Hp → VK → Prop := fun xs H Q => (∃ i, xs = [.int i] ∧ i.natAbs.log2 < 1920 ∧ Q (.str (toString i)) H) ∨ (∃ a, xs = [.str a] ∧ Q (.str a) H)
theorem call_strM {X : Cx} : CallR X (.type "str") rStrM := CallR.or call_str_int SkE.call_str_str
theorem blm_str {c : Ct} : BlM c rStrM oStr := by
  intro φ S H Q xs ds z g r h hp
  unfold oStr at h
  split at h
  · obtain ⟨v, rfl, rv⟩ := r.one
    obtain ⟨hl, h⟩ := guard_ok h
    cases rv; cases h; exact .inl ⟨_, rfl, of_decide_eq_true hl, hp.now g (.str _)⟩
  · obtain ⟨v, rfl, rv⟩ := r.one
    cases rv; cases h; exact .inr ⟨_, rfl, hp.now g (.str _)⟩
  · cases h
def oList (ds : List D) (S : Store) : Out D := match ds with
  | [.tup ds] => ret (.lst ds) S
  | [d] => (match asL S d with
    | some ds => ret (.lst ds) S
    | none => none)
  | _ => none
def oTuple (ds : List D) (S : Store) : Out D := match ds with
  | [.tup ds] => ret (.tup ds) S
  | [d] => (match asL S d with
    | some ds => ret (.tup ds) S
    | none => none)
  | _ => none
/-- a list of truth values -/
def blsD : List D → Option (List Bool)
  | [] => some []
  | .bl b :: r => (blsD r).map (b :: ·)
  | _ :: _ => none
def oAll (ds : List D) (S : Store) : Out D := match ds with
  | [d] => (match asL S d with
    | some ds => (match blsD ds with
      | some bs => ret (.bl (bs.all id)) S
      | none => none)
    | none => none)
  | _ => none
def rRepr (K : PySem.W.Frag) : List V → Hp → VK → Prop := fun xs H Q => ∃ x d, xs = [x] ∧ Dp K H x d ∧ d.showable = true ∧ d.hasDict = false ∧ d.depth ≤ 64 ∧ d.shown.length ≤ sizeLine ∧ Q (.str d.shown) H
theorem call_repr {X : Cx} (hg : X.A.guards = some []) (hu : X.A.units + 66 < cLine) : CallR X (.builtin "repr") (rRepr X.K) := by
  intro pins s σ H xs us Q I r h
  obtain ⟨x, d, rfl, hd, h1, h2, h3, h4, q⟩ := h
  obtain ⟨u, rfl, ru⟩ := vals1 r
  obtain ⟨as, rd⟩ := Dp.reads I d x u hd ru
  have fin : ∀ tk, EP X pins σ Q (.str d.shown tk) { s with toks := tk + 1 } → EP X pins σ Q (.str d.shown tk) { s with toks := tk + 1 } := fun _ z => z
  cases hd with
  | non => cases ru; exact P.repr_of_none ⟨.str _, H, I.tok _, ⟨_, rfl⟩, q⟩
  | bl b => cases ru; exact P.repr_of_bool ⟨.str _, H, I.tok _, ⟨_, rfl⟩, by cases b <;> exact q⟩
  | int i =>
    obtain ⟨t, rfl⟩ := ru
    exact P.repr_of_int (by simpa [PyData.showable] using h1) ⟨.str _, H, I.tok _, ⟨_, rfl⟩, q⟩
  | str y =>
    obtain ⟨t, rfl⟩ := ru
    exact P.repr_of_str ⟨.str _, H, I.tok _, ⟨_, rfl⟩, q⟩ h4
  | lst k _ =>
    cases ru
    exact repr_of_reads' rd h1 (PyData.noDict_hsm h2) hg (by omega) (fun b o e => e) (fun h' u tk hk => ⟨.str _, H, I.kept hk, ⟨_, rfl⟩, q⟩) h4
  | tup k _ =>
    cases ru
    exact repr_of_reads' rd h1 (PyData.noDict_hsm h2) hg (by omega) (fun b o e => e) (fun h' u tk hk => ⟨.str _, H, I.kept hk, ⟨_, rfl⟩, q⟩) h4
def oRepr (ds : List D) (S : Store) : Out D := match ds with
  | [d] => (match d.py S with
    | some p => guard' (p.showable && !p.hasDict && decide (p.depth ≤ 64) && decide (p.shown.length ≤ 16000000)) (ret (.str p.shown) S)
    | none => none)
  | _ => none
theorem blm_repr {c : Ct} : BlM c (rRepr c.K) oRepr := by
  intro φ S H Q xs ds z g r h hp
  unfold oRepr at h
  split at h
  · obtain ⟨v, rfl, rv⟩ := r.one
    split at h
    · rename_i e
      obtain ⟨hl, h⟩ := guard_ok h
      cases h
      simp only [Bool.and_eq_true, decide_eq_true_eq, Bool.not_eq_true'] at hl
      obtain ⟨⟨⟨h1, h2⟩, h3⟩, h4⟩ := hl
      exact ⟨_, _, rfl, py_ok g rv e, h1, h2, h3, Nat.le_trans h4 (by decide), hp.now g (.str _)⟩
    · cases h
  · cases h
end Pv
namespace Pv
open PySem PySem.Spec PyProof.Rows L2
section
variable {K : PySem.W.Frag} {R : RT} {φ : Nat → Addr} {S : Store} {H : Hp}
theorem Good.weak {p : Addr} (g : Good K (addR R p) φ H S) : Good K R φ H S := by
  refine ⟨fun i c e => ?_, g.inj, fun a h => g.off a (.inl h), fun i hi h => g.cof i hi (.inl h), g.tab⟩
  have q := g.at_ i c e
  cases c with
  | lst ds =>
    obtain ⟨xs, e1, r⟩ := q
    exact ⟨xs, e1, r.weak⟩
  | dct kvs =>
    obtain ⟨ps, e1, ek, r⟩ := q
    exact ⟨ps, e1, ek, r.weak⟩
  | dn kvs =>
    obtain ⟨ps, vs, e1, ek, ev, r, nk⟩ := q
    exact ⟨ps, vs, e1, ek, ev, r.weak, nk⟩
theorem Good.hide {p : Addr} {o : HO} (g : Good K R φ H S) (hn : H p = none) (ho : ∀ ps, o ≠ .tbl ps := by exact fun _ z => nomatch z) : Good K (addR R p) φ (upd H p o) S := by
  refine ⟨fun i c e => ?_, g.inj, fun a h => ?_, fun i hi h => h.elim (g.cof i hi) (fun q => by
    obtain ⟨o', e, _⟩ := g.there hi
    rw [q, hn] at e; cases e), g.tab.new hn ho⟩
  · have q := g.at_ i c e
    cases c with
    | lst ds =>
      obtain ⟨xs, e1, r⟩ := q
      exact ⟨xs, by rw [upd_ne (ne_of_none e1 hn)]; exact e1, r.hide hn⟩
    | dct kvs =>
      obtain ⟨ps, e1, ek, r⟩ := q
      exact ⟨ps, by rw [upd_ne (ne_of_none e1 hn)]; exact e1, ek, r.hide hn⟩
    | dn kvs =>
      obtain ⟨ps, vs, e1, ek, ev, r, nk⟩ := q
      exact ⟨ps, vs, by rw [upd_ne (ne_of_none e1 hn)]; exact e1, ek, ev, r.hide hn, fun p hp => ⟨(nk p hp).1.keep fun _ _ => sqT_upd (fun _ z => by rw [hn] at z; cases z) (fun _ _ z => by rw [hn] at z; cases z), (nk p hp).2⟩⟩
  · rcases h with h | h
    · obtain ⟨o', e⟩ := g.off a h
      exact ⟨o', by rw [upd_ne (ne_of_none e hn)]; exact e⟩
    · exact ⟨o, by rw [h, upd_same]⟩
theorem EnvR.hide {ρ : Env} {σ : L2.St} {n : Nat} {p : Addr} {o : HO} (e : EnvR K R n φ H ρ σ) (hn : H p = none) : EnvR K (addR R p) n φ (upd H p o) ρ σ :=
  ⟨e.len, fun i d h => let ⟨v, h1, h2⟩ := e.at_ i d h; ⟨v, h1, h2.hide hn⟩⟩
theorem Good.toCell {p : Addr} {xs : List V} {ds : List D} (g : Good K (addR R p) φ H S) (hr : ¬ R p) (hp : H p = some (.lst xs)) (hne : ∀ i, i < S.length → p ≠ φ i) (r : Rps K (addR R p) S.length φ H xs ds) : Good K R (ext φ S.length p) H (S ++ [.lst ds]) := by
  have hl : (S ++ [Cell.lst ds]).length = S.length + 1 := by simp
  refine ⟨fun i c e => ?_, fun i j hi hj e => ?_, fun a h => g.off a (.inl h), fun i hi h => ?_, g.tab⟩
  rotate_right
  · rw [hl] at hi
    by_cases q : i = S.length
    · subst q
      rw [ext_at] at h
      exact hr h
    · rw [ext_lt (by omega)] at h
      exact g.cof i (by omega) (.inl h)
  · rw [hl]
    by_cases hi : i < S.length
    · rw [List.getElem?_append_left hi] at e
      rw [ext_lt hi]
      have q := g.at_ i c e
      cases c with
      | lst ds =>
        obtain ⟨xs, e1, r⟩ := q
        exact ⟨xs, e1, r.toCell⟩
      | dct kvs =>
        obtain ⟨ps, e1, ek, r⟩ := q
        exact ⟨ps, e1, ek, r.toCell⟩
      | dn kvs =>
        obtain ⟨ps, vs, e1, ek, ev, r, nk⟩ := q
        exact ⟨ps, vs, e1, ek, ev, r.toCell, nk⟩
    · have e2 : i = S.length := by
        have := (List.getElem?_eq_some_iff.mp e).1
        rw [hl] at this
        omega
      subst e2
      rw [List.getElem?_append_right (Nat.le_refl _)] at e
      simp at e
      subst e
      rw [ext_at]
      exact ⟨xs, hp, r.toCell⟩
  · rw [hl] at hi hj
    by_cases h1 : i < S.length
    · by_cases h2 : j < S.length
      · rw [ext_lt h1, ext_lt h2] at e; exact g.inj i j h1 h2 e
      · have e2 : j = S.length := by omega
        subst e2
        rw [ext_lt h1, ext_at] at e
        exact absurd e.symm (hne i h1)
    · have e1 : i = S.length := by omega
      subst e1
      by_cases h2 : j < S.length
      · rw [ext_lt h2, ext_at] at e
        exact absurd e (hne j h2)
      · omega
theorem Step.toCell {n n' : Nat} {φ' : Nat → Addr} {H' : Hp} {p : Addr} (s : Step n φ H n' φ' H') (hn : H p = none) : Step n φ H (n' + 1) (ext φ' n' p) H' := by
  refine ⟨Nat.le_succ_of_le s.le, fun i hi => (ext_lt (Nat.lt_of_lt_of_le hi s.le)).trans (s.same i hi), s.keep, s.dom, fun i h1 h2 => ?_, s.tups, s.frzs⟩
  by_cases h : i = n'
  · subst h; rw [ext_at]; exact hn
  · rw [ext_lt (by omega)]; exact s.fresh i h1 (by omega)
theorem CellR.step {n n' : Nat} {φ' : Nat → Addr} {H' : Hp} {a : Addr} {k : Cell} (s : Step n φ H n' φ' H') (e : H' a = H a) (r : CellR K R n φ H a k) : CellR K R n' φ' H' a k := by
  cases k with
  | lst ds =>
    obtain ⟨xs, e1, r⟩ := r
    exact ⟨xs, e.trans e1, r.step s⟩
  | dct kvs =>
    obtain ⟨ps, e1, ek, r⟩ := r
    exact ⟨ps, e.trans e1, ek, r.step s⟩
  | dn kvs =>
    obtain ⟨ps, vs, e1, ek, ev, r, nk⟩ := r
    exact ⟨ps, vs, e.trans e1, ek, ev, r.step s, fun p hp => ⟨(nk p hp).1.step s, (nk p hp).2⟩⟩
/-- the store's i-th thing changed -/
theorem Step.put {i : Nat} {o : HO} (g : Good K R φ H S) (hi : i < S.length) : Step S.length φ H S.length φ (upd H (φ i) o) := by
  obtain ⟨u, hu, n1, n2⟩ := g.there hi
  refine ⟨Nat.le_refl _, fun _ _ => rfl, fun a o' e _ hc => by rw [upd_ne (hc i hi)]; exact e, fun a o' e => ?_, fun j h1 h2 => absurd h2 (Nat.not_lt.mpr h1), fun a xs e => ?_, fun a o' w e => ?_⟩
  · by_cases ha : a = φ i
    · subst ha; exact ⟨o, upd_same⟩
    · exact ⟨o', by rw [upd_ne ha]; exact e⟩
  · rw [upd_ne (fun q => by subst q; rw [hu] at e; exact n1 _ (Option.some.inj e))]; exact e
  · rw [upd_ne (fun q => by subst q; rw [hu] at e; exact n2 _ _ (Option.some.inj e))]; exact e
theorem Good.put {i : Nat} {o : HO} {k : Cell} (g : Good K R φ H S) (hi : i < S.length) (hk : CellR K R S.length φ (upd H (φ i) o) (φ i) k) : Good K R φ (upd H (φ i) o) (S.set i k) := by
  obtain ⟨u, u1, u2, u3⟩ := g.kind hi
  obtain ⟨w, w1, w2, w3⟩ := hk.kind
  rw [upd_same] at w1
  cases w1
  refine ⟨fun j c e => ?_, fun a b ha hb e => g.inj a b (by simpa using ha) (by simpa using hb) e, fun a ha => ?_, fun i hi => g.cof i (by simpa using hi), g.tab.put u1 u2 u3 w2⟩
  · rw [List.length_set]
    by_cases hj : i = j
    · subst hj
      rw [List.getElem?_set_self hi] at e
      cases e
      exact hk
    · rw [List.getElem?_set_ne hj] at e
      have hj' : j < S.length := (List.getElem?_eq_some_iff.mp e).1
      exact (g.at_ j c e).step (Step.put g hi) (upd_ne fun q => hj (g.inj i j hi hj' q.symm))
  · obtain ⟨o', e⟩ := g.off a ha
    exact (Step.put g hi).dom a o' e
end
/-- as Post; a list is a new one, that nobody knows -/
def PostS (c : Ct) (φ : Nat → Addr) (S : Store) (H : Hp) (Q : VK) : Rs D × Store → Prop
  | (.ok (.lst ds), S') => ∀ xs p φ' H', Step S.length φ H S'.length φ' H' → H p = none → ¬ c.R p → H' p = some (.lst xs) → (∀ i, i < S'.length → p ≠ φ' i) → Good c.K (addR c.R p) φ' H' S' → Rps c.K (addR c.R p) S'.length φ' H' xs ds → Q (.ref p) H'
  | r => Post c (RV c) φ S H Q r
theorem PostS.of {c : Ct} {φ : Nat → Addr} {S : Store} {H : Hp} {Q : VK} {r : Rs D × Store} (h : Post c (RV c) φ S H Q r) : PostS c φ S H Q r := by
  obtain ⟨r, S'⟩ := r
  cases r with
  | ex x => exact h
  | ok d =>
    cases d with
    | lst ds => exact fun xs p φ' H' s _ hr hp hne g rv => h _ φ' _ s g.weak (.lst hp hr hne rv.weak)
    | _ => exact h
theorem PostS.from {c : Ct} {φ φ1 : Nat → Addr} {S S1 : Store} {H H1 : Hp} {Q : VK} {r : Rs D × Store} (s : Step S.length φ H S1.length φ1 H1) (p : PostS c φ S H Q r) : PostS c φ1 S1 H1 Q r := by
  obtain ⟨r, S'⟩ := r
  cases r with
  | ex x =>
    have p' : Post c (RV c) φ S H Q (Rs.ex x, S') := p
    exact (p'.from s : Post c (RV c) φ1 S1 H1 Q (Rs.ex x, S'))
  | ok d =>
    cases d with
    | lst ds => exact fun xs q φ' H' t hn hr hp hne g rv => p xs q φ' H' (s.trans t) (s.back hn) hr hp hne g rv
    | non => exact Post.from (rel2 := RV c) (r := (Rs.ok .non, S')) s p
    | bl b => exact Post.from (rel2 := RV c) (r := (Rs.ok (.bl b), S')) s p
    | int b => exact Post.from (rel2 := RV c) (r := (Rs.ok (.int b), S')) s p
    | str b => exact Post.from (rel2 := RV c) (r := (Rs.ok (.str b), S')) s p
    | tup b => exact Post.from (rel2 := RV c) (r := (Rs.ok (.tup b), S')) s p
    | frz b => exact Post.from (rel2 := RV c) (r := (Rs.ok (.frz b), S')) s p
    | cell b => exact Post.from (rel2 := RV c) (r := (Rs.ok (.cell b), S')) s p
    | err b1 b2 b3 => exact Post.from (rel2 := RV c) (r := (Rs.ok (.err b1 b2 b3), S')) s p
    | ob b1 b2 b3 => exact Post.from (rel2 := RV c) (r := (Rs.ok (.ob b1 b2 b3), S')) s p
def mS (c : Ct) (f : Env → Store → Out D) : TE := fun σ H Q => ∃ φ S ρ r, Good c.K c.R φ H S ∧ EnvR c.K c.R S.length φ H ρ σ ∧ f ρ S = some r ∧ PostS c φ S H Q r
/-- a list made now -/
theorem PostS.made {c : Ct} {φ : Nat → Addr} {S : Store} {H : Hp} {Q : VK} {xs : List V} {ds : List D} {p : Addr} (h : PostS c φ S H Q (.ok (.lst ds), S)) (g : Good c.K c.R φ H S) (hn : H p = none) (r : Rps c.K c.R S.length φ H xs ds) : Q (.ref p) (upd H p (.lst xs)) :=
  h xs p φ _ (Step.new hn) hn (fun hr => by
    obtain ⟨o, e⟩ := g.off p hr
    rw [hn] at e; cases e) upd_same (fun i hi e => by
    obtain ⟨o, q, _⟩ := g.there hi
    rw [← e, hn] at q; cases q) (g.hide hn) (r.hide hn)
theorem mS_of {c : Ct} {f : Env → Store → Out D} {σ : L2.St} {H : Hp} {Q : VK} (h : mE c f σ H Q) : mS c f σ H Q := by
  obtain ⟨φ, S, ρ, r, hg, he, hf, hp⟩ := h
  exact ⟨φ, S, ρ, r, hg, he, hf, .of hp⟩
/-- the first part -/
theorem mS_fst {α β : Type} {rel : RelT β α} {c : Ct} {φ : Nat → Addr} {S : Store} {ρ : Env} {σ : L2.St} {H : Hp} {Q : VK} {f : Env → Store → Out α} {k : α → Store → Out D} {R : β → Hp → Prop} {r : Rs D × Store} (hg : Good c.K c.R φ H S) (he : EnvR c.K c.R S.length φ H ρ σ) (hf : bnd (f ρ S) k = some r) (hp : PostS c φ S H Q r)
    (next : ∀ a S1 b φ1 H1, Step S.length φ H S1.length φ1 H1 → Good c.K c.R φ1 H1 S1 → EnvR c.K c.R S1.length φ1 H1 ρ σ → rel S1.length φ1 H1 b a → k a S1 = some r → PostS c φ1 S1 H1 Q r → R b H1) : Wp c rel f σ H R := by
  cases e : f ρ S with
  | none => rw [e] at hf; cases hf
  | some q =>
    obtain ⟨q, S1⟩ := q
    rw [e] at hf
    refine ⟨φ, S, ρ, _, hg, he, e, ?_⟩
    cases q with
    | ok a => exact fun b φ' H' s g' rv => next a S1 b φ' H' s g' (he.step s) rv hf (hp.from s)
    | ex x =>
      have hf : some ((Rs.ex x : Rs D), S1) = some r := hf
      cases hf
      exact hp
/-- a list made on the spot is laid into the store -/
def eMk (f : Env → Store → Out D) (ρ : Env) (S : Store) : Out D := bnd (f ρ S) fun d S1 => match d with
  | .lst ds => ret (.cell S1.length) (S1 ++ [.lst ds])
  | _ => none
theorem m_mk0 {c : Ct} {f : Env → Store → Out D} {σ : L2.St} {H : Hp} {Q : VK} (h : mE c (eMk f) σ H Q) : mS c f σ H Q := by
  obtain ⟨φ, S, ρ, r, hg, he, hf, hp⟩ := h
  cases e : f ρ S with
  | none =>
    unfold eMk at hf
    rw [e] at hf; cases hf
  | some q =>
    obtain ⟨q, S1⟩ := q
    unfold eMk at hf
    rw [e] at hf
    refine ⟨φ, S, ρ, _, hg, he, e, ?_⟩
    cases q with
    | ex x =>
      have hf : some ((Rs.ex x : Rs D), S1) = some r := hf
      cases hf
      exact hp
    | ok d =>
      cases d with
      | lst ds =>
        cases hf
        refine fun xs p φ' H' s hn hr hq hne g rv => ?_
        have hl : (S1 ++ [Cell.lst ds]).length = S1.length + 1 := by simp
        refine hp (.ref p) (ext φ' S1.length p) H' (by rw [hl]; exact s.toCell hn) (g.toCell hr hq hne rv) ?_
        show Rp _ _ _ _ _ _ _
        have e2 : (V.ref p) = V.ref (ext φ' S1.length p S1.length) := by rw [ext_at]
        rw [e2, hl]
        exact .cell (Nat.lt_succ_self _)
      | _ => cases hf
section
variable {X : Cx} {c : Ct} {e a b : Expr} {es : List Expr} {pos : Pos} {f fa fb : Env → Store → Out D} {fs : Env → Store → Out (List D)}
/-- both: by its items, and laid into the store -/
theorem m_mk (h : PE X e (mS c f)) : PE X e (mE c (eMk f)) := pe_weak h fun _ _ _ => m_mk0
theorem m_weak (h : PE X e (mS c f)) : PE X e (mE c f) := pe_weak h fun _ _ _ => mS_of
theorem s_lst (h : PA X es (mA c fs)) : PE X (.List es pos) (mS c (eLst fs)) := by
  refine pe_weak (pe_lst h) fun σ H Q ⟨φ, S, ρ, z, hg, hr, hf, hp⟩ => ?_
  refine mS_fst (rel := RL c) hg hr hf hp fun ds S1 vs φ1 H1 s1 g1 e1 r1 hf1 hp1 => ?_
  obtain ⟨hl, hf1⟩ := guard_ok hf1
  cases hf1
  exact ⟨by rw [Rps.length r1]; exact line_ok hl, fun p hn => hp1.made g1 hn r1⟩
theorem s_add (hK : c.K = X.K) (ha : PE X a (mE c fa)) (hb : PE X b (mE c fb)) : PE X (.BinOp a .Add b pos) (mS c (eBin oAdd fa fb)) := by
  refine pe_weak (pe_op op_addM ha hb) fun σ H Q ⟨φ, S, ρ, z, hg, hr, hf, hp⟩ => ?_
  refine mS_fst (rel := RV c) hg hr hf hp fun x S1 vx φ1 H1 s1 g1 e1 r1 hf1 hp1 => mS_fst (rel := RV c) g1 e1 hf1 hp1 fun y S2 vy φ2 H2 s2 g2 e2 r2 hf2 hp2 => ?_
  have r1' := Rp.step s2 r1
  rw [← hK]
  -- a list: a new one; all else: as by its items
  have whole : ∀ (ds : List D) (S' : Store), z = (.ok (.lst ds), S') → rAddM c.K vx vy H2 Q := fun ds S' ez => by
    subst ez
    unfold oAdd at hf2
    split at hf2
    · cases hf2
    · obtain ⟨_, q⟩ := guard_ok hf2; cases q
    · obtain ⟨_, q⟩ := guard_ok hf2; cases q
    · split at hf2
      · rename_i ea
        split at hf2
        · rename_i eb
          obtain ⟨hl, q⟩ := guard_ok hf2
          cases q
          obtain ⟨p, xs, rfl, k1, q1⟩ := asM_ok g2 r1' ea
          obtain ⟨p', ys, rfl, k2, q2⟩ := asM_ok g2 r2 eb
          exact .inr (.inr ⟨_, _, _, _, rfl, rfl, k1, k2, by rw [q1.length, q2.length]; exact line_ok hl, fun p hn => hp2.made g2 hn (q1.append q2)⟩)
        · cases hf2
      · cases hf2
  obtain ⟨z, S'⟩ := z
  cases z with
  | ex w => exact opm_add φ2 S2 H2 Q vx vy x y _ g2 r1' r2 hf2 hp2
  | ok d =>
    cases d with
    | lst ds => exact whole ds S' rfl
    | _ => exact opm_add φ2 S2 H2 Q vx vy x y _ g2 r1' r2 hf2 hp2
end
def oApp (x : D) (ds : List D) (S : Store) : Out D := match x, ds with
  | .cell i, [d] => (match S[i]? with
    | some (.lst ds) => guard' (decide (ds.length < line)) (ret .non (S.set i (.lst (ds ++ [d]))))
    | _ => none)
  | _, _ => none
def isList (S : Store) (x : D) : Bool := (asL S x).isSome
theorem app_m {c : Ct} {φ : Nat → Addr} {S : Store} {H : Hp} {Q : VK} {x : V} {xs : List V} {a : D} {ds : List D} {z : Rs D × Store} (g : Good c.K c.R φ H S) (rx : Rp c.K c.R S.length φ H x a) (rs : Rps c.K c.R S.length φ H xs ds) (h : oApp a ds S = some z) (hp : Post c (RV c) φ S H Q z) : rAppend x xs H Q := by
  unfold oApp at h
  split at h
  · rename_i i d
    obtain ⟨v, rfl, rv⟩ := rs.one
    cases rx with
    | cell hi =>
      split at h
      · rename_i e
        obtain ⟨hl, h⟩ := guard_ok h
        cases h
        obtain ⟨ys, e1, q⟩ := g.at_ _ _ e
        have st : Step S.length φ H S.length φ (upd H (φ i) (.lst (ys ++ [v]))) := Step.put g hi
        refine ⟨_, _, _, rfl, rfl, e1, by rw [q.length]; exact Nat.lt_of_lt_of_le (of_decide_eq_true hl) (by decide), ?_⟩
        exact hp .non φ _ (by rw [List.length_set]; exact st) (g.put hi ⟨_, upd_same, (q.snoc rv).step st⟩) .non
      · cases h
  · cases h
def eApp (f : Env → Store → Out D) (fs : Env → Store → Out (List D)) (ρ : Env) (S : Store) : Out D := bnd (f ρ S) fun x S1 => guard' (isList S1 x) (bnd (fs ρ S1) fun ds S2 => oApp x ds S2)
theorem m_app {X : Cx} {c : Ct} {o e : Expr} {fo : Env → Store → Out D} {fs : Env → Store → Out (List D)} {apos cpos : Pos} (hK : c.K = X.K) (ho : PE X o (mE c fo)) (ha : PA X [e] (mA c fs))
    (hbase : attributeBase o "append" X.env (eval o X.env) = eval o X.env) (hfew : ((backTo cpos (starEach [e] X.env)).all (fun x => !x.1) && (backToKw cpos (keywordEach [] X.env)).all (fun x => x.1.isSome)
      && decide (([e] : List Expr).length + ([] : List Keyword).length + (if ([] : List Keyword).isEmpty then 0 else 1) < 30)) = true)
    (hline : (apos.endLine == cpos.line) = true) (hs : starEach [e] X.env = (false, eval e X.env) :: starEach [] X.env) (hplain : (backTo cpos (starEach [] X.env)).any (·.1) = false) :
    PE X (.Call (.Attribute o "append" apos) [e] [] cpos) (mE c (eApp fo fs)) := by
  refine pe_weak (pe_bm PySem.F.plainAttrs_list PySem.F.slot_list_append PySem.F.type_list_append mt_append ho ha hbase hfew hline hs hplain) fun σ H Q ⟨φ, S, ρ, z, hg, hr, hf, hp⟩ => ?_
  refine Wp.fst hg hr hf hp fun x S1 v φ1 H1 s1 g1 e1 r1 hf1 hp1 => ?_
  obtain ⟨hl, hf1⟩ := guard_ok hf1
  refine ⟨?_, Wp.fst g1 e1 hf1 hp1 fun ds S2 vs φ2 H2 s2 g2 e2 r2 hf2 hp2 => app_m g2 (Rp.step s2 r1) r2 hf2 hp2⟩
  unfold isList at hl
  obtain ⟨ds, e⟩ := Option.isSome_iff_exists.mp hl
  obtain ⟨p, xs, rfl, k, _⟩ := asL_ok g1 r1 e
  exact .inl ⟨rfl, xs, by rw [← hK]; exact k⟩
end Pv
namespace Pv
open PySem PySem.Spec PyProof.Rows L2
/-- how a statement ends -/
inductive Fl where
  | nx (ρ : Env) | rt (d : D) | bk (ρ : Env) | ct (ρ : Env)
abbrev SemS := Env → Store → Out Fl
def PostF (c : Ct) (φ : Nat → Addr) (S : Store) (H : Hp) (d : Ends) : Rs Fl × Store → Prop
  | (.ok (.nx ρ), S') => ∀ σ φ' H', Step S.length φ H S'.length φ' H' → Good c.K c.R φ' H' S' → EnvR c.K c.R S'.length φ' H' ρ σ → d.nx σ H'
  | (.ok (.bk ρ), S') => ∀ σ φ' H', Step S.length φ H S'.length φ' H' → Good c.K c.R φ' H' S' → EnvR c.K c.R S'.length φ' H' ρ σ → d.bk σ H'
  | (.ok (.ct ρ), S') => ∀ σ φ' H', Step S.length φ H S'.length φ' H' → Good c.K c.R φ' H' S' → EnvR c.K c.R S'.length φ' H' ρ σ → d.ct σ H'
  | (.ok (.rt x), S') => ∀ v φ' H', Step S.length φ H S'.length φ' H' → Good c.K c.R φ' H' S' → Rp c.K c.R S'.length φ' H' v x → d.rt v H'
  | (.ex x, S') => ∀ cl o φ' H', Step S.length φ H S'.length φ' H' → Good c.K c.R φ' H' S' → ExR c.K c.R S'.length φ' H' x cl o c.cls → c.E cl o H'
theorem PostF.from {c : Ct} {φ φ1 : Nat → Addr} {S S1 : Store} {H H1 : Hp} {d : Ends} {r : Rs Fl × Store} (s : Step S.length φ H S1.length φ1 H1) (p : PostF c φ S H d r) : PostF c φ1 S1 H1 d r := by
  obtain ⟨r, S'⟩ := r
  cases r with
  | ok a => cases a <;> exact fun b φ' H' t g q => p b φ' H' (s.trans t) g q
  | ex x => exact fun cl o φ' H' t g q => p cl o φ' H' (s.trans t) g q
def mT (c : Ct) (f : SemS) : TS := fun d σ H => ∃ φ S ρ r, Good c.K c.R φ H S ∧ EnvR c.K c.R S.length φ H ρ σ ∧ f ρ S = some r ∧ PostF c φ S H d r
theorem ps_weak {X : Cx} {st : Stmt} {t t' : TS} (h : PS X st t) (k : ∀ d σ H, t' d σ H → t d σ H) : PS X st t' := ⟨fun pins s σ H d I w => h.run pins s σ H d I (k d σ H w)⟩
theorem pss_weak {X : Cx} {st : List Stmt} {t t' : TS} (h : PSs X st t) (k : ∀ d σ H, t' d σ H → t d σ H) : PSs X st t' := ⟨fun pins s σ H d I w => h.run pins s σ H d I (k d σ H w)⟩
/-- the first part of a statement -/
theorem mT_fst {α β : Type} {rel : RelT β α} {c : Ct} {φ : Nat → Addr} {S : Store} {ρ : Env} {σ : L2.St} {H : Hp} {d : Ends} {f : Env → Store → Out α} {k : α → Store → Out Fl} {R : β → Hp → Prop} {r : Rs Fl × Store} (hg : Good c.K c.R φ H S) (he : EnvR c.K c.R S.length φ H ρ σ) (hf : bnd (f ρ S) k = some r) (hp : PostF c φ S H d r)
    (next : ∀ a S1 b φ1 H1, Step S.length φ H S1.length φ1 H1 → Good c.K c.R φ1 H1 S1 → EnvR c.K c.R S1.length φ1 H1 ρ σ → rel S1.length φ1 H1 b a → k a S1 = some r → PostF c φ1 S1 H1 d r → R b H1) : Wp c rel f σ H R := by
  cases e : f ρ S with
  | none => rw [e] at hf; cases hf
  | some q =>
    obtain ⟨q, S1⟩ := q
    rw [e] at hf
    refine ⟨φ, S, ρ, _, hg, he, e, ?_⟩
    cases q with
    | ok a => exact fun b φ' H' s g' rv => next a S1 b φ' H' s g' (he.step s) rv hf (hp.from s)
    | ex x =>
      have hf : some ((Rs.ex x : Rs Fl), S1) = some r := hf
      cases hf
      exact hp
theorem PostF.next {c : Ct} {φ : Nat → Addr} {S : Store} {H : Hp} {d : Ends} {ρ : Env} {σ : L2.St} (hp : PostF c φ S H d (.ok (.nx ρ), S)) (g : Good c.K c.R φ H S) (e : EnvR c.K c.R S.length φ H ρ σ) : d.nx σ H := hp σ φ H Step.refl g e
theorem PostF.ret {c : Ct} {φ : Nat → Addr} {S : Store} {H : Hp} {d : Ends} {x : D} {v : V} (hp : PostF c φ S H d (.ok (.rt x), S)) (g : Good c.K c.R φ H S) (e : Rp c.K c.R S.length φ H v x) : d.rt v H := hp v φ H Step.refl g e

def sNil : SemS := fun ρ S => ret (.nx ρ) S
def flK (g : SemS) (fl : Fl) (S : Store) : Out Fl := match fl with
  | .nx ρ => g ρ S
  | fl => ret fl S
def sSeq (f g : SemS) : SemS := fun ρ S => bnd (f ρ S) (flK g)
section
variable {X : Cx} {c : Ct} {st : Stmt} {rest : List Stmt} {e : Expr} {f g : SemS} {pos : Pos} {fe : Env → Store → Out D}
theorem t_nil : PSs X [] (mT c sNil) := by
  refine pss_weak pss_nil fun d σ H ⟨φ, S, ρ, r, hg, he, hf, hp⟩ => ?_
  cases hf
  exact hp.next hg he
theorem seq_mono {d : Ends} {σ : L2.St} {H : Hp} (h : mT c (sSeq f g) d σ H) : tSeq (mT c f) (mT c g) d σ H := by
  obtain ⟨φ, S, ρ, r, hg, he, hf, hp⟩ := h
  cases e : f ρ S with
  | none =>
    unfold sSeq at hf
    rw [e] at hf; cases hf
  | some q =>
    obtain ⟨q, S1⟩ := q
    unfold sSeq at hf
    rw [e] at hf
    refine ⟨φ, S, ρ, _, hg, he, e, ?_⟩
    cases q with
    | ex x =>
      have hf : some ((Rs.ex x : Rs Fl), S1) = some r := hf
      cases hf
      exact hp
    | ok fl =>
      cases fl with
      | nx ρ1 => exact fun σ1 φ1 H1 s g1 e1 => ⟨φ1, S1, ρ1, r, g1, e1, hf, hp.from s⟩
      | rt x => cases hf; exact hp
      | bk ρ1 => cases hf; exact hp
      | ct ρ1 => cases hf; exact hp
theorem t_cons (h1 : PS X st (mT c f)) (h2 : PSs X rest (mT c g)) : PSs X (st :: rest) (mT c (sSeq f g)) := pss_weak (pss_cons h1 h2) fun _ _ _ => seq_mono

def sDrop (fe : Env → Store → Out D) : SemS := fun ρ S => bnd (fe ρ S) fun _ S1 => ret (.nx ρ) S1
def sRet (fe : Env → Store → Out D) : SemS := fun ρ S => bnd (fe ρ S) fun d S1 => ret (.rt d) S1
def sRetN : SemS := fun _ S => ret (.rt .non) S
def sIf (t : Env → Store → Out Bool) (f g : SemS) : SemS := fun ρ S => bnd (t ρ S) fun b S1 => if b then f ρ S1 else g ρ S1
def sSet (i : Nat) (fe : Env → Store → Out D) : SemS := fun ρ S => bnd (fe ρ S) fun d S1 => ret (.nx (ρ.set i (some d))) S1
theorem t_drop (he : PE X e (mE c fe)) (hs : swapsWith e none pos.line X.env = pure false) : PS X (.Expr e pos) (mT c (sDrop fe)) := by
  refine ps_weak (ps_expr he hs) fun d σ H ⟨φ, S, ρ, r, hg, hr, hf, hp⟩ => ?_
  refine mT_fst (rel := RV c) hg hr hf hp fun a S1 v φ1 H1 s1 g1 e1 r1 hf1 hp1 => ?_
  cases hf1
  exact hp1.next g1 e1
theorem t_ret (he : PE X e (mE c fe)) : PS X (.Return (some e) pos) (mT c (sRet fe)) := by
  refine ps_weak (ps_ret he) fun d σ H ⟨φ, S, ρ, r, hg, hr, hf, hp⟩ => ?_
  refine mT_fst (rel := RV c) hg hr hf hp fun a S1 v φ1 H1 s1 g1 e1 r1 hf1 hp1 => ?_
  cases hf1
  exact hp1.ret g1 r1
theorem t_if {cnd : Expr} {a b : List Stmt} {t : Env → Store → Out Bool} (hc : PT X cnd (mB c t)) (ha : PSs X a (mT c f)) (hb : PSs X b (mT c g)) : PS X (.If cnd a b pos) (mT c (sIf t f g)) := by
  refine ps_weak (ps_if hc ha hb) fun d σ H ⟨φ, S, ρ, r, hg, hr, hf, hp⟩ => ?_
  refine mT_fst (rel := RB) hg hr hf hp fun k S1 v φ1 H1 s1 g1 e1 r1 hf1 hp1 => ?_
  cases r1
  cases k with
  | true => exact iteT ⟨φ1, S1, ρ, r, g1, e1, hf1, hp1⟩
  | false => exact iteF ⟨φ1, S1, ρ, r, g1, e1, hf1, hp1⟩
theorem set_mono {i : Nat} {d : Ends} {σ : L2.St} {H : Hp} (h : mT c (sSet i fe) d σ H) : tAsg (mE c fe) (gName i) d σ H := by
  obtain ⟨φ, S, ρ, r, hg, hr, hf, hp⟩ := h
  refine mT_fst (rel := RV c) hg hr hf hp fun a S1 v φ1 H1 s1 g1 e1 r1 hf1 hp1 => ?_
  cases hf1
  exact hp1.next g1 (e1.set i r1)

/-- the items of a tuple to the slots is -/
def setAll : List Nat → List D → Env → Option Env
  | [], [], ρ => some ρ
  | i :: is, d :: ds, ρ => setAll is ds (ρ.set i (some d))
  | _, _, _ => none
theorem setAll_ok {K : PySem.W.Frag} {R : RT} {n : Nat} {φ : Nat → Addr} {H : Hp} : ∀ {is : List Nat} {ds : List D} {vs : List V} {ρ ρ' : Env} {σ : L2.St}, setAll is ds ρ = some ρ' → Rps K R n φ H vs ds → EnvR K R n φ H ρ σ →
    ∃ σ', EnvR K R n φ H ρ' σ' ∧ ∀ (Q : L2.St → Hp → Prop), Q σ' H → (is.foldr (fun i t => gCons (gName i) t) gNil) vs σ H Q
  | [], [], _, _, _, _, h, r, e => by
    cases h
    cases r
    exact ⟨_, e, fun Q q => ⟨rfl, q⟩⟩
  | i :: is, d :: ds, _, _, _, _, h, .cons rv r, e => by
    obtain ⟨σ', h1, h2⟩ := setAll_ok (is := is) h r (e.set i rv)
    exact ⟨σ', h1, fun Q q => ⟨_, _, rfl, h2 Q q⟩⟩
  | [], _ :: _, _, _, _, _, h, _, _ => by cases h
  | _ :: _, [], _, _, _, _, h, _, _ => by cases h
def sUnp (is : List Nat) (fe : Env → Store → Out D) : SemS := fun ρ S => bnd (fe ρ S) fun d S1 => match d with
  | .tup ds => (match setAll is ds ρ with
    | some ρ' => ret (.nx ρ') S1
    | none => none)
  | _ => none
theorem setAll_len : ∀ {is : List Nat} {ds : List D} {ρ ρ' : Env}, setAll is ds ρ = some ρ' → ds.length = is.length
  | [], [], _, _, _ => rfl
  | i :: is, d :: ds, _, _, h => congrArg (· + 1) (setAll_len (is := is) h)
  | [], _ :: _, _, _, h => by cases h
  | _ :: _, [], _, _, h => by cases h
theorem unp_mono {is : List Nat} {d : Ends} {σ : L2.St} {H : Hp} (h : mT c (sUnp is fe) d σ H) : tAsg (mE c fe) (gTup c.K is.length (is.foldr (fun i t => gCons (gName i) t) gNil)) d σ H := by
  obtain ⟨φ, S, ρ, r, hg, hr, hf, hp⟩ := h
  refine mT_fst (rel := RV c) hg hr hf hp fun a S1 v φ1 H1 s1 g1 e1 r1 hf1 hp1 => ?_
  split at hf1
  · rename_i ds
    split at hf1
    · rename_i es
      cases hf1
      cases r1 with
      | tup k q =>
        obtain ⟨σ', h1, h2⟩ := setAll_ok es q e1
        exact ⟨_, _, rfl, k, by rw [q.length]; exact setAll_len es, h2 _ (hp1.next g1 h1)⟩
    · cases hf1
  · cases hf1
/-- a, b = x, y without a tuple -/
def sPar (is : List Nat) (fs : Env → Store → Out (List D)) : SemS := fun ρ S => bnd (fs ρ S) fun ds S1 => match setAll is ds ρ with
  | some ρ' => ret (.nx ρ') S1
  | none => none
def whileL (t : Env → Store → Out Bool) (b : SemS) : Nat → SemS
  | 0, _, _ => none
  | m + 1, ρ, S => bnd (t ρ S) fun k S1 => if k then bnd (b ρ S1) fun fl S2 => (match fl with
    | .nx ρ2 => whileL t b m ρ2 S2
    | .ct ρ2 => whileL t b m ρ2 S2
    | .bk ρ2 => ret (.nx ρ2) S2
    | .rt d => ret (.rt d) S2) else ret (.nx ρ) S1
/-- a turn's body, with what follows it -/
theorem body_mono {b : SemS} {d : Ends} {ρ : Env} {σ : L2.St} {S : Store} {φ : Nat → Addr} {H : Hp} {r : Rs Fl × Store} {k : SemS} {N : L2.St → Hp → Prop} (hg : Good c.K c.R φ H S) (he : EnvR c.K c.R S.length φ H ρ σ)
    (hf : bnd (b ρ S) (fun fl S2 => (match fl with
      | .nx ρ2 => k ρ2 S2
      | .ct ρ2 => k ρ2 S2
      | .bk ρ2 => ret (.nx ρ2) S2
      | .rt d => ret (.rt d) S2)) = some r) (hp : PostF c φ S H d r)
    (next : ∀ ρ2 S2 σ2 φ2 H2, Step S.length φ H S2.length φ2 H2 → Good c.K c.R φ2 H2 S2 → EnvR c.K c.R S2.length φ2 H2 ρ2 σ2 → k ρ2 S2 = some r → PostF c φ2 S2 H2 d r → N σ2 H2) : mT c b { d with nx := N, ct := N, bk := d.nx } σ H := by
  cases e : b ρ S with
  | none => rw [e] at hf; cases hf
  | some q =>
    obtain ⟨q, S2⟩ := q
    rw [e] at hf
    refine ⟨φ, S, ρ, _, hg, he, e, ?_⟩
    cases q with
    | ex x =>
      have hf : some ((Rs.ex x : Rs Fl), S2) = some r := hf
      cases hf
      exact hp
    | ok fl =>
      cases fl with
      | nx ρ2 => exact fun σ2 φ2 H2 s g2 e2 => next ρ2 S2 σ2 φ2 H2 s g2 e2 hf (hp.from s)
      | ct ρ2 => exact fun σ2 φ2 H2 s g2 e2 => next ρ2 S2 σ2 φ2 H2 s g2 e2 hf (hp.from s)
      | bk ρ2 => cases hf; exact hp
      | rt x => cases hf; exact hp
theorem t_while {cnd : Expr} {body : List Stmt} {t : Env → Store → Out Bool} {b : SemS} {m : Nat} (hpo : PassesOwn (model X.prog X.w) X.A X.env X.xe) (hc : PT X cnd (mB c t)) (hb : PSs X body (mT c b)) : PS X (.While cnd body [] pos) (mT c (whileL t b m)) := by
  refine ps_weak (ps_while hpo hc hb) fun d σ H h => ?_
  refine ⟨fun m σ H => mT c (whileL t b m) d σ H, ⟨m, h⟩, fun m σ H h => ?_⟩
  obtain ⟨φ, S, ρ, r, hg, hr, hf, hp⟩ := h
  cases m with
  | zero => cases hf
  | succ m =>
    refine mT_fst (rel := RB) hg hr hf hp fun k S1 v φ1 H1 s1 g1 e1 r1 hf1 hp1 => ?_
    cases r1
    cases k with
    | false =>
      cases hf1
      exact iteF (hp1.next g1 e1)
    | true =>
      refine iteT ⟨mT c (whileL t b m) d, fun σ' H' h => ⟨m, Nat.lt_succ_self m, h⟩, ?_⟩
      exact body_mono g1 e1 hf1 hp1 fun ρ2 S2 σ2 φ2 H2 s g2 e2 hf2 hp2 => ⟨φ2, S2, ρ2, r, g2, e2, hf2, hp2⟩
end
end Pv
namespace Pv
open PySem PySem.Spec PyProof.Rows L2
section
variable {K : PySem.W.Frag} {R : RT} {n n' : Nat} {φ φ' : Nat → Addr} {H H' : Hp}
theorem SrcR.step {s : Src} {J : It} (st : Step n φ H n' φ' H') (r : SrcR K R n φ H s J) : SrcR K R n' φ' H' s J := by
  cases r with
  | rng lo m => exact .rng lo m
  | str z => exact .str z
  | tup r => exact .tup (r.step st)
  | lst r h => exact .lst (r.step st) h
  | enm r h => exact .enm (r.step st) h
  | enmT r => exact .enmT (r.step st)
  | enS r => exact .enS (r.step st)
  | enZ z => exact .enZ z
  | zipT r q => exact .zipT (r.step st) (q.step st)
  | zip r q h => exact .zip (r.step st) (q.step st) h
theorem pair_none {a b : List D} {k : Nat} (h : pairAt a b k = none) : a.length ≤ k ∨ b.length ≤ k := by
  unfold pairAt at h
  cases e1 : a[k]? with
  | none => exact .inl (List.getElem?_eq_none_iff.mp e1)
  | some d =>
    cases e2 : b[k]? with
    | none => exact .inr (List.getElem?_eq_none_iff.mp e2)
    | some e => rw [e1, e2] at h; cases h
theorem pair_some {a b : List D} {k : Nat} {d : D} (h : pairAt a b k = some d) : ∃ x y, a[k]? = some x ∧ b[k]? = some y ∧ d = .tup [x, y] := by
  unfold pairAt at h
  cases e1 : a[k]? with
  | none => rw [e1] at h; cases h
  | some x =>
    cases e2 : b[k]? with
    | none => rw [e1, e2] at h; cases h
    | some y => rw [e1, e2] at h; cases h; exact ⟨x, y, rfl, rfl, rfl⟩
theorem SrcR.stop {S : Store} {s : Src} {J : It} {k : Nat} (g : Good K R φ H S) (r : SrcR K R S.length φ H s J) (h : s.at_ S k = some none) : J.stop k H := by
  cases r with
  | rng lo m =>
    have h : some (if k < m then some (D.int (lo + k)) else none) = some none := h
    simp only [Option.some.injEq] at h
    split at h
    · cases h
    · exact Nat.le_of_not_lt (by assumption)
  | str z =>
    have h : some ((z.cps[k]?).map fun c => D.str ⟨#[c]⟩) = some none := h
    simp only [Option.some.injEq, Option.map_eq_none_iff] at h
    exact Array.getElem?_eq_none_iff.mp h
  | tup r =>
    cases r with
    | tup kk q =>
      rename_i ds xs
      have h : some ds[k]? = some none := h
      simp only [Option.some.injEq] at h
      exact ⟨xs, kk, by rw [q.length]; exact List.getElem?_eq_none_iff.mp h⟩
  | lst r hx =>
    rename_i a x
    have h : (match asL S x with
      | some ds => some ds[k]?
      | none => none) = some none := by
      cases x with
      | tup ds => exact absurd rfl (hx ds)
      | str z => cases r
      | _ => exact h
    split at h
    · rename_i ds e
      simp only [Option.some.injEq] at h
      obtain ⟨p, xs, ep, kk, q⟩ := asL_ok (c := ⟨K, R, ⟨fun _ => none, []⟩, E0⟩) g r e
      cases ep
      exact ⟨xs, kk, by rw [q.length]; exact List.getElem?_eq_none_iff.mp h⟩
    · cases h
  | enm r hx =>
    rename_i a x
    have h : (match asL S x with
      | some ds => some ((ds[k]?).map fun d => D.tup [.int k, d])
      | none => none) = some none := by
      cases x with
      | tup ds => exact absurd rfl (hx ds)
      | _ => exact h
    split at h
    · rename_i ds e
      simp only [Option.some.injEq, Option.map_eq_none_iff] at h
      obtain ⟨p, xs, ep, kk, q⟩ := asL_ok (c := ⟨K, R, ⟨fun _ => none, []⟩, E0⟩) g r e
      cases ep
      exact ⟨xs, kk, by rw [q.length]; exact List.getElem?_eq_none_iff.mp h⟩
    · cases h
  | enmT r =>
    cases r with
    | tup kk q =>
      rename_i ds xs
      have h : some ((ds[k]?).map fun d => D.tup [.int k, d]) = some none := h
      simp only [Option.some.injEq, Option.map_eq_none_iff] at h
      exact ⟨xs, kk, by rw [q.length]; exact List.getElem?_eq_none_iff.mp h⟩
  | enZ z =>
    have h : some ((z.cps[k]?).map fun c => D.tup [.int k, .str ⟨#[c]⟩]) = some none := h
    simp only [Option.some.injEq, Option.map_eq_none_iff] at h
    exact Array.getElem?_eq_none_iff.mp h
  | enS r =>
    cases r with
    | tup kk q =>
      rename_i j ds xs
      have h : some ((ds[k]?).map fun d => D.tup [.int (j + k : Nat), d]) = some none := h
      simp only [Option.some.injEq, Option.map_eq_none_iff] at h
      exact ⟨xs, kk, by rw [q.length]; exact List.getElem?_eq_none_iff.mp h⟩
  | zipT r q =>
    cases r with
    | tup kk r =>
      cases q with
      | tup kk2 q =>
        rename_i ds es xs ys
        have h : some (pairAt ds es k) = some none := h
        simp only [Option.some.injEq] at h
        exact ⟨xs, ys, kk, kk2, by rw [r.length, q.length]; exact pair_none h⟩
  | zip r q hx =>
    rename_i a b x y
    have h : (match asL S x, asL S y with
      | some a, some b => some (pairAt a b k)
      | _, _ => none) = some none := by
      cases x with
      | tup ds => exact absurd rfl (hx ds)
      | _ => exact h
    split at h
    · rename_i ds es e1 e2
      simp only [Option.some.injEq] at h
      obtain ⟨p, xs, ep, kk, r⟩ := asL_ok (c := ⟨K, R, ⟨fun _ => none, []⟩, E0⟩) g r e1
      obtain ⟨p2, ys, ep2, kk2, q⟩ := asL_ok (c := ⟨K, R, ⟨fun _ => none, []⟩, E0⟩) g q e2
      cases ep
      cases ep2
      exact ⟨xs, ys, kk, kk2, by rw [r.length, q.length]; exact pair_none h⟩
    · cases h
theorem SrcR.item {S : Store} {s : Src} {J : It} {k : Nat} {d : D} (g : Good K R φ H S) (r : SrcR K R S.length φ H s J) (h : s.at_ S k = some (some d)) : J.go k H ∧ ∀ x H', J.yld k H x H' → Step S.length φ H S.length φ H' ∧ Good K R φ H' S ∧ Rp K R S.length φ H' x d := by
  have stay : ∀ {H' : Hp} {x : V}, H' = H → Rp K R S.length φ H x d → Step S.length φ H S.length φ H' ∧ Good K R φ H' S ∧ Rp K R S.length φ H' x d := fun e r => by
    subst e
    exact ⟨.refl, g, r⟩
  have made : ∀ {T : Addr} {H' : Hp} {a b : V} {u v : D}, H T = none → H' = upd H T (.tup [a, b]) → Rp K R S.length φ H a u → Rp K R S.length φ H b v → Step S.length φ H S.length φ H' ∧ Good K R φ H' S ∧ Rp K R S.length φ H' (.ref T) (.tup [u, v]) := fun hn e ra rb => by
    subst e
    exact ⟨Step.new hn, g.step_new hn, new_tup hn (.cons ra (.cons rb .nil))⟩
  have of : ∀ {xs : List V} {ds : List D} {x : V}, Rps K R S.length φ H xs ds → ds[k]? = some d → xs[k]? = some x → Rp K R S.length φ H x d := fun q h1 h2 => by
    obtain ⟨d', e1, e2⟩ := q.get' h2
    rw [h1] at e1
    cases e1
    exact e2
  cases r with
  | rng lo m =>
    have h : some (if k < m then some (D.int (lo + k)) else none) = some (some d) := h
    simp only [Option.some.injEq] at h
    split at h
    · cases h
      refine ⟨by assumption, fun x H' y => ?_⟩
      obtain ⟨e1, e2⟩ := y
      subst e2
      exact stay e1 (.int _)
    · cases h
  | str z =>
    have h : some ((z.cps[k]?).map fun c => D.str ⟨#[c]⟩) = some (some d) := h
    simp only [Option.some.injEq] at h
    cases e : z.cps[k]? with
    | none => rw [e] at h; cases h
    | some c =>
      rw [e] at h
      cases h
      refine ⟨(Array.getElem?_eq_some_iff.mp e).1, fun x H' y => ?_⟩
      obtain ⟨e1, c', e2, e3⟩ := y
      rw [e] at e2
      cases e2
      subst e3
      exact stay e1 (.str _)
  | tup r =>
    cases r with
    | tup kk q =>
      rename_i ds xs
      have h : some ds[k]? = some (some d) := h
      simp only [Option.some.injEq] at h
      obtain ⟨v, h1, h2⟩ := q.get h
      exact ⟨⟨xs, v, kk, h1⟩, fun x H' y => stay y.1 (of q h (y.2 xs kk))⟩
  | lst r hx =>
    rename_i a x
    have h : (match asL S x with
      | some ds => some ds[k]?
      | none => none) = some (some d) := by
      cases x with
      | tup ds => exact absurd rfl (hx ds)
      | str z => cases r
      | _ => exact h
    split at h
    · rename_i ds e
      simp only [Option.some.injEq] at h
      obtain ⟨p, xs, ep, kk, q⟩ := asL_ok (c := ⟨K, R, ⟨fun _ => none, []⟩, E0⟩) g r e
      cases ep
      obtain ⟨v, h1, h2⟩ := q.get h
      exact ⟨⟨xs, v, kk, h1⟩, fun x H' y => stay y.1 (of q h (y.2 xs kk))⟩
    · cases h
  | enm r hx =>
    rename_i a x
    have h : (match asL S x with
      | some ds => some ((ds[k]?).map fun d => D.tup [.int k, d])
      | none => none) = some (some d) := by
      cases x with
      | tup ds => exact absurd rfl (hx ds)
      | _ => exact h
    split at h
    · rename_i ds e
      simp only [Option.some.injEq, Option.map_eq_some_iff] at h
      obtain ⟨u, hu, rfl⟩ := h
      obtain ⟨p, xs, ep, kk, q⟩ := asL_ok (c := ⟨K, R, ⟨fun _ => none, []⟩, E0⟩) g r e
      cases ep
      obtain ⟨v, h1, h2⟩ := q.get hu
      refine ⟨⟨xs, v, kk, h1⟩, fun x H' ⟨T, z, e1, e2, e3, e4⟩ => ?_⟩
      subst e1
      have ez := e4 xs kk
      rw [h1] at ez
      cases ez
      exact made e2 e3 (.int _) h2
    · cases h
  | enmT r =>
    cases r with
    | tup kk q =>
      rename_i ds xs
      have h : some ((ds[k]?).map fun d => D.tup [.int k, d]) = some (some d) := h
      simp only [Option.some.injEq, Option.map_eq_some_iff] at h
      obtain ⟨u, hu, rfl⟩ := h
      obtain ⟨v, h1, h2⟩ := q.get hu
      refine ⟨⟨xs, v, kk, h1⟩, fun x H' ⟨T, z, e1, e2, e3, e4⟩ => ?_⟩
      subst e1
      have ez := e4 xs kk
      rw [h1] at ez
      cases ez
      exact made e2 e3 (.int _) h2
  | enZ z =>
    have h : some ((z.cps[k]?).map fun c => D.tup [.int k, .str ⟨#[c]⟩]) = some (some d) := h
    simp only [Option.some.injEq] at h
    cases e : z.cps[k]? with
    | none => rw [e] at h; cases h
    | some c =>
      rw [e] at h
      cases h
      refine ⟨(Array.getElem?_eq_some_iff.mp e).1, fun x H' ⟨T, c', e1, e2, e3, e4⟩ => ?_⟩
      subst e1
      rw [e] at e4
      cases e4
      exact made e2 e3 (.int _) (.str _)
  | enS r =>
    cases r with
    | tup kk q =>
      rename_i j ds xs
      have h : some ((ds[k]?).map fun d => D.tup [.int (j + k : Nat), d]) = some (some d) := h
      simp only [Option.some.injEq, Option.map_eq_some_iff] at h
      obtain ⟨u, hu, rfl⟩ := h
      obtain ⟨v, h1, h2⟩ := q.get hu
      refine ⟨⟨xs, v, kk, h1⟩, fun x H' ⟨T, z, e1, e2, e3, e4⟩ => ?_⟩
      subst e1
      have ez := e4 xs kk
      rw [h1] at ez
      cases ez
      exact made e2 e3 (.int _) h2
  | zipT r q =>
    cases r with
    | tup kk r =>
      cases q with
      | tup kk2 q =>
        rename_i ds es xs ys
        have h : some (pairAt ds es k) = some (some d) := h
        simp only [Option.some.injEq] at h
        obtain ⟨u, v, h1, h2, rfl⟩ := pair_some h
        obtain ⟨x1, g1, r1⟩ := r.get h1
        obtain ⟨y1, g2, r2⟩ := q.get h2
        refine ⟨⟨xs, ys, x1, y1, kk, kk2, g1, g2⟩, fun x H' ⟨T, z, w, e1, e2, e3, e4, e5⟩ => ?_⟩
        subst e1
        have ez := e4 xs kk
        have ew := e5 ys kk2
        rw [g1] at ez
        rw [g2] at ew
        cases ez
        cases ew
        exact made e2 e3 r1 r2
  | zip r q hx =>
    rename_i a b x y
    have h : (match asL S x, asL S y with
      | some a, some b => some (pairAt a b k)
      | _, _ => none) = some (some d) := by
      cases x with
      | tup ds => exact absurd rfl (hx ds)
      | _ => exact h
    split at h
    · rename_i ds es e1 e2
      simp only [Option.some.injEq] at h
      obtain ⟨u, v, h1, h2, rfl⟩ := pair_some h
      obtain ⟨p, xs, ep, kk, r⟩ := asL_ok (c := ⟨K, R, ⟨fun _ => none, []⟩, E0⟩) g r e1
      obtain ⟨p2, ys, ep2, kk2, q⟩ := asL_ok (c := ⟨K, R, ⟨fun _ => none, []⟩, E0⟩) g q e2
      cases ep
      cases ep2
      obtain ⟨x1, g1, r1⟩ := r.get h1
      obtain ⟨y1, g2, r2⟩ := q.get h2
      refine ⟨⟨xs, ys, x1, y1, kk, kk2, g1, g2⟩, fun x H' ⟨T, z, w, e1, e2, e3, e4, e5⟩ => ?_⟩
      subst e1
      have ez := e4 xs kk
      have ew := e5 ys kk2
      rw [g1] at ez
      rw [g2] at ew
      cases ez
      cases ew
      exact made e2 e3 r1 r2
    · cases h
end
def forL (tg : Tg) (b : SemS) (s : Src) : Nat → Nat → SemS
  | 0, _, _, _ => none
  | m + 1, k, ρ, S => (match s.at_ S k with
    | some none => ret (.nx ρ) S
    | some (some d) => (match setT tg d ρ with
      | some ρ1 => bnd (b ρ1 S) fun fl S2 => (match fl with
        | .nx ρ2 => forL tg b s m (k + 1) ρ2 S2
        | .ct ρ2 => forL tg b s m (k + 1) ρ2 S2
        | .bk ρ2 => ret (.nx ρ2) S2
        | .rt d => ret (.rt d) S2)
      | none => none)
    | none => none)
/-- what is to be walked -/
abbrev SemI := Env → Store → Out Src
def RI (c : Ct) : RelT It Src := fun n φ H J s => SrcR c.K c.R n φ H s J
abbrev mI (c : Ct) (f : SemI) : TI := fun σ H R => Wp c (RI c) f σ H R
def sFor (tg : Tg) (fi : SemI) (b : SemS) (m : Nat) : SemS := fun ρ S => bnd (fi ρ S) fun s S1 => forL tg b s m 0 ρ S1
theorem pi_weak {X : Cx} {tg e : Expr} {t t' : TI} (h : PI X tg e t) (k : ∀ σ H Q, t' σ H Q → t σ H Q) : PI X tg e t' := ⟨fun pins s σ H R I w => h.run pins s σ H R I (k σ H R w)⟩
section
variable {X : Cx} {c : Ct} {e : Expr} {body : List Stmt} {tg : Tg} {tge : Expr} {b : SemS} {fi : SemI} {fe : Env → Store → Out D} {pos : Pos}
theorem for_mono {m : Nat} {d : Ends} {σ : L2.St} {H : Hp} (h : mT c (sFor tg fi b m) d σ H) : tFor (mI c fi) (gT c.K tg) (mT c b) d σ H := by
  obtain ⟨φ, S, ρ, r, hg, hr, hf, hp⟩ := h
  refine mT_fst (rel := RI c) hg hr hf hp fun s S1 J φ1 H1 s1 g1 e1 r1 hf1 hp1 => ?_
  refine ⟨fun k m σ H => ∃ φ S ρ r, Good c.K c.R φ H S ∧ EnvR c.K c.R S.length φ H ρ σ ∧ SrcR c.K c.R S.length φ H s J ∧ forL tg b s m k ρ S = some r ∧ PostF c φ S H d r, ⟨m, φ1, S1, ρ, r, g1, e1, r1, hf1, hp1⟩, ?_⟩
  rintro k m σ2 H2 ⟨φ2, S2, ρ2, r2, g2, e2, q2, hf2, hp2⟩
  cases m with
  | zero => cases hf2
  | succ m =>
    have hf2 : (match s.at_ S2 k with
      | some none => ret (.nx ρ2) S2
      | some (some d) => (match setT tg d ρ2 with
        | some ρ1 => bnd (b ρ1 S2) fun fl S2 => (match fl with
          | .nx ρ2 => forL tg b s m (k + 1) ρ2 S2
          | .ct ρ2 => forL tg b s m (k + 1) ρ2 S2
          | .bk ρ2 => ret (.nx ρ2) S2
          | .rt d => ret (.rt d) S2)
        | none => none)
      | none => none) = some r2 := hf2
    split at hf2
    · rename_i ei
      cases hf2
      exact .inl ⟨q2.stop g2 ei, hp2.next g2 e2⟩
    · rename_i dd ei
      split at hf2
      · rename_i ρ3 es
        obtain ⟨go, yl⟩ := q2.item g2 ei
        refine .inr ⟨go, fun σ H => ∃ m', m' < m + 1 ∧ ∃ φ S ρ r, Good c.K c.R φ H S ∧ EnvR c.K c.R S.length φ H ρ σ ∧ SrcR c.K c.R S.length φ H s J ∧ forL tg b s m' (k + 1) ρ S = some r ∧ PostF c φ S H d r, fun _ _ z => z, fun x H' y => ?_⟩
        obtain ⟨st, g3, rx⟩ := yl x H' y
        obtain ⟨σ3, h1, _, h3⟩ := setT_ok es rx (e2.step st)
        refine h3 _ ?_
        exact body_mono g3 h1 hf2 (hp2.from st) fun ρ4 S4 σ4 φ4 H4 s4 g4 e4 hf4 hp4 => ⟨m, Nat.lt_succ_self m, φ4, S4, ρ4, r2, g4, e4, q2.step (st.trans s4), hf4, hp4⟩
      · cases hf2
    · cases hf2
theorem t_for {m : Nat} (hK : c.K = X.K) (hpo : PassesOwn (model X.prog X.w) X.A X.env X.xe) (hcalm : X.calm = true) (hi : PI X tge e (mI c fi)) (hg : PG X tge (gT c.K tg)) (hb : PSs X body (mT c b)) (hs : ∀ x, foldedSetIterable e X.env x = pure x) : PS X (.For tge e body [] pos) (mT c (sFor tg fi b m)) :=
  ps_weak (ps_for hpo hcalm hi hg hb hs) fun _ _ _ => for_mono

/-- a list, a tuple or a text by its value -/
theorem pi_any {tl : TE} (hl : PE X e tl) : PI X tge e (fun σ H R => tl σ H fun x H1 => ((∃ a, x = .ref a ∧ (∃ xs, SqL X.K H1 a xs) ∧ R (Itl X.K a) H1) ∨ (∃ a, x = .ref a ∧ (∃ xs, SqT X.K H1 a xs) ∧ R (Itt X.K a) H1)) ∨ (∃ z, x = .str z ∧ R (Its z) H1)) := by
  refine ⟨fun pins s σ H R I h => ?_⟩
  -- the value first, then its iterator by the three rules, each over a slot that holds the value
  have lift : ∀ (v : Value) (s1 : Shared) (x : V) (H1 : Hp), Inv X pins σ H1 s1 → RelV x v → ((∃ a, x = .ref a ∧ (∃ xs, SqL X.K H1 a xs) ∧ R (Itl X.K a) H1) ∨ (∃ a, x = .ref a ∧ (∃ xs, SqT X.K H1 a xs) ∧ R (Itt X.K a) H1)) ∨ (∃ z, x = .str z ∧ R (Its z) H1) →
      wpAny (model X.prog X.w) X.A (pyIter v) (PIE X pins σ tge R) X.xe s1 := fun v s1 x H1 I1 r1 q => by
    rcases q with (⟨a, rfl, ⟨xs, hq⟩, q⟩ | ⟨a, rfl, ⟨xs, hq⟩, q⟩) | ⟨z, rfl, q⟩
    · cases r1
      obtain ⟨its, _, pl, _⟩ := I1.list hq
      refine wpAny_pyIter_list pl.isList ⟨s1.heap.objs.size, [s1.heap.objs.size], _, Itl X.K a, H1, rfl, I1.kept (t' := s1.toks) fun b o e => Heap.get?_push_of_some _ e, turn_list a _, ⟨_, Heap.get?_push_size _ rfl, rfl, rfl⟩, fun b hb => ?_, q⟩
      rw [show b = s1.heap.objs.size by simpa using hb]
      exact I1.fpOk (Nat.le_refl _) (I1.hok.fresh (Nat.le_refl _))
    · cases r1
      obtain ⟨its, _, pl, _⟩ := I1.tuple hq
      refine wpAny_pyIter_tuple (items := its.toArray) pl ⟨s1.heap.objs.size, [s1.heap.objs.size], _, Itt X.K a, H1, rfl, I1.kept (t' := s1.toks) fun b o e => Heap.get?_push_of_some _ e, turn_tuple a _, ⟨_, Heap.get?_push_size _ rfl, rfl, rfl⟩, fun b hb => ?_, q⟩
      rw [show b = s1.heap.objs.size by simpa using hb]
      exact I1.fpOk (Nat.le_refl _) (I1.hok.fresh (Nat.le_refl _))
    · obtain ⟨t, rfl⟩ := r1
      have both : ∀ (it : Addr) (ty : String), ty = "str_ascii_iterator" ∨ ty = "str_iterator" → Turn X.prog X.w X.K tge (Its z) [it] it (fun i h => h.IsStrIter it ty z t i) := fun it ty h => turn_str it z t ty h
      cases ha : z.cps.all (· < 128) with
      | false => exact wpAny_pyIter_wide ha (pi_one (tk := s1.toks) I1 _ (both _ _ (.inr rfl)) ⟨_, Heap.get?_push_size _ rfl, rfl, rfl⟩ q)
      | true => exact wpAny_pyIter_ascii ha (pi_one (tk := s1.toks) I1 _ (both _ _ (.inl rfl)) ⟨_, Heap.get?_push_size _ rfl, rfl, rfl⟩ q)
  exact thn (hl.run pins s σ H _ I h) fun v s1 ⟨x, H1, I1, r1, q1⟩ => lift v s1 x H1 I1 r1 q1
def iSeq (fe : Env → Store → Out D) : SemI := fun ρ S => bnd (fe ρ S) fun d S1 => match d with
  | .tup ds => ret (.seq (.tup ds)) S1
  | .str z => ret (.seq (.str z)) S1
  | d => (match asL S1 d with
    | some _ => ret (.seq d) S1
    | none => none)
theorem i_seq (hK : c.K = X.K) (he : PE X e (mE c fe)) : PI X tge e (mI c (iSeq fe)) := by
  refine pi_weak (pi_any he) fun σ H R ⟨φ, S, ρ, z, hg, hr, hf, hp⟩ => ?_
  refine Wp.fst hg hr hf hp fun d S1 v φ1 H1 s1 g1 e1 r1 hf1 hp1 => ?_
  rw [← hK]
  have r1 : Rp c.K c.R S1.length φ1 H1 v d := r1
  split at hf1
  · cases hf1
    cases r1 with
    | tup k q => exact .inl (.inr ⟨_, rfl, ⟨_, k⟩, hp1.now g1 (.tup (.tup k q))⟩)
  · cases hf1
    cases r1
    exact .inr ⟨_, rfl, hp1.now g1 (.str _)⟩
  · rename_i hx _
    split at hf1
    · rename_i ea
      cases hf1
      obtain ⟨p, xs, rfl, k, q⟩ := asL_ok g1 r1 ea
      exact .inl (.inl ⟨_, rfl, ⟨_, k⟩, hp1.now g1 (.lst r1 fun ds => hx ds)⟩)
    · cases hf1
def iRg1 (fs : Env → Store → Out (List D)) : SemI := fun ρ S => bnd (fs ρ S) fun ds S1 => match ds with
  | [.int j] => guard' (decide (-(2 ^ 62) ≤ j) && decide (j < 2 ^ 62)) (ret (.rng 0 j.toNat) S1)
  | _ => none
def iRg2 (fs : Env → Store → Out (List D)) : SemI := fun ρ S => bnd (fs ρ S) fun ds S1 => match ds with
  | [.int i, .int j] => guard' (decide (-(2 ^ 62) ≤ i) && decide (i < 2 ^ 62) && decide (-(2 ^ 62) ≤ j) && decide (j < 2 ^ 62)) (ret (.rng i (j - i).toNat) S1)
  | _ => none
theorem i_rg1 {a : Expr} {p pos : Pos} {fs : Env → Store → Out (List D)} (hg : Gl X "range") (hm : X.mg "range" = none) (ha : PA X [a] (mA c fs)) (hs : starEach [a] X.env = [(false, eval a X.env)]) : PI X tge (.Call (.Name "range" p) [a] [] pos) (mI c (iRg1 fs)) := by
  refine pi_weak (pi_range1 hg hm ha hs) fun σ H R ⟨φ, S, ρ, z, hg, hr, hf, hp⟩ => ?_
  refine Wp.fst hg hr hf hp fun ds S1 vs φ1 H1 s1 g1 e1 r1 hf1 hp1 => ?_
  split at hf1
  · obtain ⟨v, rfl, rv⟩ := Rps.one r1
    cases rv
    obtain ⟨hl, hf1⟩ := guard_ok hf1
    cases hf1
    simp only [Bool.and_eq_true, decide_eq_true_eq] at hl
    exact ⟨_, rfl, hl.1, hl.2, hp1.now g1 (.rng _ _)⟩
  · cases hf1
end
end Pv
namespace Pv
open PySem PySem.Spec PyProof.Rows L2
def wipeD (ρ : Env) : List Nat → Env
  | [] => ρ
  | v :: vs => (wipeD ρ vs).set v none
theorem wipeD_length (ρ : Env) : ∀ vs : List Nat, (wipeD ρ vs).length = ρ.length
  | [] => rfl
  | v :: vs => by unfold wipeD; rw [List.length_set, wipeD_length ρ vs]
theorem wipeD_some {ρ : Env} {i : Nat} {x : D} : ∀ {vs : List Nat}, (wipeD ρ vs)[i]? = some (some x) → ρ[i]? = some (some x) ∧ i ∉ vs
  | [], h => ⟨h, by simp⟩
  | v :: vs, h => by
    unfold wipeD at h
    by_cases hi : v = i
    · subst hi
      by_cases hv : v < (wipeD ρ vs).length
      · rw [List.getElem?_set_self hv] at h; cases h
      · rw [List.getElem?_eq_none (by simpa using hv)] at h; cases h
    · rw [List.getElem?_set_ne hi] at h
      obtain ⟨h1, h2⟩ := wipeD_some h
      exact ⟨h1, by simp only [List.mem_cons, not_or]; exact ⟨fun e => hi e.symm, h2⟩⟩
theorem wipe_in {σ : L2.St} {i : Nat} : ∀ {vs : List Nat}, i ∈ vs → i < σ.length → (wipe σ vs)[i]? = some none
  | [], h, _ => by cases h
  | v :: vs, h, hl => by
    unfold wipe
    by_cases hi : v = i
    · subst hi
      rw [List.getElem?_set_self (by rw [wipe_length]; exact hl)]
    · rw [List.getElem?_set_ne hi]
      rcases List.mem_cons.mp h with e | e
      · exact absurd e.symm hi
      · exact wipe_in e hl
theorem wipe_eq {σ σ2 : L2.St} {vs : List Nat} (hl : σ2.length = σ.length) (h : ∀ j, j ∉ vs → σ2[j]? = (wipe σ vs)[j]?) : wipe σ2 vs = wipe σ vs := by
  refine List.ext_getElem? fun j => ?_
  by_cases hj : j ∈ vs
  · by_cases hb : j < σ.length
    · rw [wipe_in hj hb, wipe_in hj (by omega)]
    · rw [List.getElem?_eq_none (by rw [wipe_length]; omega), List.getElem?_eq_none (by rw [wipe_length]; omega)]
  · rw [wipe_out hj, h j hj]
section
variable {K : PySem.W.Frag} {R : RT} {n : Nat} {φ : Nat → Addr} {H : Hp}
theorem EnvR.wipe {ρ : Env} {σ : L2.St} (e : EnvR K R n φ H ρ σ) (vs : List Nat) : EnvR K R n φ H (wipeD ρ vs) (wipe σ vs) :=
  ⟨by rw [wipeD_length, wipe_length]; exact e.len, fun i d h => by
    obtain ⟨h1, h2⟩ := wipeD_some h
    obtain ⟨v, h3, h4⟩ := e.at_ i d h1
    exact ⟨v, by rw [wipe_out h2]; exact h3, h4⟩⟩
theorem SrcR.hide {s : Src} {J : It} {p : Addr} {o : HO} (r : SrcR K R n φ H s J) (hn : H p = none) : SrcR K (addR R p) n φ (upd H p o) s J := by
  cases r with
  | rng lo m => exact .rng lo m
  | str z => exact .str z
  | tup r => exact .tup (r.hide hn)
  | lst r h => exact .lst (r.hide hn) h
  | enm r h => exact .enm (r.hide hn) h
  | enmT r => exact .enmT (r.hide hn)
  | enS r => exact .enS (r.hide hn)
  | enZ z => exact .enZ z
  | zipT r q => exact .zipT (r.hide hn) (q.hide hn)
  | zip r q h => exact .zip (r.hide hn) (q.hide hn) h
end
/-- no exception is let out -/
def bndN {α β : Type} (m : Out α) (k : α → Store → Out β) : Out β := match m with
  | some (.ok a, S) => k a S
  | _ => none
@[simp] theorem bndN_ok {α β : Type} (a : α) (S : Store) (k : α → Store → Out β) : bndN (some (.ok a, S)) k = k a S := rfl
@[simp] theorem bndN_ret {α β : Type} (a : α) (S : Store) (k : α → Store → Out β) : bndN (ret a S) k = k a S := rfl
@[simp] theorem bndN_none {α β : Type} (k : α → Store → Out β) : bndN none k = none := rfl
@[simp] theorem bndN_ex {α β : Type} (x : Xd) (S : Store) (k : α → Store → Out β) : bndN (some (.ex x, S)) k = none := rfl
def cndE (cnd : Option (Env → Store → Out Bool)) (ρ : Env) (S : Store) : Out Bool := match cnd with
  | none => ret true S
  | some t => t ρ S
def compL (tg : Tg) (cnd : Option (Env → Store → Out Bool)) (fe : Env → Store → Out D) (s : Src) (ρ : Env) : Nat → Nat → List D → Store → Out (List D)
  | 0, _, _, _ => none
  | m + 1, k, acc, S => (match s.at_ S k with
    | some none => ret acc S
    | some (some d) => (match setT tg d ρ with
      | some ρ1 => bndN (cndE cnd ρ1 S) fun b S1 => if b then bndN (fe ρ1 S1) fun x S2 => guard' (decide (acc.length < line)) (compL tg cnd fe s ρ m (k + 1) (acc ++ [x]) S2) else compL tg cnd fe s ρ m (k + 1) acc S1
      | none => none)
    | none => none)
def eComp (tg : Tg) (fi : SemI) (cnd : Option (Env → Store → Out Bool)) (fe : Env → Store → Out D) (vs : List Nat) (m : Nat) (ρ : Env) (S : Store) : Out D :=
  bnd (fi ρ S) fun s S1 => bnd (compL tg cnd fe s (wipeD ρ vs) m 0 [] S1) fun ds S2 => ret (.lst ds) S2
/-- within a comprehension: nothing is raised; any addresses may be unknown -/
abbrev Ct.inn (c : Ct) (R : RT) : Ct := { c with R := R, E := E0 }
def xE (c : Ct) (fe : Env → Store → Out D) : TE := fun σ H Q => ∃ R, Same R c.R ∧ mE (c.inn R) fe σ H Q
def xB (c : Ct) (t : Env → Store → Out Bool) : TT := fun σ H Q => ∃ R, Same R c.R ∧ mB (c.inn R) t σ H Q
def xT (c : Ct) : Option (Env → Store → Out Bool) → TT
  | none => tYes
  | some t => xB c t
theorem setT_length {t : Tg} {d : D} {ρ ρ' : Env} (h : setT t d ρ = some ρ') : ρ'.length = ρ.length := by
  have both : (∀ (t : Tg) (d : D) (ρ ρ' : Env), setT t d ρ = some ρ' → ρ'.length = ρ.length) := by
    intro t
    refine Tg.rec (motive_1 := fun t => ∀ (d : D) (ρ ρ' : Env), setT t d ρ = some ρ' → ρ'.length = ρ.length) (motive_2 := fun ts => ∀ (ds : List D) (ρ ρ' : Env), setTs ts ds ρ = some ρ' → ρ'.length = ρ.length) ?_ ?_ ?_ ?_ t
    · intro i d ρ ρ' h
      simp only [setT] at h
      cases h
      exact List.length_set
    · intro ts ih d ρ ρ' h
      simp only [setT] at h
      split at h
      · exact ih _ _ _ h
      · cases h
    · intro ds ρ ρ' h
      simp only [setTs] at h
      split at h
      · cases h; rfl
      · cases h
    · intro t ts ih1 ih2 ds ρ ρ' h
      simp only [setTs] at h
      split at h
      · split at h
        · rename_i e
          exact (ih2 _ _ _ h).trans (ih1 _ _ _ e)
        · cases h
      · cases h
  exact both t d ρ ρ' h
section
variable {X : Cx} {c : Ct} {elt tge iter : Expr} {ifs : List Expr} {scope : Scope} {own : List (Str × Nat)} {pos : Pos} {tg : Tg} {fi : SemI} {cnd : Option (Env → Store → Out Bool)} {fe : Env → Store → Out D}
/-- what holds between two turns of a comprehension: the new list at A, that nobody knows -/
def CW (c : Ct) (tg : Tg) (cnd : Option (Env → Store → Out Bool)) (fe : Env → Store → Out D) (s : Src) (J : It) (ρw : Env) (σw : L2.St) (S1 : Store) (φ1 : Nat → Addr) (H1 : Hp) (A : Addr) (r : Rs D × Store) (k m : Nat) (H : Hp) : Prop :=
  ∃ φ S acc xs, Step S1.length φ1 H1 S.length φ H ∧ Good c.K (addR c.R A) φ H S ∧ EnvR c.K (addR c.R A) S.length φ H ρw σw ∧ SrcR c.K (addR c.R A) S.length φ H s J ∧
    H A = some (.lst xs) ∧ (∀ i, i < S.length → A ≠ φ i) ∧ Rps c.K (addR c.R A) S.length φ H xs acc ∧ bnd (compL tg cnd fe s ρw m k acc S) (fun ds S2 => ret (.lst ds) S2) = some r
section
variable {K : PySem.W.Frag} {R : RT} {n n' : Nat} {φ φ' : Nat → Addr} {H H' : Hp} {A : Addr} {o : HO}
theorem Step.hid (s : Step n φ H n' φ' H') (h : H A = none) : Step n φ H n' φ' (upd H' A o) :=
  ⟨s.le, s.same, fun a o' e ht hc => by rw [upd_ne (ne_of_none e h)]; exact s.keep a o' e ht hc, fun a o' e => by rw [upd_ne (ne_of_none e h)]; exact s.dom a o' e, s.fresh, fun a xs e => by rw [upd_ne (ne_of_none e h)]; exact s.tups a xs e,
    fun a o' u e => by rw [upd_ne (ne_of_none e h)]; exact s.frzs a o' u e⟩
theorem EnvR.swap {ys : List V} {ρ : Env} {σ : L2.St} (hA : H A = some (.lst ys)) (e : EnvR K (addR R A) n φ H ρ σ) : EnvR K (addR R A) n φ (upd H A o) ρ σ :=
  ⟨e.len, fun i d h => let ⟨v, h1, h2⟩ := e.at_ i d h; ⟨v, h1, h2.swap hA⟩⟩
theorem SrcR.swap {ys : List V} {s : Src} {J : It} (hA : H A = some (.lst ys)) (r : SrcR K (addR R A) n φ H s J) : SrcR K (addR R A) n φ (upd H A o) s J := by
  cases r with
  | rng lo m => exact .rng lo m
  | str z => exact .str z
  | tup r => exact .tup (r.swap hA)
  | lst r h => exact .lst (r.swap hA) h
  | enm r h => exact .enm (r.swap hA) h
  | enmT r => exact .enmT (r.swap hA)
  | enS r => exact .enS (r.swap hA)
  | enZ z => exact .enZ z
  | zipT r q => exact .zipT (r.swap hA) (q.swap hA)
  | zip r q h => exact .zip (r.swap hA) (q.swap hA) h
theorem Good.swap {ys : List V} {S : Store} (hA : H A = some (.lst ys)) (hne : ∀ i, i < S.length → A ≠ φ i) (g : Good K (addR R A) φ H S) (ho : ∀ ps, o ≠ .tbl ps := by exact fun _ z => nomatch z) : Good K (addR R A) φ (upd H A o) S := by
  refine ⟨fun i c e => ?_, g.inj, fun a h => ?_, g.cof, g.tab.put hA (fun _ z => nomatch z) lst_code ho⟩
  · have hi : i < S.length := (List.getElem?_eq_some_iff.mp e).1
    have q := g.at_ i c e
    have ne : φ i ≠ A := fun z => hne i hi z.symm
    cases c with
    | lst ds =>
      obtain ⟨xs, e1, r⟩ := q
      exact ⟨xs, by rw [upd_ne ne]; exact e1, r.swap hA⟩
    | dct kvs =>
      obtain ⟨ps, e1, ek, r⟩ := q
      exact ⟨ps, by rw [upd_ne ne]; exact e1, ek, r.swap hA⟩
    | dn kvs =>
      obtain ⟨ps, vs, e1, ek, ev, r, nk⟩ := q
      exact ⟨ps, vs, by rw [upd_ne ne]; exact e1, ek, ev, r.swap hA, fun p hp => ⟨(nk p hp).1.keep fun _ _ => sqT_upd (fun _ z => by rw [hA] at z; cases z) (fun _ _ z => by rw [hA] at z; cases z), (nk p hp).2⟩⟩
  · by_cases q : a = A
    · subst q; exact ⟨o, upd_same⟩
    · obtain ⟨o', e⟩ := g.off a h
      exact ⟨o', by rw [upd_ne q]; exact e⟩
end
theorem comp_mono {m : Nat} (hsl : ∀ j ∈ tg.slots, j ∈ own.map (·.2)) {σ : L2.St} {H : Hp} {Q : VK} (h : mS c (eComp tg fi cnd fe (own.map (·.2)) m) σ H Q) : tLc (mI c fi) (gT c.K tg) (xT c cnd) (xE c fe) (own.map (·.2)) σ H Q := by
  obtain ⟨φ, S, ρ, r, hg, hr, hf, hp⟩ := h
  refine mS_fst (rel := RI c) hg hr hf hp fun s S1 J φ1 H1 s1 g1 e1 r1 hf1 hp1 => ?_
  intro A hA
  have hRA : ¬ c.R A := fun hr => by
    obtain ⟨o, e⟩ := g1.off A hr
    rw [hA] at e; cases e
  generalize hρ : wipeD ρ (own.map (·.2)) = ρw at hf1
  generalize hσ : wipe σ (own.map (·.2)) = σw
  have ew : EnvR c.K c.R S1.length φ1 H1 ρw σw := by
    rw [← hρ, ← hσ]
    exact e1.wipe _
  refine ⟨CW c tg cnd fe s J ρw σw S1 φ1 H1 A r, ⟨m, φ1, S1, [], [], Step.new hA, g1.hide hA, ew.hide hA, SrcR.hide r1 hA, upd_same, fun i hi e => ?_, .nil, hf1⟩, ?_⟩
  · obtain ⟨o, q, _⟩ := g1.there hi
    rw [← e, hA] at q; cases q
  rintro k m H2 ⟨φ2, S2, acc, xs, s2, g2, e2, q2, hA2, hne, rA, hf2⟩
  cases m with
  | zero => cases hf2
  | succ m =>
    cases ea : s.at_ S2 k with
    | none =>
      simp only [compL, ea, bnd_none] at hf2
      cases hf2
    | some oi =>
      cases oi with
      | none =>
        simp only [compL, ea, bnd_ret] at hf2
        cases hf2
        exact .inl ⟨q2.stop g2 ea, hp1 xs A φ2 H2 s2 hA hRA hA2 hne g2 rA⟩
      | some dd =>
        simp only [compL, ea] at hf2
        cases es : setT tg dd ρw with
        | none =>
          simp only [es, bnd_none] at hf2
          cases hf2
        | some ρ1 =>
          simp only [es] at hf2
          obtain ⟨go, yl⟩ := q2.item g2 ea
          refine .inr ⟨go, fun H => ∃ m', m' < m + 1 ∧ CW c tg cnd fe s J ρw σw S1 φ1 H1 A r (k + 1) m' H, fun _ z => z, fun x H' y => ?_⟩
          obtain ⟨st, g2, rx⟩ := yl x H' y
          have s2 := s2.trans st
          have hA2 : H' A = some (.lst xs) := st.keep A _ hA2 (fun _ z => nomatch z) hne
          have e2 := e2.step st
          have q2 := q2.step st
          have rA := rA.step st
          obtain ⟨σ3, h1, h2, h3⟩ := setT_ok es rx e2
          have hw : wipe σ3 (own.map (·.2)) = σw := by
            rw [← hσ]
            refine wipe_eq ?_ fun j hj => by rw [h2 j fun hm => hj (hsl j hm), hσ]
            have l1 := h1.len
            have l2 := setT_length es
            have l3 := e2.len
            rw [← hσ, wipe_length] at l3
            omega
          refine h3 _ ⟨hw, ?_⟩
          -- behind the test
          have go : ∀ (b : Bool) (S3 : Store) (φ3 : Nat → Addr) (H3 : Hp), Step S2.length φ2 H' S3.length φ3 H3 → Good c.K (addR c.R A) φ3 H3 S3 → EnvR c.K (addR c.R A) S3.length φ3 H3 ρ1 σ3 →
              bnd (if b then bndN (fe ρ1 S3) fun x S2 => guard' (decide (acc.length < line)) (compL tg cnd fe s ρw m (k + 1) (acc ++ [x]) S2) else compL tg cnd fe s ρw m (k + 1) acc S3) (fun ds S2 => ret (.lst ds) S2) = some r →
              if b = true then xE c fe σ3 H3 fun y H4 => ∃ acc', H4 A = some (.lst acc') ∧ acc'.length < sizeLine ∧ ∃ m', m' < m + 1 ∧ CW c tg cnd fe s J ρw σw S1 φ1 H1 A r (k + 1) m' (upd H4 A (.lst (acc' ++ [y])))
              else ∃ m', m' < m + 1 ∧ CW c tg cnd fe s J ρw σw S1 φ1 H1 A r (k + 1) m' H3 := by
            intro b S3 φ3 H3 s3 g3 e3 hf3
            have hA3 : H3 A = some (.lst xs) := s3.keep A _ hA2 (fun _ z => nomatch z) hne
            have hne3 := s3.apart hA2 hne
            cases b with
            | false => exact iteF ⟨m, Nat.lt_succ_self m, φ3, S3, acc, xs, s2.trans s3, g3, e2.step s3, q2.step s3, hA3, hne3, rA.step s3, hf3⟩
            | true =>
              refine iteT ⟨addR c.R A, ⟨rfl, rfl⟩, ?_⟩
              have hf3 : bnd (bndN (fe ρ1 S3) fun x S2 => guard' (decide (acc.length < line)) (compL tg cnd fe s ρw m (k + 1) (acc ++ [x]) S2)) (fun ds S2 => ret (.lst ds) S2) = some r := hf3
              cases ef : fe ρ1 S3 with
              | none => rw [ef] at hf3; cases hf3
              | some q =>
                obtain ⟨q, S4⟩ := q
                rw [ef] at hf3
                cases q with
                | ex x => cases hf3
                | ok x =>
                  refine ⟨φ3, S3, ρ1, _, g3, e3, ef, fun y φ4 H4 s4 g4 r4 => ?_⟩
                  have hA4 : H4 A = some (.lst xs) := s4.keep A _ hA3 (fun _ z => nomatch z) hne3
                  have hne4 := s4.apart hA3 hne3
                  have st : Step S2.length φ2 H' S4.length φ4 H4 := s3.trans s4
                  by_cases hl : acc.length < line
                  · simp only [bndN_ok, decide_eq_true hl, guard_true] at hf3
                    refine ⟨xs, hA4, ?_, m, Nat.lt_succ_self m, φ4, S4, acc ++ [x], xs ++ [y], (s2.trans st).hid hA, g4.swap hA4 hne4, (e2.step st).swap hA4, (q2.step st).swap hA4, upd_same, hne4, ((rA.step st).snoc r4).swap hA4, hf3⟩
                    rw [rA.length]
                    exact Nat.lt_of_lt_of_le hl (by decide)
                  · simp only [bndN_ok, decide_eq_false hl, guard', Bool.false_eq_true, if_false, bnd_none] at hf3
                    cases hf3
          cases cnd with
          | none => exact go true S2 φ2 H' Step.refl g2 h1 hf2
          | some t =>
            refine ⟨addR c.R A, ⟨rfl, rfl⟩, ?_⟩
            cases et : t ρ1 S2 with
            | none => simp only [cndE, et, bndN_none, bnd_none] at hf2; cases hf2
            | some q =>
              obtain ⟨q, S3⟩ := q
              cases q with
              | ex x => simp only [cndE, et, bndN_ex, bnd_none] at hf2; cases hf2
              | ok b =>
                simp only [cndE, et, bndN_ok] at hf2
                refine ⟨φ2, S2, ρ1, _, g2, h1, et, fun b' φ3 H3 s3 g3 rb => ?_⟩
                cases rb
                exact go b S3 φ3 H3 s3 g3 (h1.step s3) hf2
theorem s_lc {m : Nat} (hK : c.K = X.K) (hc : X.calm = true) (hN : X.N.Nodup) (hsl : ∀ j ∈ tg.slots, j ∈ own.map (·.2)) (hi : PI X tge iter (mI c fi)) (ok : BlkOk X.N X.env.scope scope own)
    (hg : ∀ (s : Shared) (H : Hp) (C : Addr) (cl : List (Str × Addr)) (fp : List Addr), PG (X.blk s H scope (compEnvC scope cl C X.env) fp) tge (gT c.K tg)) (ht : ∀ (s : Shared) (H : Hp) (C : Addr) (cl : List (Str × Addr)) (fp : List Addr), PTs (X.blk s H scope (compEnvC scope cl C X.env) fp) ifs (xT c cnd))
    (he : ∀ (s : Shared) (H : Hp) (C : Addr) (cl : List (Str × Addr)) (fp : List Addr), PE (X.blk s H scope (compEnvC scope cl C X.env) fp) elt (xE c fe)) (hs : ∀ x, foldedSetIterable iter X.env x = pure x) : PE X (.ListComp elt [⟨tge, iter, ifs, 0⟩] scope pos) (mS c (eComp tg fi cnd fe (own.map (·.2)) m)) :=
  pe_weak (pe_lc hc hN hi ok hg ht he hs) fun _ _ _ => comp_mono hsl
end
end Pv
namespace Pv
open PySem PySem.Spec PyProof.Rows L2
theorem Gds.mono {j k : Nat} {A : Around} (g : Gds k A) (h : j ≤ k) : Gds j A := fun q => g (Nat.le_trans q h)
theorem FnG.mono {P : Program} {w : World} {K : PySem.W.Frag} {mg : Str → Option Value} {base : Heap} {CX : CXT} {j k : Nat} {f : Addr} {fd : FuncData} {ps : List Str} {sp : Sp} (F : FnG P w K mg base CX j f fd ps sp) (h : j ≤ k) : FnG P w K mg base CX k f fd ps sp :=
  { len := F.len, run := fun A outer s H args us vs Q E room gd => F.run A outer s H args us vs Q E (room.mono h) (gd.mono h) }
section
variable {X : Cx} {CX : CXT} {k : Nat} {f : Addr} {fd : FuncData} {ps : List Str} {sp : Sp} {E : XK} {x : Str} {p pos : Pos} {e : Expr} {es : List Expr} {t : TA} {ds : List Value} {dvs : List V}
theorem run_g {pins : List (Addr × Obj)} {σ : L2.St} {H : Hp} {s : Shared} {Q : VK} {us : List Value} {vs : List V} (F : FnG X.prog X.w X.K X.mg X.base CX k f fd ps sp) (room : Room k X.A) (hgd : Gds k X.A) (bind : Binds X.K fd ps ds) (hdv : Vals dvs ds) (pass : Passes CX X E)
    (I : Inv X pins σ H s) (rel : Vals vs us) (hw : sp (vs ++ dvs) H Q E) : wpAny (model X.prog X.w) X.A (call (.ref f) us) (EP X pins σ Q) X.xe s := by
  have both : Vals (vs ++ dvs) (us ++ ds) := Vals.append rel hdv
  have size : (us ++ ds).length = ps.length := (Vals.length both).symm.trans (F.len _ _ _ _ hw)
  have here := F.run X.A X.stack s H ⟨us, []⟩ (us ++ ds) (vs ++ dvs) Q E room hgd I.env0 (bind s us I.kIn size) both hw
  refine wpAny_call (codeAny_mono here fun res s' end_ => ?_)
  match res, end_ with
  | .error e, end_ => exact pass pins σ H s e s' I end_
  | .ok (.ret u), end_ => exact I.after end_
theorem pe_callG (F : FnG X.prog X.w X.K X.mg X.base CX k f fd ps sp) (room : Room k X.A) (hgd : Gds k X.A) (glob : Gl X x) (at_ : X.mg x = some (.ref f)) (kp : PySem.W.keepIn X.K (.ref f) = true) (bind : Binds X.K fd ps ds) (hdv : Vals dvs ds) (pass : Passes CX X E) (args : PA X (e :: es) t)
    (hdb : (x == ("__debug__" : Str)) = false) (he : starEach (e :: es) X.env = (false, eval e X.env) :: starEach es X.env) (hpl : (backTo pos (starEach es X.env)).any (·.1) = false) : PE X (.Call (.Name x p) (e :: es) [] pos) (tCall sp dvs E t) :=
  { run := fun pins s σ H Q I w => wpAny_Call_Name_kw (ld_glob I glob at_ (PySem.W.callWith_K (h₀ := X.base) I.ok.mod.kin kp
      (thn (args.run pos pins s σ H _ I w) fun us s1 ⟨vs, H1, I1, rel, q⟩ => ⟨I1.kIn, run_g F room hgd bind hdv pass I1 rel q⟩) he hpl) hdb) }
end
/-- a def by its body -/
theorem FnG.of {CX : CXT} {P : Program} {w : World} {K : PySem.W.Frag} {mg : Str → Option Value} {base : Heap} {k : Nat} {f : Addr} {x qual : Str} {params : Arguments} {body : List Stmt} {scope : Scope} {dvs : List V} {kws : List (Str × V)} {fd : FuncData} {N ps : List Str} {sp : Sp}
    (D : FunD K x qual params body scope dvs kws f fd) (S : FnScope N ps scope) (len : ∀ vs H Q E, sp vs H Q E → vs.length = ps.length)
    (hbody : ∀ (cdv : Value), fd.code = cdv → ∀ (A : Around) (outer : List PySem.Env) (s : Shared) (H : Hp) (vs : List V) (Q : VK) (E : XK), Room k (A.deeper (envOfC qual scope s.heap.objs.size f cdv)) → Gds k A → sp vs H Q E →
      ∃ t, PSs (cxOf CX P w K mg base N qual scope f cdv A outer s H E) body t ∧ t { nx := fun _ H' => Q .non H', rt := Q } (start N vs) H) : FnG P w K mg base CX (k + 1) f fd ps sp := by
  obtain ⟨oc, od, dV, kV, doc, pm, an, cdv, ct, osl, rfl, lk, code, _, _⟩ := D.ex
  refine ⟨len, fun A outer s H args us vs Q E room gd e0 bind rel hw => ?_⟩
  have size := len _ _ _ _ hw
  have inK : K.In s.heap := e0.mod.kin.keeps fun b o q => (e0.bs b o q).1
  have lim : s.heap.NoLimit := e0.mod.nolimit.keeps fun b o q => (e0.bs b o q).1
  have kinds : ∀ y ∈ ps.zip us, scope.names.lookup y.1 = some .local ∨ (scope.names.lookup y.1 = some .cell ∧ ((cellsFrom (s.heap.objs.size + 1) scope.names []).lookup y.1).isSome = true) := by
    rintro ⟨y, u⟩ hy
    exact (S.par y (List.of_mem_zip hy).1).imp id fun q => ⟨q, PySem.W.cellsFrom_some _ _ _ (.inl q)⟩
  refine codeAny_call_function room.depth (inK _ _ lk) rfl S.co S.gen rfl (PySem.W.codeRec_of inK code) (bind _ _ _ _ (wpAny_newFunctionEnv_cells S.kind kinds fun env henv s1 entry => ?_))
  subst henv
  refine ⟨lim.keeps entry.toInCall.keep, codeAny_func ?_⟩
  obtain ⟨t, term, w'⟩ := hbody cdv rfl A outer s H vs Q E (room.deeper _) (gd.mono (Nat.le_succ k)) hw
  have I := inv_start (CX := CX) (E := E) S room.hd e0 size rel entry
  refine wpAny_mono (term.run [] s1 (start N vs) H _ I w') (fun fl s' last => ?_) fun _ _ q => q
  match fl, last with
  | .ret u, ⟨v, σ', H', J, rv, q⟩ => exact ⟨v, H', J.os, J.bare, J.base, J.hok, rv, q⟩
  | .next, ⟨σ', H', J, q⟩ => exact ⟨V.non, H', J.os, J.bare, J.base, J.hok, rfl, q⟩
  | .brk, ⟨_, _, _, q⟩ => exact q.elim
  | .cont, ⟨_, _, _, q⟩ => exact q.elim

section
variable {K : PySem.W.Frag} {R : RT} {φ ψ : Nat → Addr} {S : Store} {H : Hp} {n n' x m : Nat}
theorem CellR.low (M : Mv n' n x m φ ψ) {a : Addr} {c : Cell} (q : CellR K R n' φ H a c) (h : Cell.clos n c = true) : CellR K R m ψ H a c := by
  cases c with
  | lst ds =>
    obtain ⟨xs, e1, r⟩ := q
    exact ⟨xs, e1, r.low M h⟩
  | dct kvs =>
    obtain ⟨ps, e1, ek, r⟩ := q
    exact ⟨ps, e1, ek, r.low M h⟩
  | dn kvs =>
    obtain ⟨ps, vs, e1, ek, ev, r, nk⟩ := q
    exact ⟨ps, vs, e1, ek, ev, r.low M h, nk⟩
/-- its own things, and one new one -/
theorem Mv.one (g : Good K R φ H S) (hn : n ≤ x) (hx : x < S.length) : Mv S.length n x (n + 1) φ (ext φ n (φ x)) := by
  refine ⟨by omega, Nat.le_succ _, fun i hi => ext_lt hi, fun i hi => ?_, fun j h1 h2 h3 i hi e => ?_⟩
  · by_cases h : i = n
    · subst h; exact ⟨x, hx, ext_at⟩
    · exact ⟨i, by omega, ext_lt (by omega)⟩
  · by_cases h : i = n
    · subst h
      rw [ext_at] at e
      exact h3 (g.inj j x h2 hx e)
    · rw [ext_lt (by omega)] at e
      have := g.inj j i h2 (by omega) e
      omega
theorem take_len (hn : n ≤ S.length) : (S.take n).length = n := by rw [List.length_take]; omega
/-- the store's first n things alone -/
theorem Good.cut (g : Good K R φ H S) (hn : n ≤ S.length) (hc : (S.take n).all (Cell.clos n) = true) : Good K R φ H (S.take n) := by
  have hl := take_len hn
  have M : Mv S.length n S.length n φ φ := .none g hn (Nat.le_refl _)
  refine ⟨fun i c e => ?_, fun i j hi hj e => g.inj i j (by omega) (by omega) e, g.off, fun i hi => g.cof i (by omega), g.tab⟩
  rw [hl]
  have hi : i < n := by
    have := (List.getElem?_eq_some_iff.mp e).1
    omega
  have ec := List.all_eq_true.mp hc c (List.mem_of_getElem? e)
  rw [List.getElem?_take_of_lt hi] at e
  exact (g.at_ i c e).low M ec
/-- and one new thing -/
theorem Good.cut1 {k : Cell} (g : Good K R φ H S) (hn : n ≤ x) (hx : x < S.length) (hc : (S.take n).all (Cell.clos n) = true) (hk : CellR K R (n + 1) (ext φ n (φ x)) H (φ x) k) : Good K R (ext φ n (φ x)) H (S.take n ++ [k]) := by
  have hl := take_len (show n ≤ S.length by omega)
  have hl2 : (S.take n ++ [k]).length = n + 1 := by simp [hl]
  have M := Mv.one g hn hx
  refine ⟨fun i c e => ?_, fun i j hi hj e => ?_, g.off, fun i hi => ?_, g.tab⟩
  · rw [hl2]
    by_cases hi : i < n
    · rw [List.getElem?_append_left (by omega)] at e
      have ec := List.all_eq_true.mp hc c (List.mem_of_getElem? e)
      rw [List.getElem?_take_of_lt hi] at e
      rw [ext_lt hi]
      exact (g.at_ i c e).low M ec
    · have hi2 : i = n := by
        have := (List.getElem?_eq_some_iff.mp e).1
        omega
      subst hi2
      rw [List.getElem?_append_right (by omega), hl, Nat.sub_self] at e
      cases e
      rw [ext_at]
      exact hk
  · rw [hl2] at hi hj
    by_cases h1 : i = n
    · by_cases h2 : j = n
      · omega
      · subst h1
        rw [ext_at, ext_lt (by omega)] at e
        have := g.inj x j hx (by omega) e
        omega
    · by_cases h2 : j = n
      · subst h2
        rw [ext_at, ext_lt (by omega)] at e
        have := g.inj i x (by omega) hx e
        omega
      · rw [ext_lt (by omega), ext_lt (by omega)] at e
        exact g.inj i j (by omega) (by omega) e
  · rw [hl2] at hi
    by_cases h1 : i = n
    · subst h1; rw [ext_at]; exact g.cof x hx
    · rw [ext_lt (by omega)]; exact g.cof i (by omega)
end
/-- what the caller gets, and its store; b: a new list stays one that is changed -/
def expD (b : Bool) (n : Nat) (d : D) (S : Store) : Out D := guard' ((S.take n).all (Cell.clos n)) (match d with
  | .cell i => if i < n then ret (.cell i) (S.take n) else (match S[i]? with
    | some (.lst ds) => (match D.exps n i S ds with
      | some es => if b then ret (.cell n) (S.take n ++ [.lst es]) else if D.closs n ds then ret (.lst ds) (S.take n) else none
      | none => none)
    | some (.dct kvs) => (match D.exps n i S (kvs.map (·.2)) with
      | some es => ret (.cell n) (S.take n ++ [.dct ((kvs.map (·.1)).zip es)])
      | none => none)
    | _ => none)
  | d => (match D.exp n S.length S d with
    | some e => ret e (S.take n)
    | none => none))
theorem zip_fst {α β : Type} : ∀ {a : List α} {b : List β}, a.length = b.length → (a.zip b).map (·.1) = a
  | [], [], _ => rfl
  | x :: a, y :: b, h => by
    rw [List.zip_cons_cons, List.map_cons, zip_fst (by simpa using h)]
  | [], _ :: _, h => by simp at h
  | _ :: _, [], h => by simp at h
theorem zip_snd {α β : Type} : ∀ {a : List α} {b : List β}, a.length = b.length → (a.zip b).map (·.2) = b
  | [], [], _ => rfl
  | x :: a, y :: b, h => by
    rw [List.zip_cons_cons, List.map_cons, zip_snd (by simpa using h)]
  | [], _ :: _, h => by simp at h
  | _ :: _, [], h => by simp at h
theorem exps_len {n x : Nat} {S : Store} : ∀ {ds es : List D}, D.exps n x S ds = some es → ds.length = es.length
  | [], _, h => by cases h; rfl
  | d :: ds, _, h => by
    simp only [D.exps] at h
    split at h
    · split at h
      · rename_i e
        cases h
        exact congrArg (· + 1) (exps_len e)
      · cases h
    · cases h
/-- the answer is handed over: from the def's end to the caller -/
theorem exp_ok {b : Bool} {c : Ct} {φ φ1 : Nat → Addr} {S S1 : Store} {H H1 : Hp} {Q : VK} {v : V} {d : D} {z : Rs D × Store} (h : expD b S.length d S1 = some z) (hp : Post c (RV c) φ S H Q z) (s : Step S.length φ H S1.length φ1 H1) (g : Good c.K c.R φ1 H1 S1) (r : Rp c.K c.R S1.length φ1 H1 v d) : Q v H1 := by
  unfold expD at h
  obtain ⟨hc, h⟩ := guard_ok h
  have hn : S.length ≤ S1.length := s.le
  have gc := g.cut hn hc
  have hl := take_len (S := S1) hn
  have M0 := Mv.none (x := S1.length) g hn (Nat.le_refl _)
  have s0 : Step S.length φ H S.length φ1 H1 := ⟨Nat.le_refl _, s.same, s.keep, s.dom, fun i h1 h2 => absurd h2 (Nat.not_lt.mpr h1), s.tups, s.frzs⟩
  have plain : ∀ e, d.exp S.length S1.length S1 = some e → z = (.ok e, S1.take S.length) → Q v H1 := fun e he ez => by
    subst ez
    refine hp v φ1 H1 (by rw [hl]; exact s0) gc ?_
    show Rp _ _ _ _ _ _ _
    rw [hl]
    exact r.exp g M0 he
  have ones : ∀ (i : Nat) (k : Cell), d = .cell i → S.length ≤ i → z = (.ok (.cell S.length), S1.take S.length ++ [k]) → (∀ (hi : i < S1.length), CellR c.K c.R (S.length + 1) (ext φ1 S.length (φ1 i)) H1 (φ1 i) k) → Q v H1 := fun i k ed hi ez hk => by
    subst ed
    subst ez
    cases r with
    | cell hx =>
      have hl2 : (S1.take S.length ++ [k]).length = S.length + 1 := by simp [hl]
      refine hp (.ref (φ1 i)) (ext φ1 S.length (φ1 i)) H1 ?_ (g.cut1 hi hx hc (hk hx)) ?_
      · rw [hl2]
        exact s0.toCell (s.fresh i hi hx)
      · show Rp _ _ _ _ _ _ _
        rw [hl2]
        have q : Rp c.K c.R (S.length + 1) (ext φ1 S.length (φ1 i)) H1 (.ref (ext φ1 S.length (φ1 i) S.length)) (.cell S.length) := .cell (Nat.lt_succ_self _)
        rwa [ext_at] at q
  cases d with
  | cell i =>
    simp only at h
    split at h
    · rename_i hin
      cases h
      exact plain _ (by simp only [D.exp, if_pos hin]) rfl
    · rename_i hin
      split at h
      · rename_i ds ee
        split at h
        · rename_i es ex
          split at h
          · cases h
            refine ones i _ rfl (Nat.le_of_not_lt hin) rfl fun hi => ?_
            obtain ⟨xs, e1, q⟩ := g.at_ _ _ ee
            exact ⟨xs, e1, q.exp g (Mv.one g (Nat.le_of_not_lt hin) hi) ex⟩
          · split at h
            · rename_i ec
              cases h
              have hx : i ≠ S1.length := fun e => by
                have := (List.getElem?_eq_some_iff.mp ee).1
                omega
              exact plain _ (by simp only [D.exp, if_neg hin, if_neg hx, ee, ec, if_true]) rfl
            · cases h
        · cases h
      · rename_i kvs ee
        split at h
        · rename_i es ex
          cases h
          refine ones i _ rfl (Nat.le_of_not_lt hin) rfl fun hi => ?_
          obtain ⟨ps, e1, ek, q⟩ := g.at_ _ _ ee
          have le : (kvs.map (·.1)).length = es.length := by rw [List.length_map, ← exps_len ex, List.length_map]
          refine ⟨ps, e1, by rw [zip_fst le]; exact ek, ?_⟩
          rw [zip_snd le]
          exact q.exp g (Mv.one g (Nat.le_of_not_lt hin) hi) ex
        · cases h
      · cases h
  | non => exact (by
      simp only [D.exp] at h
      cases h
      exact plain _ rfl rfl)
  | bl b => exact (by
      simp only [D.exp] at h
      cases h
      exact plain _ rfl rfl)
  | int b => exact (by
      simp only [D.exp] at h
      cases h
      exact plain _ rfl rfl)
  | str b => exact (by
      simp only [D.exp] at h
      cases h
      exact plain _ rfl rfl)
  | err b1 b2 b3 => exact (by
      simp only [D.exp] at h
      cases h)
  | ob b1 b2 b3 =>
    simp only at h
    split at h
    · rename_i he
      cases h
      exact plain _ he rfl
    · cases h
  | tup b =>
    simp only at h
    split at h
    · rename_i he
      cases h
      exact plain _ he rfl
    · cases h
  | lst b =>
    simp only at h
    split at h
    · rename_i he
      cases h
      exact plain _ he rfl
    · cases h
  | frz b =>
    simp only at h
    split at h
    · rename_i he
      cases h
      exact plain _ he rfl
    · cases h

end Pv
namespace Pv
open PySem PySem.Spec PyProof.Rows L2
/-- what leaves a body -/
def endF (b : Bool) (n : Nat) : Rs Fl × Store → Out D
  | (.ok (.rt d), S1) => expD b n d S1
  | (.ok (.nx _), S1) => expD b n .non S1
  | (.ex x, S1) => guard' ((S1.take n).all (Cell.clos n)) (match D.exps n S1.length S1 (x.fs.map (·.2)) with
    | some es => some (.ex ⟨x.cls, (x.fs.map (·.1)).zip es⟩, S1.take n)
    | none => none)
  | _ => none
/-- a body as a def; nl: how many names; b: the new list that it returns stays one that is changed -/
def defF (b : Bool) (nl : Nat) (body : SemS) : Fn := fun ds S => match body (ds.map some ++ List.replicate (nl - ds.length) none) S with
  | some r => endF b S.length r
  | none => none
theorem start_rep {K : PySem.W.Frag} {R : RT} {n : Nat} {φ : Nat → Addr} {H : Hp} {vs : List V} {ds : List D} {N : List Str} (r : Rps K R n φ H vs ds) : EnvR K R n φ H (ds.map some ++ List.replicate (N.length - ds.length) none) (L2.start N vs) := by
  have hl := r.length
  refine ⟨by simp [L2.start, hl], fun i d h => ?_⟩
  by_cases hi : i < ds.length
  · rw [List.getElem?_append_left (by simpa using hi), List.getElem?_map] at h
    cases e : ds[i]? with
    | none => rw [e] at h; cases h
    | some d' =>
      rw [e] at h
      cases h
      obtain ⟨v, h1, h2⟩ := r.get e
      refine ⟨v, ?_, h2⟩
      unfold L2.start
      rw [List.getElem?_append_left (by simp; omega), List.getElem?_map, h1]
      rfl
  · rw [List.getElem?_append_right (by simpa using hi), List.getElem?_replicate] at h
    split at h <;> cases h
/-- from a body's end to the def's -/
theorem end_ok {b : Bool} {c : Ct} {φ : Nat → Addr} {S : Store} {H : Hp} {Q : VK} {r : Rs Fl × Store} {z : Rs D × Store} (h : endF b S.length r = some z) (hp : Post c (RV c) φ S H Q z) : PostF c φ S H { nx := fun _ H' => Q .non H', rt := Q } r := by
  obtain ⟨r, S1⟩ := r
  cases r with
  | ex x =>
    unfold endF at h
    obtain ⟨hc, h⟩ := guard_ok h
    split at h
    · rename_i es ex
      cases h
      intro cl o φ' H' s g hx
      have hn : S.length ≤ S1.length := s.le
      have hl := take_len (S := S1) hn
      have M0 := Mv.none (x := S1.length) g hn (Nat.le_refl _)
      refine hp cl o φ' H' ?_ (g.cut hn hc) ?_
      · rw [hl]
        exact ⟨Nat.le_refl _, s.same, s.keep, s.dom, fun i h1 h2 => absurd h2 (Nat.not_lt.mpr h1), s.tups, s.frzs⟩
      · obtain ⟨C, d, fs, e1, e2, e3, e4, e5, q⟩ := hx
        have le : (x.fs.map (·.1)).length = es.length := by rw [List.length_map, ← exps_len ex, List.length_map]
        rw [hl]
        exact ⟨C, d, fs, e1, e2, e3, e4, by rw [zip_fst le]; exact e5, by rw [zip_snd le]; exact q.exp g M0 ex⟩
    · cases h
  | ok fl =>
    cases fl with
    | rt d => exact fun v φ' H' s g rv => exp_ok h hp s g rv
    | nx ρ =>
      have h : expD b S.length .non S1 = some z := h
      exact fun σ φ' H' s g _ => exp_ok (v := .non) h hp s g .non
    | bk ρ => cases h
    | ct ρ => cases h
/-- a def of the text keeps its promise, by its body -/
theorem FnG.ofM {P : Program} {w : World} {K : PySem.W.Frag} {mg : Str → Option Value} {base : Heap} {k : Nat} {f : Addr} {x qual : Str} {params : Arguments} {body : List Stmt} {scope : Scope} {dvs : List V} {kws : List (Str × V)} {fd : FuncData} {N ps : List Str} {cls : CL} {b : Bool} {fb : SemS}
    (D : FunD K x qual params body scope dvs kws f fd) (S : FnScope N ps scope)
    (hbody : ∀ (cdv : Value) (A : Around) (outer : List PySem.Env) (s : Shared) (H : Hp) (R : RT) (E : XK), RtOk R cls.T → Room k (A.deeper (envOfC qual scope s.heap.objs.size f cdv)) → Gds k A →
      PSs (cxOf (L2.CX P w) P w K mg base N qual scope f cdv A outer s H E) body (mT ⟨K, R, cls, E⟩ fb)) : FnG P w K mg base (L2.CX P w) (k + 1) f fd ps (spM K cls ps.length (defF b N.length fb)) := by
  refine FnG.of D S (fun vs H Q E ⟨R, φ, S0, ds, r, _, _, rp, hl, _, _⟩ => rp.length.trans hl) fun cdv _ A outer s H vs Q E room gd ⟨R, φ, S0, ds, r, hT, g, rp, hl, hf, hp⟩ => ?_
  unfold defF at hf
  split at hf
  · rename_i z e
    exact ⟨_, hbody cdv A outer s H R E hT room gd, φ, S0, _, z, g, start_rep rp, e, end_ok (c := ⟨K, R, cls, E⟩) hf hp⟩
  · cases hf

def eCall (F : Fn) (dd : List D) (fs : Env → Store → Out (List D)) (ρ : Env) (S : Store) : Out D := bnd (fs ρ S) fun ds S1 => F (ds ++ dd) S1
section
variable {X : Cx} {c : Ct} {m k : Nat} {F : Fn} {f : Addr} {fd : FuncData} {ps : List Str} {dvs : List V} {dd : List D} {ds : List Value} {x : Str} {p pos : Pos} {e : Expr} {es : List Expr} {fs : Env → Store → Out (List D)}
theorem call_mono (hT : RtOk c.R c.cls.T) (hd : Pure' c.K dvs dd) (hm : ∀ (ds : List D) S z, F ds S = some z → ds.length = m) {σ : L2.St} {H : Hp} {Q : VK} (h : mE c (eCall F dd fs) σ H Q) : tCall (spM c.K c.cls m F) dvs c.E (mA c fs) σ H Q := by
  obtain ⟨φ, S, ρ, z, hg, hr, hf, hp⟩ := h
  exact Wp.fst (rel := RL c) hg hr hf hp fun ds S1 vs φ1 H1 s1 g1 e1 r1 hf1 hp1 => ⟨c.R, φ1, S1, ds ++ dd, z, hT, g1, r1.append (hd c.R S1.length φ1 H1), hm _ _ _ hf1, hf1, hp1⟩
end
/-- with the count of its arguments -/
def ar (m : Nat) (F : Fn) : Fn := fun ds S => guard' (ds.length == m) (F ds S)
theorem ar_len {m : Nat} {F : Fn} {ds : List D} {S : Store} {z : Rs D × Store} (h : ar m F ds S = some z) : ds.length = m := by
  obtain ⟨h, _⟩ := guard_ok h
  exact by simpa using h
section
variable {X : Cx} {c : Ct} {m k : Nat} {F : Fn} {dd : List D} {x : Str} {p pos : Pos} {e : Expr} {es : List Expr} {fs : Env → Store → Out (List D)} {P : Program} {w : World} {K : PySem.W.Frag} {mg : Str → Option Value} {base : Heap} {cls : CL}
theorem spM_ar {vs : List V} {H : Hp} {Q : VK} {E : XK} (h : spM K cls m (ar m F) vs H Q E) : spM K cls m F vs H Q E := by
  obtain ⟨R, φ, S, ds, r, hT, g, rp, hl, hf, hp⟩ := h
  exact ⟨R, φ, S, ds, r, hT, g, rp, hl, (guard_ok hf).2, hp⟩
theorem m_call (C : FnC X.prog X.w X.K X.mg X.base c.cls k x m F dd) (hK : c.K = X.K) (room : Room k X.A) (hgd : Gds k X.A) (hT : RtOk c.R c.cls.T) (glob : Gl X x) (pass : Passes (L2.CX X.prog X.w) X c.E) (args : PA X (e :: es) (mA c fs))
    (hdb : (x == ("__debug__" : Str)) = false) (he : starEach (e :: es) X.env = (false, eval e X.env) :: starEach es X.env) (hpl : (backTo pos (starEach es X.env)).any (·.1) = false) : PE X (.Call (.Name x p) (e :: es) [] pos) (mE c (eCall (ar m F) dd fs)) := by
  obtain ⟨f, fd, ps, dvs, ds, G, at_, kp, bind, hdv, hpu⟩ := C.ex
  refine pe_weak (pe_callG G room hgd glob at_ kp bind hdv pass args hdb he hpl) fun σ H Q h => ?_
  have q := call_mono (m := m) hT (by rw [hK]; exact hpu) (fun ds S z h => ar_len h) h
  rw [hK] at q
  obtain ⟨φ, S, ρ, r, a1, a2, a3, a4⟩ := q
  refine ⟨φ, S, ρ, r, a1, a2, a3, ?_⟩
  obtain ⟨r, S'⟩ := r
  cases r with
  | ok ds => exact fun vs φ' H' s g rv => spM_ar (a4 vs φ' H' s g rv)
  | ex z => exact a4
/-- what a callee lets out, in a def's own body -/
theorem pass_def {N : List Str} {qual : Str} {scope : Scope} {f : Addr} {cd : Value} {A : Around} {outer : List PySem.Env} {s : Shared} {H : Hp} {E : XK} : Passes (L2.CX P w) (cxOf (L2.CX P w) P w K mg base N qual scope f cd A outer s H E) E :=
  passes_call (takes_of (X := cxOf (L2.CX P w) P w K mg base N qual scope f cd A outer s H E) rfl rfl rfl rfl) fun _ _ _ _ h => h
/-- and what is raised there -/
theorem tk_def {N : List Str} {qual : Str} {scope : Scope} {f : Addr} {cd : Value} {A : Around} {outer : List PySem.Env} {s : Shared} {H : Hp} {E : XK} : Takes (cxOf (L2.CX P w) P w K mg base N qual scope f cd A outer s H E) (fun cl d _ H => E cl d H) :=
  takes_of (X := cxOf (L2.CX P w) P w K mg base N qual scope f cd A outer s H E) rfl rfl rfl rfl
/-- in a comprehension: nothing -/
theorem pass_none : Passes (L2.CX X.prog X.w) X E0 := fun pins σ H s e s' I h => by
  obtain ⟨_, _, _, _, _, _, _, _, _, _, _, _, z⟩ := h
  exact z.elim
end
end Pv
namespace Pv
open PySem PySem.Spec PyProof.Rows L2 PySem.Calls
section
variable {X : Cx} {c : Ct} {x : Str} {p pos : Pos} {e : Expr} {es : List Expr} {id T : String} {r : List V → Hp → VK → Prop} {o : List D → Store → Out D} {fs : Env → Store → Out (List D)}
theorem m_callB (hm' : BlM c r o) (hc : CallR X (.builtin id) r) (hg : Gl X x) (hm : X.mg x = none) (hv : bootBuiltins x = some (.builtin id)) (ha : PA X (e :: es) (mA c fs)) (hn : x ≠ "__name__") (hdb : (x == ("__debug__" : Str)) = false)
    (he : starEach (e :: es) X.env = (false, eval e X.env) :: starEach es X.env) (hpl : (backTo pos (starEach es X.env)).any (·.1) = false) : PE X (.Call (.Name x p) (e :: es) [] pos) (mE c (eBl o fs)) :=
  pe_weak (pe_callB hc hg hm hv ha hn hdb he hpl) fun _ _ _ => m_bl_ hm'
theorem m_callTy (hm' : BlM c r o) (hc : CallR X (.type T) r) (hg : Gl X x) (hm : X.mg x = none) (hv : bootBuiltins x = some (.type T)) (ha : PA X (e :: es) (mA c fs)) (hn : x ≠ "__name__") (hdb : (x == ("__debug__" : Str)) = false)
    (he : starEach (e :: es) X.env = (false, eval e X.env) :: starEach es X.env) (hpl : (backTo pos (starEach es X.env)).any (·.1) = false) : PE X (.Call (.Name x p) (e :: es) [] pos) (mE c (eBl o fs)) :=
  pe_weak (pe_callTy hc hg hm hv ha hn hdb he hpl) fun _ _ _ => m_bl_ hm'
/-- a constant of the module -/
theorem m_glob {v : V} {d : D} {u : Value} (hd : ∀ n φ H, Rp c.K c.R n φ H v d) (hg : Gl X x) (hm : X.mg x = some u) (hr : RelV v u) (hdb : (x == ("__debug__" : Str)) = false) : PE X (.Name x pos) (mE c (eC d)) :=
  pe_weak (pe_glob hg hm hr hdb) fun σ H Q h => Wp.con (b := v) h fun n φ => hd n φ H
theorem m_globI {i : Int} {t : Tok} (hg : Gl X x) (hm : X.mg x = some (.int i t)) (hdb : (x == ("__debug__" : Str)) = false) : PE X (.Name x pos) (mE c (eC (.int i))) := m_glob (v := .int i) (fun _ _ _ => .int i) hg hm ⟨t, rfl⟩ hdb
end
/-- texts -/
def strsD : List D → Option (List Str)
  | [] => some []
  | .str y :: r => (strsD r).map (y :: ·)
  | _ :: _ => none
theorem strs_ok {K : PySem.W.Frag} {R : RT} {n : Nat} {φ : Nat → Addr} {H : Hp} : ∀ {vs : List V} {ds : List D} {ys : List Str}, Rps K R n φ H vs ds → strsD ds = some ys → vs = ys.map V.str
  | _, [], _, .nil, h => by cases h; rfl
  | _, d :: r, _, .cons rv rs, h => by
    cases rv with
    | str b =>
      simp only [strsD] at h
      cases e : strsD r with
      | none => rw [e] at h; cases h
      | some bs =>
        rw [e] at h
        cases h
        rw [strs_ok rs e]
        rfl
    | _ => cases h
def isStr : D → Bool
  | .str _ => true
  | _ => false
theorem isStr_ok {K : PySem.W.Frag} {R : RT} {n : Nat} {φ : Nat → Addr} {H : Hp} {v : V} {d : D} (r : Rp K R n φ H v d) (h : isStr d = true) : ∃ a, v = .str a := by
  cases r with
  | str a => exact ⟨a, rfl⟩
  | _ => cases h
def eM1 (o : D → D → Store → Out D) (f g : Env → Store → Out D) (ρ : Env) (S : Store) : Out D := bnd (f ρ S) fun x S1 => guard' (isStr x) (bnd (g ρ S1) fun y S2 => o x y S2)
def M1M (c : Ct) (r : V → List V → Hp → VK → Prop) (o : D → D → Store → Out D) : Prop := ∀ (φ : Nat → Addr) (S : Store) (H : Hp) (Q : VK) (x y : V) (a b : D) (z : Rs D × Store),
  Good c.K c.R φ H S → Rp c.K c.R S.length φ H x a → Rp c.K c.R S.length φ H y b → o a b S = some z → Post c (RV c) φ S H Q z → r x [y] H Q
theorem m1_mono {c : Ct} {r : V → List V → Hp → VK → Prop} {o : D → D → Store → Out D} {f g : Env → Store → Out D} (hm : M1M c r o) {σ : L2.St} {H : Hp} {Q : VK} (h : mE c (eM1 o f g) σ H Q) : tM1 r (mE c f) (mE c g) σ H Q := by
  obtain ⟨φ, S, ρ, z, hg, he, hf, hp⟩ := h
  refine Wp.fst hg he hf hp fun x S1 v φ1 H1 s1 g1 e1 r1 hf1 hp1 => ?_
  obtain ⟨hs, hf1⟩ := guard_ok hf1
  exact ⟨isStr_ok r1 hs, Wp.fst g1 e1 hf1 hp1 fun y S2 w φ2 H2 s2 g2 e2 r2 hf2 hp2 => hm φ2 S2 H2 Q v w x y z g2 (Rp.step s2 r1) r2 hf2 hp2⟩
theorem m_m1 {X : Cx} {c : Ct} {r : V → List V → Hp → VK → Prop} {oo : D → D → Store → Out D} {f g : Env → Store → Out D} {o e : Expr} {id : String} {name : Str} {apos pos : Pos} (hm : M1M c r oo) (slot : Slot "str" name id) (ty : typeOf (.builtin id) = pure (.type "method_descriptor")) (rule : MtR X id r) (ho : PE X o (mE c f)) (he : PE X e (mE c g))
    (hs : starEach [e] X.env = [(false, eval e X.env)]) (hbase : attributeBase o name X.env (eval o X.env) = eval o X.env) (hline : (apos.endLine == pos.line) = true) :
    PE X (.Call (.Attribute o name apos) [e] [] pos) (mE c (eM1 oo f g)) := pe_weak (pe_m1 slot ty rule ho he hs hbase hline) fun _ _ _ => m1_mono hm
/-- a sequence's items -/
def asQ (S : Store) : D → Option (List D)
  | .tup ds => some ds
  | d => asL S d
theorem asQ_ok {c : Ct} {φ : Nat → Addr} {S : Store} {H : Hp} {x : V} {a : D} {ds : List D} (g : Good c.K c.R φ H S) (r : Rp c.K c.R S.length φ H x a) (h : asQ S a = some ds) : ∃ p xs, x = .ref p ∧ (SqL c.K H p xs ∨ SqT c.K H p xs) ∧ Rps c.K c.R S.length φ H xs ds := by
  have main : asL S a = some ds → ∃ p xs, x = .ref p ∧ (SqL c.K H p xs ∨ SqT c.K H p xs) ∧ Rps c.K c.R S.length φ H xs ds := fun h => by
    obtain ⟨p, xs, e, k, q⟩ := asL_ok g r h
    exact ⟨p, xs, e, .inl k, q⟩
  cases r with
  | tup k q => cases h; exact ⟨_, _, rfl, .inr k, q⟩
  | non => exact main h
  | bl _ => exact main h
  | int _ => exact main h
  | str _ => exact main h
  | klst k q => exact main h
  | frz k q => exact main h
  | lst k f w q => exact main h
  | cell hi => exact main h
  | err _ _ _ _ _ _ => exact main h
  | ob _ _ _ _ _ _ => exact main h
def oJoin (a b : D) (S : Store) : Out D := match a with
  | .str s => (match asQ S b with
    | some ds => (match strsD ds with
      | some ys => guard' (decide ((ys.map (·.length)).sum + ys.length * s.length ≤ line)) (ret (.str (Txt.join s ys)) S)
      | none => none)
    | none => none)
  | _ => none
def rJoinM (K : PySem.W.Frag) : V → List V → Hp → VK → Prop := fun x xs H Q => ∃ a p, ∃ ys : List Str, x = .str a ∧ xs = [.ref p] ∧ (SqL K H p (ys.map V.str) ∨ SqT K H p (ys.map V.str)) ∧ (ys.map (·.length)).sum + ys.length * a.length ≤ 16777216 ∧ Q (.str (Txt.join a ys)) H
theorem m1_join {c : Ct} : M1M c (rJoinM c.K) oJoin := by
  intro φ S H Q x y a b z g rx ry h hp
  unfold oJoin at h
  split at h
  · cases rx
    split at h
    · rename_i e
      split at h
      · rename_i e2
        obtain ⟨hl, h⟩ := guard_ok h
        cases h
        obtain ⟨p, xs, rfl, k, q⟩ := asQ_ok g ry e
        have ex := strs_ok q e2
        subst ex
        exact ⟨_, _, _, rfl, rfl, k, Nat.le_trans (of_decide_eq_true hl) (by decide), hp.now g (.str _)⟩
      · cases h
    · cases h
  · cases h
theorem m_join {X : Cx} {c : Ct} {f g : Env → Store → Out D} {o e : Expr} {apos pos : Pos} (hK : c.K = X.K) (ho : PE X o (mE c f)) (he : PE X e (mE c g)) (hs : starEach [e] X.env = [(false, eval e X.env)]) (hbase : attributeBase o "join" X.env (eval o X.env) = eval o X.env) (hline : (apos.endLine == pos.line) = true) :
    PE X (.Call (.Attribute o "join" apos) [e] [] pos) (mE c (eM1 oJoin f g)) := pe_weak (pe_join ho he hs hbase hline) fun _ _ _ h => by
  rw [← hK]
  exact m1_mono m1_join h
def oZfill (a b : D) (S : Store) : Out D := match a, b with
  | .str s, .int i => guard' (PadOk i) (ret (.str (Txt.zfill s i)) S)
  | _, _ => none
theorem m1_zfill {c : Ct} : M1M c (fun x xs H Q => ∃ (a : Str) (i : Int), x = .str a ∧ xs = [.int i] ∧ PadOk i = true ∧ Q (.str (Txt.zfill a i)) H) oZfill := by
  intro φ S H Q x y a b z g rx ry h hp
  unfold oZfill at h
  split at h
  · cases rx
    cases ry
    obtain ⟨hl, h⟩ := guard_ok h
    cases h
    exact ⟨_, _, rfl, rfl, hl, hp.now g (.str _)⟩
  · cases h
theorem m_zfill {X : Cx} {c : Ct} {f g : Env → Store → Out D} {o e : Expr} {apos pos : Pos} (ho : PE X o (mE c f)) (he : PE X e (mE c g)) (hs : starEach [e] X.env = [(false, eval e X.env)]) (hbase : attributeBase o "zfill" X.env (eval o X.env) = eval o X.env) (hline : (apos.endLine == pos.line) = true) :
    PE X (.Call (.Attribute o "zfill" apos) [e] [] pos) (mE c (eM1 oZfill f g)) := m_m1 m1_zfill PySem.F.slot_str_zfill PySem.F.type_str_zfill mt_zfill ho he hs hbase hline

def jsK (y : D) (acc : Str) (S : Store) (k : Str → Store → Out D) : Out D := match y with
  | .str y => guard' (decide ((acc ++ y).length ≤ line)) (k (acc ++ y) S)
  | _ => none
def eJs : List (Env → Store → Out D) → Str → Env → Store → Out D
  | [], acc, _, S => ret (.str acc) S
  | f :: fs, acc, ρ, S => bnd (f ρ S) fun d S1 => jsK d acc S1 fun a S2 => eJs fs a ρ S2
/-- the name of a value's type -/
def tyD (S : Store) : D → Option String
  | .non => some "NoneType"
  | .bl _ => some "bool"
  | .int _ => some "int"
  | .str _ => some "str"
  | .tup _ => some "tuple"
  | .lst _ => some "list"
  | .frz _ => some "list"
  | .cell i => (match S[i]? with
    | some (.lst _) => some "list"
    | some (.dct _) => some "dict"
    | _ => none)
  | .err _ _ _ => none
  | .ob _ _ _ => none
theorem ty_ok {c : Ct} {φ : Nat → Addr} {S : Store} {H : Hp} {x : V} {a : D} {n : String} (g : Good c.K c.R φ H S) (r : Rp c.K c.R S.length φ H x a) (h : tyD S a = some n) : TyX c.K H x (.type n) := by
  cases r with
  | non => cases h; exact .base .non
  | bl b => cases h; exact .base (.bl b)
  | int b => cases h; exact .base (.int b)
  | str b => cases h; exact .base (.str b)
  | tup k q =>
    cases h
    rcases k with (k | ⟨o, k⟩) | ⟨o, its, m, k, hc, _⟩
    · exact .base (.tup k)
    · exact .fTuple k
    · exact .kTuple k hc
  | lst k f w q => cases h; exact .base (.lst k)
  | err _ _ _ _ _ _ => cases h
  | ob _ _ _ _ _ _ => cases h
  | frz k q => cases h; exact .base (.frz k)
  | klst k q =>
    cases h
    obtain ⟨o, its, m, k, hc, _⟩ := k
    exact .kList k hc
  | cell hi =>
    simp only [tyD] at h
    split at h
    · rename_i e
      cases h
      obtain ⟨xs, e1, _⟩ := g.at_ _ _ e
      exact .base (.lst e1)
    · rename_i e
      cases h
      obtain ⟨xs, e1, _⟩ := g.at_ _ _ e
      exact .base (.dK e1)
    · cases h
def oIsi (T : String) (d : D) (S : Store) : Out D := match tyD S d with
  | some n => (match kitB n T with
    | some b => ret (.bl b) S
    | none => none)
  | none => none
theorem m_isi {X : Cx} {c : Ct} {f : Env → Store → Out D} {e : Expr} {T : String} {t : Str} {p p2 pos : Pos} (hK : c.K = X.K) (he : PE X e (mE c f)) (hg : Gl X "isinstance") (hm : X.mg "isinstance" = none) (hgT : Gl X t) (hmT : X.mg t = none) (hv : bootBuiltins t = some (.type T)) (hn : t ≠ "__name__") (hdb : (t == ("__debug__" : Str)) = false)
    (hs : starEach (e :: [.Name t p2]) X.env = (false, eval e X.env) :: starEach [.Name t p2] X.env) (hpl : (backTo pos (starEach [.Name t p2] X.env)).any (·.1) = false) : PE X (.Call (.Name "isinstance" p) [e, .Name t p2] [] pos) (mE c (eUn (oIsi T) f)) := by
  have hT : PE X (.Name t p2) (tC (.ty T)) := pe_bltn hgT hmT hv rfl hn hdb
  have ha : PA X [e, .Name t p2] (tCons (mE c f) (tCons (tC (.ty T)) tNil)) := pa_cons he (pa_cons hT pa_nil) (hs := hs)
  refine pe_weak (pe_callB (id := "isinstance") call_isi hg hm PyProof.Rows.boot_isinstance ha (by decide) (by decide) (he := hs) (hpl := hpl)) fun σ H Q ⟨φ, S, ρ, z, hg, hr, hf, hp⟩ => ?_
  refine Wp.fst hg hr hf hp fun d S1 v φ1 H1 s1 g1 e1 r1 hf1 hp1 => ?_
  unfold oIsi at hf1
  split at hf1
  · rename_i n en
    split at hf1
    · rename_i b eb
      cases hf1
      exact ⟨v, .ty T, .type n, .type T, b, rfl, .ty T, by rw [← hK]; exact ty_ok g1 r1 en, kit_ty eb, hp1.now g1 (.bl _)⟩
    · cases hf1
  · cases hf1

def leS (a b : Str) : Bool := decide (a.cps.toList ≤ b.cps.toList)
/-- in order -/
def srtS (ys : List Str) : List Str := ys.mergeSort leS
def oSorted (ds : List D) (S : Store) : Out D := match ds with
  | [d] => (match asL S d with
    | some ds => (match strsD ds with
      | some ys => guard' (decide (ys.length < 64)) (ret (.lst ((srtS ys).map D.str)) S)
      | none => none)
    | none => none)
  | _ => none
def putD (kvs : List (Key × D)) (k : Key) (v : D) : List (Key × D) :=
  if (kvs.any fun kv => decide (kv.1 = k)) = true then kvs.map (fun kv => if kv.1 = k then (kv.1, v) else kv) else kvs ++ [(k, v)]
section
variable {K : PySem.W.Frag} {R : RT} {n : Nat} {φ : Nat → Addr} {H : Hp}
theorem any_keys {α β : Type} {ps : List (Key × α)} {kvs : List (Key × β)} {k : Key} (e : ps.map (·.1) = kvs.map (·.1)) : (ps.any fun kv => decide (kv.1 = k)) = (kvs.any fun kv => decide (kv.1 = k)) := by
  have h1 : ∀ {γ : Type} (l : List (Key × γ)), (l.any fun kv => decide (kv.1 = k)) = ((l.map (·.1)).any fun x => decide (x = k)) := fun l => by
    rw [List.any_map]
    rfl
  rw [h1, h1, e]
theorem put_keys {α β : Type} : ∀ {ps : List (Key × α)} {kvs : List (Key × β)} {k : Key} {a : α} {b : β}, ps.map (·.1) = kvs.map (·.1) →
    (ps.map fun kv => if kv.1 = k then (kv.1, a) else kv).map (·.1) = (kvs.map fun kv => if kv.1 = k then (kv.1, b) else kv).map (·.1) := by
  intro ps kvs k a b e
  have h1 : ∀ {γ : Type} (l : List (Key × γ)) (c : γ), (l.map fun kv => if kv.1 = k then (kv.1, c) else kv).map (·.1) = l.map (·.1) := fun l c => by
    rw [List.map_map]
    refine List.map_congr_left fun x _ => ?_
    simp only [Function.comp]
    split <;> rfl
  rw [h1, h1, e]
theorem put_vals {v : V} {d : D} (rv : Rp K R n φ H v d) : ∀ {ps : List (Key × V)} {kvs : List (Key × D)} {k : Key}, ps.map (·.1) = kvs.map (·.1) → Rps K R n φ H (ps.map (·.2)) (kvs.map (·.2)) →
    Rps K R n φ H ((ps.map fun kv => if kv.1 = k then (kv.1, v) else kv).map (·.2)) ((kvs.map fun kv => if kv.1 = k then (kv.1, d) else kv).map (·.2))
  | [], [], _, _, _ => .nil
  | [], _ :: _, _, e, _ => by simp at e
  | _ :: _, [], _, e, _ => by simp at e
  | (k1, v1) :: ps, (k2, d2) :: kvs, k, e, r => by
    simp only [List.map_cons, List.cons.injEq] at e
    obtain ⟨rfl, e⟩ := e
    simp only [List.map_cons] at r
    cases r with
    | cons r1 r2 =>
      have q := put_vals rv (k := k) e r2
      by_cases hk : k1 = k
      · simp only [List.map_cons, hk, if_true]
        exact .cons rv q
      · simp only [List.map_cons, if_neg hk]
        exact .cons r1 q
theorem put_ok {v : V} {d : D} {ps : List (Key × V)} {kvs : List (Key × D)} {k : Key} (rv : Rp K R n φ H v d) (e : ps.map (·.1) = kvs.map (·.1)) (r : Rps K R n φ H (ps.map (·.2)) (kvs.map (·.2))) :
    (putK ps k v).map (·.1) = (putD kvs k d).map (·.1) ∧ Rps K R n φ H ((putK ps k v).map (·.2)) ((putD kvs k d).map (·.2)) := by
  unfold putK putD
  rw [any_keys (k := k) e]
  split
  · exact ⟨put_keys e, put_vals rv e r⟩
  · refine ⟨by simp [e], ?_⟩
    simp only [List.map_append, List.map_cons, List.map_nil]
    exact r.snoc rv
end
/-- a thing of the store after a store into it: x[i] = v -/
def oPut (x i v : D) (S : Store) : Option Store := match x with
  | .cell j => (match S[j]? with
    | some (.dct kvs) => (match dKey i with
      | some k => if kvs.length < line then some (S.set j (.dct (putD kvs k v))) else none
      | none => none)
    | some (.lst ds) => (match i with
      | .int m => (match ixN ds.length m with
        | some q => some (S.set j (.lst (ds.set q v)))
        | none => none)
      | _ => none)
    | _ => none)
  | _ => none
def rSetM : TSet := fun o i v H Q => rSetD o i v H Q ∨ rSetL o i v H Q
theorem set_M {X : Cx} (hu : X.A.units + 1 < cLine) : PSet X rSetM := by
  intro pins s σ H o i v ov iv u Q I ro ri rv h
  rcases h with h | h
  · exact set_dict hu pins s σ H o i v ov iv u Q I ro ri rv h
  · exact set_list pins s σ H o i v ov iv u Q I ro ri rv h
theorem put_m {c : Ct} {φ : Nat → Addr} {S S' : Store} {H : Hp} {x i v : V} {a b d : D} (g : Good c.K c.R φ H S) (rx : Rp c.K c.R S.length φ H x a) (ri : Rp c.K c.R S.length φ H i b) (rv : Rp c.K c.R S.length φ H v d) (h : oPut a b d S = some S') {Q : Hp → Prop}
    (hq : ∀ H', Step S.length φ H S'.length φ H' → Good c.K c.R φ H' S' → Q H') : rSetM x i v H Q := by
  unfold oPut at h
  split at h
  · cases rx with
    | cell hi =>
      rename_i j
      split at h
      · rename_i kvs es
        split at h
        · rename_i k ek
          split at h
          · rename_i hl
            cases h
            obtain ⟨ps, e1, eks, q⟩ := g.at_ _ _ es
            have ey := key_ok ri ek
            subst ey
            have hlen : ps.length = kvs.length := by have := congrArg List.length eks; simpa using this
            obtain ⟨p1, p2⟩ := put_ok (k := k) rv eks q
            have st : Step S.length φ H S.length φ (upd H (φ j) (.dK (putK ps k v))) := Step.put g hi
            exact .inl ⟨_, _, rfl, .k e1 (Nat.lt_of_lt_of_le (by rw [hlen]; exact hl) (by decide)), hq _ (by rw [List.length_set]; exact st) (g.put hi ⟨_, upd_same, p1, p2.step st⟩)⟩
          · cases h
        · cases h
      · rename_i ds es
        split at h
        · rename_i m
          split at h
          · rename_i q eq
            cases h
            obtain ⟨xs, e1, qq⟩ := g.at_ _ _ es
            cases ri
            have st : Step S.length φ H S.length φ (upd H (φ j) (.lst (xs.set q v))) := Step.put g hi
            exact .inr ⟨_, _, _, q, rfl, rfl, e1, by rw [qq.length]; exact eq, hq _ (by rw [List.length_set]; exact st) (g.put hi ⟨_, upd_same, (qq.set q rv).step st⟩)⟩
          · cases h
        · cases h
      · cases h
  · cases h
/-- o[i] = e -/
def sPut (fo fi fe : Env → Store → Out D) : SemS := fun ρ S => bnd (fe ρ S) fun v S1 => bnd (fo ρ S1) fun x S2 => bnd (fi ρ S2) fun i S3 => match oPut x i v S3 with
  | some S4 => ret (.nx ρ) S4
  | none => none
theorem t_put {X : Cx} {c : Ct} {o i e : Expr} {fo fi fe : Env → Store → Out D} {tpos pos : Pos} (hu : X.A.units + 1 < cLine) (ho : PE X o (mE c fo)) (hi : PE X i (mE c fi)) (he : PE X e (mE c fe))
    (ha : ∀ v, assign (.Subscript o i tpos) X.env v = (do
      let ov ← holding [v] (eval o X.env)
      let iv ← holding [v, ov] (eval i X.env)
      standAt tpos
      holding [v, ov, iv] (setItem ov iv v)
      release [v, ov, iv] []))
    (hs : swapsWithSole [.Subscript o i tpos] e pos.line X.env = pure false) (hw : swappedStores [.Subscript o i tpos] e X.env = pure none) (h1 : (assignEach [.Subscript o i tpos] X.env).map (·.2) = [assign (.Subscript o i tpos) X.env]) :
    PS X (.Assign [.Subscript o i tpos] e pos) (mT c (sPut fo fi fe)) := by
  refine ps_weak (ps_asg he (pg_sub ho hi (set_M hu) ha) hs hw h1) fun d σ H ⟨φ, S, ρ, r, hg, hr, hf, hp⟩ => ?_
  refine mT_fst (rel := RV c) hg hr hf hp fun v S1 xv φ1 H1 s1 g1 e1 r1 hf1 hp1 => ?_
  refine mT_fst (rel := RV c) g1 e1 hf1 hp1 fun x S2 xx φ2 H2 s2 g2 e2 r2 hf2 hp2 => ?_
  refine mT_fst (rel := RV c) g2 e2 hf2 hp2 fun i S3 xi φ3 H3 s3 g3 e3 r3 hf3 hp3 => ?_
  split at hf3
  · rename_i S4 e4
    cases hf3
    exact put_m g3 (Rp.step s3 r2) r3 (Rp.step s3 (Rp.step s2 r1)) e4 fun H' st g' => hp3 σ φ3 H' st g' (e3.step st)
  · cases hf3
end Pv
namespace Pv
open PySem PySem.Spec PyProof.Rows L2 PySem.Calls
def mergeD (kvs more : List (Key × D)) : List (Key × D) := more.foldl (fun acc kv => putD acc kv.1 kv.2) kvs
def eDisp (ks : List Key) (fs : Env → Store → Out (List D)) (ρ : Env) (S : Store) : Out D := bnd (fs ρ S) fun ds S1 => guard' (ds.length == ks.length) (ret (.cell S1.length) (S1 ++ [.dct (mergeD [] (ks.zip ds))]))
end Pv
namespace Pv
open PySem PySem.Spec PyProof.Rows L2 PySem.Calls
section
variable {X : Cx} {c : Ct} {a b e : Expr} {es : List Expr} {pos p p2 apos : Pos} {fa fb fe : Env → Store → Out D} {fs : Env → Store → Out (List D)} {x : Str}
theorem qV (i : Nat) (hN : X.N[i]? = some x := by rfl) (hv : Vis X.env.scope x := by first | exact Or.inl rfl | exact Or.inr (Or.inl rfl) | exact Or.inr (Or.inr rfl)) (hd : (x == ("__debug__" : Str)) = false := by decide) (hcd : (x == ("__classdict__" : Str)) = false := by decide) : PE X (.Name x pos) (mE c (eVar i)) := m_var hN hv hd hcd
theorem qC (h : PE X e (mE c fe)) (hr : PA X es (mA c fs)) (hs : starEach (e :: es) X.env = (false, eval e X.env) :: starEach es X.env := by rfl) : PA X (e :: es) (mA c (eCons fe fs)) := m_cons hs h hr
variable (hK : c.K = X.K)
include hK
theorem qAdd (ha : PE X a (mE c fa)) (hb : PE X b (mE c fb)) : PE X (.BinOp a .Add b pos) (mE c (eBin oAdd fa fb)) := m_weak (s_add hK ha hb)
theorem qMul (ha : PE X a (mE c fa)) (hb : PE X b (mE c fb)) : PE X (.BinOp a .Mult b pos) (mE c (eBin oMul fa fb)) := pe_weak (pe_op op_mulM ha hb) fun _ _ _ h => by rw [← hK]; exact m_bin opm_mul h
omit hK
theorem qSub (ha : PE X a (mE c fa)) (hb : PE X b (mE c fb)) : PE X (.BinOp a .Sub b pos) (mE c (eBin oSub fa fb)) := pe_weak (pe_op op_sub ha hb) fun _ _ _ h => m_bin opm_sub h
theorem qDiv (ha : PE X a (mE c fa)) (hb : PE X b (mE c fb)) : PE X (.BinOp a .FloorDiv b pos) (mE c (eBin oDiv fa fb)) := pe_weak (pe_op op_fdivW ha hb) fun _ _ _ h => m_bin opm_div h
theorem qMod (ha : PE X a (mE c fa)) (hb : PE X b (mE c fb)) : PE X (.BinOp a .Mod b pos) (mE c (eBin oMod fa fb)) := pe_weak (pe_op op_mod ha hb) fun _ _ _ h => m_bin opm_mod h
theorem qPow (ha : PE X a (mE c fa)) (hb : PE X b (mE c fb)) : PE X (.BinOp a .Pow b pos) (mE c (eBin oPow fa fb)) := pe_weak (pe_op op_pow ha hb) fun _ _ _ h => m_bin opm_pow h
theorem qNeg (ha : PE X a (mE c fa)) : PE X (.UnaryOp .USub a pos) (mE c (eUn oNeg fa)) := pe_weak (pe_un un_neg ha) fun _ _ _ h => m_un unm_neg h
include hK
theorem qEq (hu : X.A.units + 64 < cLine) (ha : PE X a (mE c fa)) (hb : PE X b (mE c fb)) : PE X (.Compare a [.Eq] [b] pos) (mE c (eBin oEq fa fb)) := m_cmp (r := rEqM X.K) (op_eqM hu) (by rw [← hK]; exact opm_eq) ha hb (nomark _)
theorem qNe (hu : X.A.units + 64 < cLine) (ha : PE X a (mE c fa)) (hb : PE X b (mE c fb)) : PE X (.Compare a [.NotEq] [b] pos) (mE c (eBin oNe fa fb)) := m_cmp (r := rNeM X.K) (op_neM hu) (by rw [← hK]; exact opm_ne) ha hb (nomark _)
theorem oEq_bl : ∀ x y S d S', oEq x y S = some (.ok d, S') → ∃ k, d = .bl k := fun x y S d S' h => by
  unfold oEq at h
  split at h
  · cases h; exact ⟨_, rfl⟩
  · cases h
theorem oNe_bl : ∀ x y S d S', oNe x y S = some (.ok d, S') → ∃ k, d = .bl k := fun x y S d S' h => by
  unfold oNe at h
  split at h
  · cases h; exact ⟨_, rfl⟩
  · cases h
theorem tEq (hu : X.A.units + 64 < cLine) (ha : PE X a (mE c fa)) (hb : PE X b (mE c fb)) : PT X (.Compare a [.Eq] [b] pos) (mB c (eTru (eBin oEq fa fb))) := b_cmp (r := rEqM X.K) (op_eqM hu) (by rw [← hK]; exact opm_eq) ha hb (nomark _) (oEq_bl hK)
theorem tNe (hu : X.A.units + 64 < cLine) (ha : PE X a (mE c fa)) (hb : PE X b (mE c fb)) : PT X (.Compare a [.NotEq] [b] pos) (mB c (eTru (eBin oNe fa fb))) := b_cmp (r := rNeM X.K) (op_neM hu) (by rw [← hK]; exact opm_ne) ha hb (nomark _) (oNe_bl hK)
omit hK
theorem qLe (ha : PE X a (mE c fa)) (hb : PE X b (mE c fb)) : PE X (.Compare a [.LtE] [b] pos) (mE c (eBin oLe fa fb)) := m_cmp op_leM opm_le ha hb (nomark _)
theorem qGt (ha : PE X a (mE c fa)) (hb : PE X b (mE c fb)) : PE X (.Compare a [.Gt] [b] pos) (mE c (eBin oGt fa fb)) := m_cmp op_gtM opm_gt ha hb (nomark _)
theorem qGe (ha : PE X a (mE c fa)) (hb : PE X b (mE c fb)) : PE X (.Compare a [.GtE] [b] pos) (mE c (eBin oGe fa fb)) := m_cmp op_geM opm_ge ha hb (nomark _)
theorem oLt_bl : ∀ x y S d S', oLt x y S = some (.ok d, S') → ∃ k, d = .bl k := fun x y S d S' h => by
  unfold oLt at h
  split at h <;> cases h <;> exact ⟨_, rfl⟩
theorem oGt_bl : ∀ x y S d S', oGt x y S = some (.ok d, S') → ∃ k, d = .bl k := fun x y S d S' h => by
  unfold oGt at h
  split at h <;> cases h <;> exact ⟨_, rfl⟩
theorem oGe_bl : ∀ x y S d S', oGe x y S = some (.ok d, S') → ∃ k, d = .bl k := fun x y S d S' h => by
  unfold oGe at h
  split at h <;> cases h <;> exact ⟨_, rfl⟩
theorem oIs_bl (neg : Bool) : ∀ x y S d S', oIs neg x y S = some (.ok d, S') → ∃ k, d = .bl k := fun x y S d S' h => by
  unfold oIs at h
  split at h <;> cases h <;> exact ⟨_, rfl⟩
theorem tLt (ha : PE X a (mE c fa)) (hb : PE X b (mE c fb)) : PT X (.Compare a [.Lt] [b] pos) (mB c (eTru (eBin oLt fa fb))) := b_cmp op_ltM opm_lt ha hb (nomark _) oLt_bl
theorem tGt (ha : PE X a (mE c fa)) (hb : PE X b (mE c fb)) : PT X (.Compare a [.Gt] [b] pos) (mB c (eTru (eBin oGt fa fb))) := b_cmp op_gtM opm_gt ha hb (nomark _) oGt_bl
theorem tGe (ha : PE X a (mE c fa)) (hb : PE X b (mE c fb)) : PT X (.Compare a [.GtE] [b] pos) (mB c (eTru (eBin oGe fa fb))) := b_cmp op_geM opm_ge ha hb (nomark _) oGe_bl
include hK
theorem tV (ha : PE X a (mE c fa)) (he : ∀ whole, isTrue a X.env whole = (do let v ← whole; standAt a.pos; holding [v] (truthy v)) := by intro _; rfl) : PT X a (mB c (eTru fa)) := m_tru hK ha he
theorem qIx (hu : X.A.units + 64 < cLine) (ha : PE X a (mE c fa)) (hb : PE X b (mE c fb)) (hs : PlainIx b := by intro _ _; rfl) : PE X (.Subscript a b pos) (mE c (eBin oIx fa fb)) :=
  pe_weak (pe_ix (ix_M (by omega)) ha hb hs) fun _ _ _ h => by rw [← hK]; exact m_bin opm_ix h
omit hK
theorem x_e {f : Env → Store → Out D} (h : ∀ R, Same R c.R → PE X e (mE (c.inn R) f)) : PE X e (xE c f) := ⟨fun pins s σ H Q I ⟨R, hR, w⟩ => (h R hR).run pins s σ H Q I w⟩
end
section
variable {X : Cx} {c : Ct} {a b e : Expr} {es : List Expr} {pos p p2 apos : Pos} {fs : Env → Store → Out (List D)}
theorem qLen (hK : c.K = X.K) (hm : X.mg "len" = none) (ha : PA X (e :: es) (mA c fs)) (hg : Gl X "len" := by rfl) (he : starEach (e :: es) X.env = (false, eval e X.env) :: starEach es X.env := by rfl) (hpl : (backTo pos (starEach es X.env)).any (·.1) = false := by rfl) :
    PE X (.Call (.Name "len" p) (e :: es) [] pos) (mE c (eBl oLen fs)) := m_callB (r := rLenM X.K) (by rw [← hK]; exact blm_len) call_lenM hg hm boot_len ha (by decide) (by decide) he hpl
theorem qRepr (hK : c.K = X.K) (hgd : X.A.guards = some []) (hu : X.A.units + 66 < cLine) (hm : X.mg "repr" = none) (ha : PA X (e :: es) (mA c fs)) (hg : Gl X "repr" := by rfl) (he : starEach (e :: es) X.env = (false, eval e X.env) :: starEach es X.env := by rfl) (hpl : (backTo pos (starEach es X.env)).any (·.1) = false := by rfl) :
    PE X (.Call (.Name "repr" p) (e :: es) [] pos) (mE c (eBl oRepr fs)) := m_callB (r := rRepr X.K) (by rw [← hK]; exact blm_repr) (call_repr hgd hu) hg hm boot_repr ha (by decide) (by decide) he hpl
theorem qInt (hm : X.mg "int" = none) (ha : PA X (e :: es) (mA c fs)) (hg : Gl X "int" := by rfl) (he : starEach (e :: es) X.env = (false, eval e X.env) :: starEach es X.env := by rfl) (hpl : (backTo pos (starEach es X.env)).any (·.1) = false := by rfl) :
    PE X (.Call (.Name "int" p) (e :: es) [] pos) (mE c (eBl oInt fs)) := m_callTy blm_int call_int1 hg hm boot_int ha (by decide) (by decide) he hpl
theorem qStr (hm : X.mg "str" = none) (ha : PA X (e :: es) (mA c fs)) (hg : Gl X "str" := by rfl) (he : starEach (e :: es) X.env = (false, eval e X.env) :: starEach es X.env := by rfl) (hpl : (backTo pos (starEach es X.env)).any (·.1) = false := by rfl) :
    PE X (.Call (.Name "str" p) (e :: es) [] pos) (mE c (eBl oStr fs)) := m_callTy blm_str call_strM hg hm boot_str ha (by decide) (by decide) he hpl
end
section
variable {X : Cx} {c : Ct} {a b e o : Expr} {es : List Expr} {pos p p2 apos : Pos} {fs : Env → Store → Out (List D)} {f g fo : Env → Store → Out D} {m k k2 : Nat} {F : Fn} {dd : List D} {x : Str}
theorem takes_no {X : Cx} : Takes X (fun cl d _ H => E0 cl d H) := fun _ _ ⟨_, _, _, _, _, _, _, _, _, _, _, _, _, _, _, _, w⟩ => w.elim
theorem Bd.u {X : Cx} {c : Ct} {k : Nat} (B : Bd X c k) : X.A.units + 64 < cLine := B.room.units
theorem Bd.u66 {X : Cx} {c : Ct} {k : Nat} (B : Bd X c k) : X.A.units + 66 < cLine := by have := B.room.un; omega
theorem qCall (C : FnC X.prog X.w X.K X.mg X.base c.cls k x m F dd) (B : Bd X c k2) (args : PA X (e :: es) (mA c fs)) (hk : k ≤ k2 := by decide) (glob : Gl X x := by rfl)
    (hdb : (x == ("__debug__" : Str)) = false := by decide) (he : starEach (e :: es) X.env = (false, eval e X.env) :: starEach es X.env := by rfl) (hpl : (backTo pos (starEach es X.env)).any (·.1) = false := by rfl) : PE X (.Call (.Name x p) (e :: es) [] pos) (mE c (eCall (ar m F) dd fs)) :=
  m_call C B.K (B.room.mono hk) (B.gd.mono hk) B.hT glob B.pass args hdb he hpl
theorem qApp (hK : c.K = X.K) (ho : PE X o (mE c fo)) (ha : PA X [e] (mA c fs)) (hbase : attributeBase o "append" X.env (eval o X.env) = eval o X.env := by rfl) (hfew : ((backTo pos (starEach [e] X.env)).all (fun x => !x.1) && (backToKw pos (keywordEach [] X.env)).all (fun x => x.1.isSome)
      && decide (([e] : List Expr).length + ([] : List Keyword).length + (if ([] : List Keyword).isEmpty then 0 else 1) < 30)) = true := by rfl)
    (hline : (apos.endLine == pos.line) = true := by rfl) (hs : starEach [e] X.env = (false, eval e X.env) :: starEach [] X.env := by rfl) (hplain : (backTo pos (starEach [] X.env)).any (·.1) = false := by rfl) :
    PE X (.Call (.Attribute o "append" apos) [e] [] pos) (mE c (eApp fo fs)) := m_app hK ho ha hbase hfew hline hs hplain
theorem qJoin (hK : c.K = X.K) (ho : PE X o (mE c f)) (he : PE X e (mE c g)) (hs : starEach [e] X.env = [(false, eval e X.env)] := by rfl) (hbase : attributeBase o "join" X.env (eval o X.env) = eval o X.env := by rfl) (hline : (apos.endLine == pos.line) = true := by rfl) :
    PE X (.Call (.Attribute o "join" apos) [e] [] pos) (mE c (eM1 oJoin f g)) := m_join hK ho he hs hbase hline
theorem qZfill (ho : PE X o (mE c f)) (he : PE X e (mE c g)) (hs : starEach [e] X.env = [(false, eval e X.env)] := by rfl) (hbase : attributeBase o "zfill" X.env (eval o X.env) = eval o X.env := by rfl) (hline : (apos.endLine == pos.line) = true := by rfl) :
    PE X (.Call (.Attribute o "zfill" apos) [e] [] pos) (mE c (eM1 oZfill f g)) := m_zfill ho he hs hbase hline
theorem qIsi {T : String} {t : Str} (hK : c.K = X.K) (hm : X.mg "isinstance" = none) (hmT : X.mg t = none) (hv : bootBuiltins t = some (.type T)) (he : PE X e (mE c f)) (hg : Gl X "isinstance" := by rfl) (hgT : Gl X t := by rfl) (hn : t ≠ "__name__" := by decide) (hdb : (t == ("__debug__" : Str)) = false := by decide)
    (hs : starEach (e :: [.Name t p2]) X.env = (false, eval e X.env) :: starEach [.Name t p2] X.env := by rfl) (hpl : (backTo pos (starEach [.Name t p2] X.env)).any (·.1) = false := by rfl) : PE X (.Call (.Name "isinstance" p) [e, .Name t p2] [] pos) (mE c (eUn (oIsi T) f)) :=
  m_isi hK he hg hm hgT hmT hv hn hdb hs hpl
end
section
variable {X : Cx} {c : Ct} {e : Expr} {es : List Expr} {pos p p2 : Pos} {fe : Env → Store → Out D} {x : Str} {f g : SemS} {st : Stmt} {rest : List Stmt}
theorem zSet (i : Nat) (hN : X.N.Nodup) (he : PE X e (mE c fe)) (hi : X.N[i]? = some x := by rfl) (hx : Loc X.env.scope x := by first | exact Or.inl rfl | exact Or.inr rfl) (hs : swapsWith e (some (.Name x p)) pos.line X.env = pure false := by rfl)
    (hf : X.fn x = true ∨ X.env.scope.names.lookup x = some .local := by first | exact .inl rfl | exact .inr rfl) : PS X (.Assign [.Name x p] e pos) (mT c (sSet i fe)) := ps_weak (ps_set hN hi hx he hs hf) fun _ _ _ => set_mono
theorem zDrop (he : PE X e (mE c fe)) (hs : swapsWith e none pos.line X.env = pure false := by rfl) : PS X (.Expr e pos) (mT c (sDrop fe)) := t_drop he hs
end
end Pv
namespace Pv
open PySem PySem.Spec PyProof.Rows L2 PySem.Calls
section
variable {X : Cx} {c : Ct} {k : Nat}
theorem Bd.inn (B : Bd X c k) {s : Shared} {H : Hp} {scope : Scope} {cenv : PySem.Env} {fp : List Addr} {R : RT} (hR : Same R c.R) : Bd (X.blk s H scope cenv fp) (c.inn R) k := ⟨B.K, B.room, B.gd, hR.trans B.hT, pass_none, takes_no, B.calm⟩
theorem qGI {x : Str} {i : Int} {pos : Pos} (hm : ∃ t, X.mg x = some (.int i t)) (hg : Gl X x := by rfl) (hdb : (x == ("__debug__" : Str)) = false := by decide) : PE X (.Name x pos) (mE c (eC (.int i))) := let ⟨_, h⟩ := hm; m_globI hg h hdb
theorem sComp {elt tge iter : Expr} {ifs : List Expr} {scope : Scope} {pos : Pos} {fi : SemI} {cnd : Option (Env → Store → Out Bool)} {fe : Env → Store → Out D} {m : Nat} (B : Bd X c k) (hN : X.N.Nodup) (own : List (Str × Nat)) (tg : Tg) (hi : PI X tge iter (mI c fi))
    (hg : ∀ (s : Shared) (H : Hp) (C : Addr) (cl : List (Str × Addr)) (fp : List Addr), PG (X.blk s H scope (compEnvC scope cl C X.env) fp) tge (gT c.K tg)) (ht : ∀ (s : Shared) (H : Hp) (C : Addr) (cl : List (Str × Addr)) (fp : List Addr), PTs (X.blk s H scope (compEnvC scope cl C X.env) fp) ifs (xT c cnd))
    (he : ∀ (s : Shared) (H : Hp) (C : Addr) (cl : List (Str × Addr)) (fp : List Addr), PE (X.blk s H scope (compEnvC scope cl C X.env) fp) elt (xE c fe)) (ok : blkC X.N X.env.scope scope own = true := by rfl) (hsl : ∀ j ∈ tg.slots, j ∈ own.map (·.2) := by decide) (hs : ∀ x, foldedSetIterable iter X.env x = pure x := by intro _; rfl) :
    PE X (.ListComp elt [⟨tge, iter, ifs, 0⟩] scope pos) (mS c (eComp tg fi cnd fe (own.map (·.2)) m)) := s_lc B.K B.calm hN hsl hi (blkOk_by ok) hg ht he hs
theorem gNm {i : Nat} {x : Str} {pos : Pos} (K : PySem.W.Frag) (hN : X.N.Nodup) (hi : X.N[i]? = some x := by rfl) (hx : Loc X.env.scope x := by first | exact Or.inl rfl | exact Or.inr rfl) (hf : X.fn x = true ∨ X.env.scope.names.lookup x = some .local := by first | exact .inl rfl | exact .inr rfl) : PG X (.Name x pos) (gT K (.nm i)) := pg_name hN hi hx hf
theorem gsNil {K : PySem.W.Frag} : PGs X [] (gTs K []) := pgs_nil
theorem gsCons {K : PySem.W.Frag} {e : Expr} {es : List Expr} {t : Tg} {ts : List Tg} (h1 : PG X e (gT K t)) (h2 : PGs X es (gTs K ts)) (hs : (assignEach (e :: es) X.env).map (·.2) = assign e X.env :: (assignEach es X.env).map (·.2) := by rfl) : PGs X (e :: es) (gTs K (t :: ts)) := pgs_cons h1 h2 hs
theorem iRange1 {a tge : Expr} {p pos : Pos} {fs : Env → Store → Out (List D)} (hm : X.mg "range" = none) (ha : PA X [a] (mA c fs)) (hg : Gl X "range" := by rfl) (hs : starEach [a] X.env = [(false, eval a X.env)] := by rfl) : PI X tge (.Call (.Name "range" p) [a] [] pos) (mI c (iRg1 fs)) := i_rg1 hg hm ha hs
theorem zFor {tge e : Expr} {body : List Stmt} {fi : SemI} {b : SemS} {m : Nat} {pos : Pos} (B : Bd X c k) (tg : Tg) (hpo : PassesOwn (model X.prog X.w) X.A X.env X.xe) (hi : PI X tge e (mI c fi)) (hg : PG X tge (gT c.K tg)) (hb : PSs X body (mT c b)) (hs : ∀ x, foldedSetIterable e X.env x = pure x := by intro _; rfl) : PS X (.For tge e body [] pos) (mT c (sFor tg fi b m)) := t_for B.K hpo B.calm hi hg hb hs
/-- the slots of plain names -/
theorem unp_gT {K : PySem.W.Frag} : ∀ (is : List Nat), is.foldr (fun i t => gCons (gName i) t) gNil = gTs K (is.map .nm)
  | [] => rfl
  | i :: is => by
    rw [List.foldr_cons, unp_gT is]
    rfl
theorem zUnp {es : List Expr} {e : Expr} {j : Nat} {is : List Nat} {fe : Env → Store → Out D} {tp pos : Pos} (B : Bd X c k) (he : PE X e (mE c fe)) (h : PGs X es (gTs c.K (is.map .nm))) (hn : (assignEach es X.env).length = is.length := by rfl) (hst : (assignEach es X.env).findIdx? (·.1) = none := by rfl)
    (hs : swapsWithSole [.Tuple es j tp] e pos.line X.env = pure false := by rfl) (hw : swappedStores [.Tuple es j tp] e X.env = pure none := by rfl) (h1 : (assignEach [.Tuple es j tp] X.env).map (·.2) = [assign (.Tuple es j tp) X.env] := by rfl) :
    PS X (.Assign [.Tuple es j tp] e pos) (mT c (sUnp is fe)) := by
  have hg : PG X (.Tuple es j tp) (gTup c.K is.length (is.foldr (fun i t => gCons (gName i) t) gNil)) := by
    rw [B.K]
    rw [B.K] at h
    rw [unp_gT (K := X.K)]
    exact pg_tup B.calm h hn hst
  exact ps_weak (ps_asg he hg hs hw h1) fun _ _ _ => unp_mono
theorem zPut {o i e : Expr} {fo fi fe : Env → Store → Out D} {tpos pos : Pos} (B : Bd X c k) (ho : PE X o (mE c fo)) (hi : PE X i (mE c fi)) (he : PE X e (mE c fe))
    (ha : ∀ v, assign (.Subscript o i tpos) X.env v = (do
      let ov ← holding [v] (eval o X.env)
      let iv ← holding [v, ov] (eval i X.env)
      standAt tpos
      holding [v, ov, iv] (setItem ov iv v)
      release [v, ov, iv] []) := by intro _; rfl)
    (hs : swapsWithSole [.Subscript o i tpos] e pos.line X.env = pure false := by rfl) (hw : swappedStores [.Subscript o i tpos] e X.env = pure none := by rfl) (h1 : (assignEach [.Subscript o i tpos] X.env).map (·.2) = [assign (.Subscript o i tpos) X.env] := by rfl) :
    PS X (.Assign [.Subscript o i tpos] e pos) (mT c (sPut fo fi fe)) := t_put (by have := B.u; omega) ho hi he ha hs hw h1
end
end Pv
namespace Pv
open PySem PySem.Spec PyProof.Rows L2 PySem.Calls
section
variable {X : Cx} {c : Ct} {k : Nat} {elt tge iter : Expr} {ifs : List Expr} {scope : Scope} {pos spos py : Pos} {fi : SemI} {cnd : Option (Env → Store → Out Bool)} {fe : Env → Store → Out D} {m : Nat} {y : Str}
theorem zSetC (i : Nat) (B : Bd X c k) (hN : X.N.Nodup) (own : List (Str × Nat)) (tg : Tg) (hi : PI X tge iter (mI c fi))
    (hg : ∀ (s : Shared) (H : Hp) (C : Addr) (cl : List (Str × Addr)) (fp : List Addr), PG (X.blk s H scope (compEnvC scope cl C X.env) fp) tge (gT c.K tg)) (ht : ∀ (s : Shared) (H : Hp) (C : Addr) (cl : List (Str × Addr)) (fp : List Addr), PTs (X.blk s H scope (compEnvC scope cl C X.env) fp) ifs (xT c cnd))
    (he : ∀ (s : Shared) (H : Hp) (C : Addr) (cl : List (Str × Addr)) (fp : List Addr), PE (X.blk s H scope (compEnvC scope cl C X.env) fp) elt (xE c fe)) (hy : X.N[i]? = some y := by rfl) (hyl : X.env.scope.names.lookup y = some .local := by rfl) (hk : X.env.scope.kind = .function := by rfl) (hl : (py.line == pos.line) = true := by rfl)
    (ha : (scope.names.any fun (n, k) => n == y && (k == .local || k == .cell)) = false := by rfl) (ok : blkC X.N X.env.scope scope own = true := by rfl) (hsl : ∀ j ∈ tg.slots, j ∈ own.map (·.2) := by decide) (hs : ∀ x, foldedSetIterable iter X.env x = pure x := by intro _; rfl) :
    PS X (.Assign [.Name y py] (.ListComp elt [⟨tge, iter, ifs, 0⟩] scope pos) spos) (mT c (sSet i (eComp tg fi cnd fe (own.map (·.2)) m))) :=
  ps_weak (ps_setLc B.calm hN hy hyl (sw_true hk hyl hl ha) hi (blkOk_by ok) hg ht he hs) fun _ _ _ h => comp_mono hsl (mS_of (set_mono h))
end
end Pv
namespace Pv
open PySem PySem.Spec PyProof.Rows L2 Att
/-- the script's numbers as our machine has them -/
def scr (d : D) (ns : List Int) : Prop := d = .lst (ns.map D.int) ∨ d = .frz (ns.map D.int)
theorem rps_ints {K : PySem.W.Frag} {R : RT} {n : Nat} {φ : Nat → Addr} {H : Hp} : ∀ (ns : List Int), Rps K R n φ H (ns.map V.int) (ns.map D.int)
  | [] => .nil
  | i :: ns => .cons (.int i) (rps_ints ns)
/-- what a law starts from: nothing is kept from it; its tables -/
def R0 (T : List (Addr × Str)) : RT := ⟨fun _ => False, T, none⟩
/-- from the layer's reading of the script -/
theorem scr_rep {K : PySem.W.Frag} {T : List (Addr × Str)} {H : Hp} {a : Addr} {ns : List Int} (h : SqL K H a (ns.map V.int)) : ∃ d, scr d ns ∧ Rp K (R0 T) 0 (fun _ => 0) H (.ref a) d := by
  rcases h with (q | ⟨o, q⟩) | q
  · exact ⟨_, .inl rfl, .lst q (fun z => z) (fun i hi => absurd hi (Nat.not_lt_zero _)) (rps_ints ns)⟩
  · exact ⟨_, .inr rfl, .frz q (rps_ints ns)⟩
  · exact ⟨_, .inr rfl, .klst q (rps_ints ns)⟩
theorem good_nil {K : PySem.W.Frag} {T : List (Addr × Str)} {H : Hp} (h : TabOk T H) : Good K (R0 T) (fun _ => 0) H [] := ⟨fun i c e => by simp at e, fun i j hi => absurd hi (Nat.not_lt_zero _), fun _ z => z.elim, fun i hi => absurd hi (Nat.not_lt_zero _), h⟩
theorem sp_law {K : PySem.W.Frag} {cls : CL} {F : Fn} {H : Hp} {a : Addr} {ns : List Int} (ev : ∀ d, scr d ns → ∃ S, F [d] [] = some (.ok (.bl true), S)) (h : SqL K H a (ns.map V.int)) (tb : TabOk cls.T H) :
    spM K cls 1 F [V.ref a] H (fun v _ => v = V.bl true) fun _ _ _ => False := by
  obtain ⟨d, hd, r⟩ := scr_rep (T := cls.T) h
  obtain ⟨S, e⟩ := ev d hd
  refine ⟨_, _, [], [d], _, ⟨rfl, rfl⟩, good_nil tb, .cons r .nil, rfl, e, fun b φ' H' _ _ q => ?_⟩
  cases (show Rp _ _ _ _ _ b (.bl true) from q)
  rfl
section
variable {P : Program} {w : World} {K : PySem.W.Frag} {mg mb : Str → Option Value} {k : Nat} {fa a : Addr} {fd : FuncData} {x : Str} {sp : Sp} {t : Shared} {vs : List Value} {ns : List Int} {cs : List (Addr × Addr)}
/-- what the call of the law leaves -/
abbrev After (t : Shared) (r : Result) (u : Shared) : Prop := r = .ok (.ret (.bool true)) ∧ (OldK t.heap u.heap ∧ (u.os = t.os ∧ AllBare u.gens))
/-- the module __builtins__ as the top left it -/
abbrev BM (mg : Str → Option Value) (t : Shared) : Prop := ∃ (bm : Addr) (ob : Obj), mg "__builtins__" = some (.ref bm) ∧ bm ≠ builtinsNs ∧ t.heap.get? bm = some ob ∧ ob.cls = .type "module" ∧ ob.dict = some builtinsNs ∧ ob.data = .plain
theorem law_at (inK : K.In t.heap) (gl : t.heap.Ns mainGlobals mg) (bl : t.heap.Ns builtinsNs mb) (blt : ∀ y : Str, y ≠ "__name__" → mb y = bootBuiltins y) (nl : t.heap.NoLimit) (g0 : t.gens = #[]) (bmn : BM mg t) (tb : Tabs0 K cs t)
    (obj : t.heap.get? a = some { cls := .type "list", data := .seq vs.toArray }) (room : Room k callerA) (G : ∀ base : Heap, K.In base → base.Ns mainGlobals mg → (∀ q ∈ cs, LamX.TabB base mg q.1 q.2) → FnG P w K mg base (L2.CX P w) k fa fd [x] sp)
    (bi : ∀ (s : Shared) (u : Value), BindsTo s fd ⟨[u], []⟩ [(x, u)]) {H : Hp} (only : ∀ b, H b = none ∨ (∃ q ∈ cs, q.2 = b) ∨ ∃ ob xs, H b = some (.frz ob (.lst xs))) (wish : sp [.ref a] H (fun v _ => v = .bl true) fun _ _ _ => False) (ok : HOk P w H t.heap)
    (just : ∀ b, H b ≠ none → b = a ∨ ∃ q ∈ cs, q.2 = b) (away : H a ≠ none → K.lookup a = none) (at0 : ∀ q ∈ cs, H q.2 = some (.tbl #[])) : codeAny (model P w) callerA (.call (.ref fa) ⟨[.ref a], []⟩) (After t) t := by
  have low : ∀ {b : Addr} {o : Obj}, t.heap.get? b = some o → H b = none → (hidT t.heap H).get? b = some o := fun e z => hidT_get e z
  -- what is neither a sequence nor an empty table is not tracked
  have gone : ∀ {b : Addr} {o : Obj}, t.heap.get? b = some o → (∀ us n, o.data ≠ .seq us n) → o.data ≠ .fields #[] → H b = none := by
    intro b o e d1 d2
    cases q : H b with
    | none => rfl
    | some u =>
      rcases just b (fun z => by rw [q] at z; cases z) with rfl | ⟨p, hp, rfl⟩
      · rw [obj] at e
        cases e
        exact absurd rfl (d1 _ _)
      · rw [tb.em p hp] at e
        cases e
        exact absurd rfl d2
  have names : ∀ {b : Addr} {m : Str → Option Value}, t.heap.Ns b m → (hidT t.heap H).Ns b m := by
    rintro b m ⟨o, es, ep, e, d, r⟩
    exact ⟨o, es, ep, low e (gone e (fun us n z => by rw [d] at z; cases z) fun z => by rw [d] at z; cases z), d, r⟩
  have inB : K.In (hidT t.heap H) := by
    intro b o e
    refine low (inK b o e) ?_
    cases q : H b with
    | none => rfl
    | some u =>
      rcases just b (fun z => by rw [q] at z; cases z) with rfl | ⟨p, hp, rfl⟩
      · rw [away (fun z => by rw [q] at z; cases z)] at e
        cases e
      · rw [tb.no p hp] at e
        cases e
  obtain ⟨mc, l1, l2⟩ := nl
  have M : Mod K mg (hidT t.heap H) := ⟨inB, names gl, ⟨mb, names bl, blt⟩, ⟨mc, names l1, l2⟩⟩
  have no : ∀ b : Addr, b ∈ frs ([] : List PySem.Env) → H b = none := fun b z => absurd (show b ∈ ([] : List Addr) from z) (by simp)
  have e0 : Env0 P w K mg (hidT t.heap H) callerA [] t H := ⟨rfl, M, fun _ _ e => of_hidT e, Nat.le_of_eq (hidT_size _ _), trivial, no, ok, .of_eq g0⟩
  have gd : ∀ {b : Addr} {o : Obj}, t.heap.get? b = some o → ∀ {es : Array DictEntry} {ep : Nat}, o.data = .dict es ep → b = mainGlobals → True := fun _ _ _ _ _ => trivial
  have tbs : ∀ q ∈ cs, LamX.TabB (hidT t.heap H) mg q.1 q.2 := fun q hq => by
    have em := tb.em q hq
    refine ⟨?_, ?_, fun z => ?_⟩
    · obtain ⟨o, us, file, tf, flags, tg, inF, text, tt, h1, h2, h3, h4, hs⟩ := tb.hd q hq
      refine ⟨o, us, file, tf, flags, tg, inF, text, tt, low h1 (gone h1 (fun us n z => by rw [h3] at z; cases z) fun z => ?_), h2, h3, h4, hs⟩
      rw [h3] at z
      cases z
      simp at h4
    · obtain ⟨bm, ob, h1, h2, h3, h4, h5, h6⟩ := bmn
      refine ⟨bm, ob, h1, h2, fun z => ?_, fun z => ?_, low h3 (gone h3 (fun us n z => by rw [h6] at z; cases z) fun z => by rw [h6] at z; cases z), h4, h5, h6⟩
      · obtain ⟨o, es, ep, e, d, _⟩ := gl
        rw [z, e] at h3
        cases h3
        rw [d] at h6
        cases h6
      · rw [z, em] at h3
        cases h3
        cases h6
    · obtain ⟨o, es, ep, e, d, _⟩ := gl
      rw [z, em] at e
      cases e
      cases d
  refine codeAny_mono ((G _ inB (names gl) tbs).run callerA [] t H ⟨[.ref a], []⟩ [.ref a] [.ref a] _ _ room (fun _ => rfl) e0 (bi t (.ref a)) (.cons rfl .nil) wish) fun r u end_ => ?_
  match r, end_ with
  | .error _, ⟨_, _, _, _, _, _, _, _, _, _, _, _, z⟩ => exact z.elim
  | .ok (.ret y), ⟨v, H', os, bare, un, ok', rv, (q : v = .bl true)⟩ =>
    subst q
    obtain rfl : y = Value.bool true := rv
    have stay : ∀ b o, (¬ ∃ q ∈ cs, q.2 = b) → t.heap.get? b = some o → u.heap.get? b = some o := fun b o nb e => by
      cases q : H b with
      | none => exact un.keep b o e q (fun z => absurd (show b ∈ ([] : List Addr) from z) (by simp)) (by simp)
      | some y =>
        rcases only b with z | z | ⟨ob, xs, z⟩
        · rw [q] at z
          cases z
        · exact absurd z nb
        · obtain ⟨h1, _⟩ := ok b _ z
          obtain ⟨h2, _⟩ := ok' b _ (un.frzs b ob _ z)
          rw [e] at h1
          cases h1
          exact h2
    have more : ∀ q ∈ cs, ∃ ys : Array Value, u.heap.get? q.2 = some { cls := .none, data := .fields ys } := fun q hq => by
      obtain ⟨ys, z⟩ := un.tbls q.2 #[] (at0 q hq)
      exact ⟨_, ok' q.2 _ z⟩
    refine ⟨rfl, ⟨fun b o e => ?_, fun b o e => ?_⟩, os, bare⟩
    · by_cases nb : ∃ q ∈ cs, q.2 = b
      · obtain ⟨q, hq, rfl⟩ := nb
        obtain ⟨ys, hy⟩ := more q hq
        have em := tb.em q hq
        rw [em] at e
        cases e
        exact .inr (.inl ⟨((tb.hd q hq).tab em).isCodeTable, rfl, #[], ys, rfl, by rw [Array.empty_append]; exact hy⟩)
      · exact .inl (stay b o nb e)
    · by_cases nb : ∃ q ∈ cs, q.2 = b
      · obtain ⟨q, hq, rfl⟩ := nb
        obtain ⟨ys, hy⟩ := more q hq
        exact ⟨_, hy⟩
      · exact ⟨o, stay b o nb e⟩
theorem law_end (inK : K.In t.heap) (gl : t.heap.Ns mainGlobals mg) (bl : t.heap.Ns builtinsNs mb) (blt : ∀ y : Str, y ≠ "__name__" → mb y = bootBuiltins y) (nl : t.heap.NoLimit) (g0 : t.gens = #[]) (bmn : BM mg t) (tb : Tabs0 K cs t)
    (obj : t.heap.get? a = some { cls := .type "list", data := .seq vs.toArray }) (nums : IntsAre vs ns) (few : ns.length ≤ sizeLine) (room : Room k callerA) (G : ∀ base : Heap, K.In base → base.Ns mainGlobals mg → (∀ q ∈ cs, LamX.TabB base mg q.1 q.2) → FnG P w K mg base (L2.CX P w) k fa fd [x] sp)
    (bi : ∀ (s : Shared) (u : Value), BindsTo s fd ⟨[u], []⟩ [(x, u)]) (wish : ∀ H : Hp, (∀ q ∈ cs, H q.2 = some (.tbl #[])) → (∀ b ps, H b = some (.tbl ps) → ∃ q ∈ cs, q.2 = b) → SqL K H a (ns.map V.int) → sp [.ref a] H (fun v _ => v = .bl true) fun _ _ _ => False) : codeAny (model P w) callerA (.call (.ref fa) ⟨[.ref a], []⟩) (After t) t := by
  have rv := vals_ints nums
  have size := nums.length
  have na : ¬ ∃ q ∈ cs, q.2 = a := fun ⟨q, hq, e⟩ => by
    have em := tb.em q hq
    rw [e, obj] at em
    have z : Data.seq vs.toArray _ = Data.fields #[] := congrArg Obj.data (Option.some.inj em)
    cases z
  cases q : K.lookup a with
  | some o =>
    have e := inK a o q
    rw [obj] at e
    cases e
    obtain ⟨Z, hZ⟩ : ∃ Z : Hp, Z = fun b => if b ∈ cs.map (·.2) then some (.tbl #[]) else none := ⟨_, rfl⟩
    have inT : ∀ q ∈ cs, Z q.2 = some (.tbl #[]) := fun q hq => by rw [hZ]; exact if_pos (List.mem_map.mpr ⟨q, hq, rfl⟩)
    have off : ∀ b u, Z b = some u → (∃ q ∈ cs, q.2 = b) ∧ u = .tbl #[] := fun b u e => by
      rw [hZ] at e
      by_cases h : b ∈ cs.map (·.2)
      · obtain ⟨q, hq, e2⟩ := List.mem_map.mp h
        exact ⟨⟨q, hq, e2⟩, (Option.some.inj ((if_pos h).symm.trans e)).symm⟩
      · have := (if_neg h).symm.trans e
        cases this
    have sq : SqL K Z a (ns.map V.int) := .inr ⟨_, vs.toArray, _, q, rfl, rfl, rfl, by rw [List.size_toArray, size]; exact few, by simpa using rv⟩
    refine law_at inK gl bl blt nl g0 bmn tb obj room G bi (H := Z) (fun b => ?_) (wish Z inT (fun b ps e => (off b _ e).1) sq) (fun b u e => ?_) (fun b z => ?_) (fun z => ?_) inT
    · cases e : Z b with
      | none => exact .inl rfl
      | some u => exact .inr (.inl (off b u e).1)
    · obtain ⟨⟨q, hq, rfl⟩, rfl⟩ := off b u e
      exact tb.em q hq
    · cases e : Z b with
      | none => exact absurd e z
      | some u => exact .inr (off b u e).1
    · cases e : Z a with
      | none => exact absurd e z
      | some u => exact absurd (off a u e).1 na
  | none =>
    obtain ⟨Z, hZ⟩ : ∃ Z : Hp, Z = fun b => if b = a then some (.frz { cls := .type "list", data := .seq vs.toArray } (.lst (ns.map V.int))) else if b ∈ cs.map (·.2) then some (.tbl #[]) else none := ⟨_, rfl⟩
    have at_ : Z a = some (.frz { cls := .type "list", data := .seq vs.toArray } (.lst (ns.map V.int))) := by rw [hZ]; exact if_pos rfl
    have inT : ∀ q ∈ cs, Z q.2 = some (.tbl #[]) := fun q hq => by rw [hZ]; exact (if_neg fun e => na ⟨q, hq, e⟩).trans (if_pos (List.mem_map.mpr ⟨q, hq, rfl⟩))
    have off : ∀ b u, b ≠ a → Z b = some u → (∃ q ∈ cs, q.2 = b) ∧ u = .tbl #[] := fun b u n e => by
      rw [hZ] at e
      have e := (if_neg n).symm.trans e
      by_cases h : b ∈ cs.map (·.2)
      · obtain ⟨q, hq, e2⟩ := List.mem_map.mp h
        exact ⟨⟨q, hq, e2⟩, (Option.some.inj ((if_pos h).symm.trans e)).symm⟩
      · have := (if_neg h).symm.trans e
        cases this
    refine law_at inK gl bl blt nl g0 bmn tb obj room G bi (H := Z) (fun b => ?_) (wish Z inT (fun b ps e => ?_) (.inl (.inr ⟨_, at_⟩))) (fun b u z => ?_) (fun b z => ?_) (fun _ => q) inT
    · by_cases n : b = a
      · subst n
        exact .inr (.inr ⟨_, _, at_⟩)
      · cases e : Z b with
        | none => exact .inl rfl
        | some u => exact .inr (.inl (off b u n e).1)
    · by_cases n : b = a
      · subst n
        rw [at_] at e
        cases e
      · exact (off b _ n e).1
    · by_cases n : b = a
      · subst n
        rw [at_] at z
        cases z
        exact ⟨obj, by rw [List.length_map]; exact few, vs, _, rv, obj⟩
      · obtain ⟨⟨q, hq, rfl⟩, rfl⟩ := off b u n z
        exact tb.em q hq
    · by_cases n : b = a
      · exact .inl n
      · cases e : Z b with
        | none => exact absurd e z
        | some u => exact .inr (off b u n e).1
end
/-- THE END of a law: our machine answers True at every script -/
theorem law_walk {l : PySem.W.OpenLaw} {k : Nat} {q : Program} {loose : List Str} {XP : (Str → Option Value) → Heap → Prop} {YP : World → Heap → Prop} {d : DefRec} {x : Str} {F : Fn} (hn : l.most = some 63) (hdf : d.params.defaults = []) (room : Room k callerA)
    (get : ∀ (w : World) (mg : Str → Option Value) (fa : Addr) (h : Heap), YP w h → h.Ns mainGlobals mg → mg d.name = some (.ref fa) → ∃ (K : PySem.W.Frag) (fd : FuncData) (cls : CL) (cs : List (Addr × Addr)), K.In h ∧ (∀ q ∈ cs, h.get? q.2 = some { cls := .none, data := .fields #[] }) ∧ (∀ q ∈ cs, K.lookup q.2 = none) ∧ (∀ q ∈ cs, PySem.W.CodeHd h q.1 q.2) ∧ cls.T.map (·.1) = cs.map (·.2) ∧
      (∀ (s : Shared) (u : Value), BindsTo s fd ⟨[u], []⟩ [(x, u)]) ∧ ∀ base : Heap, K.In base → base.Ns mainGlobals mg → (∀ q ∈ cs, LamX.TabB base mg q.1 q.2) → FnG l.prog w K mg base (L2.CX l.prog w) k fa fd [x] (spM K cls 1 F))
    (ev : ∀ (ns : List Int) (d : D), ns.length ≤ 63 → (∀ i ∈ ns, Builtin.Int.intBits i ≤ 1048576) → scr d ns → ∃ S, F [d] [] = some (.ok (.bl true), S)) : PySem.W.WalkO q loose XP YP l.row.toRowW d [] (fun f vs => PySem.call f vs) := by
  refine attach_callB hn hdf fun w s t mg mb fa o pm cd doc a vs ns G Y ho hd hcd hmg obj nums few bits g0 => ?_
  obtain ⟨K, fd, cls, cs, inK, t1, t2, t3, eT, bi, hF⟩ := get w mg fa _ Y G.T.g hmg
  refine law_end inK G.T.g G.T.b G.T.builtins G.T.nolimit g0 G.T.bmain ⟨t1, t2, t3⟩ obj nums (Nat.le_trans few (by decide)) room hF bi fun H h1 h2 sq => sp_law (fun d hd => ev ns d few bits hd) sq ⟨fun p hp => ?_, fun b ps e => ?_⟩
  · have m : p.1 ∈ cls.T.map (·.1) := List.mem_map.mpr ⟨p, hp, rfl⟩
    rw [eT] at m
    obtain ⟨q, hq, e⟩ := List.mem_map.mp m
    exact LamX.TabS.nil (by rw [← e]; exact h1 q hq)
  · obtain ⟨q, hq, e⟩ := h2 b ps e
    have m : b ∈ cs.map (·.2) := List.mem_map.mpr ⟨q, hq, e⟩
    rw [← eT] at m
    obtain ⟨p, hp, e⟩ := List.mem_map.mp m
    exact ⟨p, hp, e⟩
/-- where a class of the module's top lies; the tables of the defs that make lambdas -/
def clOf (K : PySem.W.Frag) (tfq : List (He.Defn × Str)) : CL := ⟨fun x => some (He.ga K x), tfq.map fun z => ((He.cT K z.1).2, z.2)⟩
end Pv
namespace Pv
open PySem PySem.Spec PyProof.Rows L2 PySem.Calls
def scs : List D → Option (List V)
  | [] => some []
  | d :: ds => (match d.sc with
    | some v => (scs ds).map (v :: ·)
    | none => none)
theorem sc_flat {d : D} {v : V} (h : d.sc = some v) : flatV v = true := by
  cases d <;> cases h <;> rfl
theorem scs_ok {K : PySem.W.Frag} {R : RT} {n : Nat} {φ : Nat → Addr} {H : Hp} : ∀ {vs : List V} {ds : List D} {ws : List V}, Rps K R n φ H vs ds → scs ds = some ws → vs = ws ∧ ws.all flatV = true
  | _, [], _, .nil, h => by cases h; exact ⟨rfl, rfl⟩
  | _, d :: ds, ws, .cons r rs, h => by
    simp only [scs] at h
    split at h
    · rename_i v e
      cases q : scs ds with
      | none => rw [q] at h; cases h
      | some us =>
        rw [q] at h
        cases h
        obtain ⟨rfl, hf⟩ := scs_ok rs q
        rw [sc_ok r e]
        exact ⟨rfl, by rw [List.all_cons, sc_flat e, hf]; rfl⟩
    · cases h
def flip (neg b : Bool) : Bool := if neg then !b else b
def oIn (neg : Bool) (x y : D) (S : Store) : Out D := match x, y with
  | .str i, .str j => ret (.bl (flip neg (!(Builtin.Str.occurrences j i 0 j.length 1).isEmpty))) S
  | x, y => (match x.sc, (asQ S y).bind scs with
    | some v, some ws => ret (.bl (flip neg (inV v ws))) S
    | _, _ => (match x.py S, y.py S with
      | some p, some (.list ps) => guard' (SeqAt.shaped p && SeqAt.shaped (.list ps)) (ret (.bl (flip neg (ps.any fun z => PyData.eqv z p))) S)
      | some p, some (.tuple ps) => guard' (SeqAt.shaped p && SeqAt.shaped (.tuple ps)) (ret (.bl (flip neg (ps.any fun z => PyData.eqv z p))) S)
      | _, _ => none))
def rInDT (K : PySem.W.Frag) (neg : Bool) : R2 := fun x y H Q => ∃ d ds, Dp K H x d ∧ Dp K H y (.tuple ds) ∧ SeqAt.shaped d = true ∧ SeqAt.shaped (.tuple ds) = true ∧ Q (.bl (flip neg (ds.any fun z => PyData.eqv z d))) H
theorem op_inDT {X : Cx} (hu : X.A.units + 65 < cLine) : OpR X (compareOp .In) (rInDT X.K false) := by
  intro pins s σ H x y v u Q I rx ry h
  obtain ⟨d, ds, hd, he, sd, se, q⟩ := h
  obtain ⟨as, r1⟩ := Dp.reads I d x v hd rx
  obtain ⟨bs, r2⟩ := Dp.reads I (.tuple ds) y u he ry
  exact SeqAt.in_tuple_reads r2 r1 (SeqAt.canLay_of_shaped se) (SeqAt.canLay_of_shaped sd) (room_in_shaped sd hu) ⟨.bl _, H, I, rfl, q⟩
def rInM (K : PySem.W.Frag) (neg : Bool) : R2 := fun x y H Q => (∃ i j, x = .str i ∧ y = .str j ∧ Q (.bl (flip neg (!(Builtin.Str.occurrences j i 0 j.length 1).isEmpty))) H) ∨ (rIn K neg x y H Q ∨ (
  (∃ d ds, Dp K H x d ∧ Dp K H y (.list ds) ∧ SeqAt.shaped d = true ∧ SeqAt.shaped (.list ds) = true ∧ Q (.bl (flip neg (ds.any fun z => PyData.eqv z d))) H) ∨ rInDT K neg x y H Q))
theorem op_inM {X : Cx} (hu : X.A.units + 65 < cLine) : OpR X (compareOp .In) (rInM X.K false) := OpR.or op_in_str (OpR.or op_in_seq (OpR.or (op_inD hu) (op_inDT hu)))
theorem opm_in {c : Ct} {neg : Bool} : OpM c (rInM c.K neg) (oIn neg) := by
  intro φ S H Q x y a b z g rx ry h hp
  unfold oIn at h
  split at h
  · cases rx
    cases ry
    cases h
    exact .inl ⟨_, _, rfl, rfl, hp.now g (.bl _)⟩
  · split at h
    · rename_i v ws e1 e2
      cases h
      cases e3 : asQ S b with
      | none => rw [e3] at e2; cases e2
      | some ds =>
        rw [e3] at e2
        obtain ⟨p, xs, rfl, k, q⟩ := asQ_ok g ry e3
        obtain ⟨rfl, hf⟩ := scs_ok q e2
        rw [sc_ok rx e1]
        refine .inr (.inl ⟨p, _, rfl, k, sc_flat e1, hf, ?_⟩)
        cases neg <;> exact hp.now g (.bl _)
    · split at h
      · rename_i e1 e2
        obtain ⟨hs, h⟩ := guard_ok h
        cases h
        rw [Bool.and_eq_true] at hs
        exact .inr (.inr (.inl ⟨_, _, py_ok g rx e1, py_ok g ry e2, hs.1, hs.2, hp.now g (.bl _)⟩))
      · rename_i e1 e2
        obtain ⟨hs, h⟩ := guard_ok h
        cases h
        rw [Bool.and_eq_true] at hs
        exact .inr (.inr (.inr ⟨_, _, py_ok g rx e1, py_ok g ry e2, hs.1, hs.2, hp.now g (.bl _)⟩))
      · cases h
section
variable {X : Cx} {c : Ct} {k : Nat} {a b e : Expr} {pos : Pos} {fa fb fd : Env → Store → Out D} {x : Str}
theorem Bd.u65 {X : Cx} {c : Ct} {k : Nat} (B : Bd X c k) : X.A.units + 65 < cLine := by have := B.room.un; omega
theorem qIn (hK : c.K = X.K) (hu : X.A.units + 65 < cLine) (ha : PE X a (mE c fa)) (hb : PE X b (mE c fb)) (hk : behindInMarks .In b = false := by rfl) : PE X (.Compare a [.In] [b] pos) (mE c (eBin (oIn false) fa fb)) := m_cmp (r := rInM X.K false) (op_inM hu) (by rw [← hK]; exact opm_in) ha hb hk
theorem qIs (ha : PE X a (mE c fa)) (hb : PE X b (mE c fb)) : PE X (.Compare a [.Is] [b] pos) (mE c (eBin (oIs false) fa fb)) := m_cmp op_isN opm_is ha hb (nomark _)
theorem qIsNot (ha : PE X a (mE c fa)) (hb : PE X b (mE c fb)) : PE X (.Compare a [.IsNot] [b] pos) (mE c (eBin (oIs true) fa fb)) := m_cmp op_notN opm_isnot ha hb (nomark _)
theorem tIs (ha : PE X a (mE c fa)) (hb : PE X b (mE c fb)) : PT X (.Compare a [.Is] [b] pos) (mB c (eTru (eBin (oIs false) fa fb))) := b_cmp op_isN opm_is ha hb (nomark _) (oIs_bl _)
theorem tIsNot (ha : PE X a (mE c fa)) (hb : PE X b (mE c fb)) : PT X (.Compare a [.IsNot] [b] pos) (mB c (eTru (eBin (oIs true) fa fb))) := b_cmp op_notN opm_isnot ha hb (nomark _) (oIs_bl _)
end
end Pv
namespace Pv
open PySem PySem.Spec PyProof.Rows L2 PySem.Calls
def iEn (fs : Env → Store → Out (List D)) : SemI := fun ρ S => bnd (fs ρ S) fun ds S1 => match ds with
  | [x] => (match x with
    | .tup ds => ret (.enm (.tup ds)) S1
    | .str z => ret (.enZ z) S1
    | x => (match asL S1 x with
      | some _ => ret (.enm x) S1
      | none => none))
  | _ => none
def iEnS (j : Nat) (fs : Env → Store → Out (List D)) : SemI := fun ρ S => bnd (fs ρ S) fun ds S1 => match ds with
  | [.tup ds] => ret (.enS j ds) S1
  | _ => none
def bothL (S : Store) (x y : D) : Bool := match x, y with
  | .tup _, .tup _ => true
  | .tup _, _ => false
  | x, y => (asL S x).isSome && (asL S y).isSome
def iZp (fs : Env → Store → Out (List D)) : SemI := fun ρ S => bnd (fs ρ S) fun ds S1 => match ds with
  | [x, y] => if bothL S1 x y then ret (.zip x y) S1 else none
  | _ => none
end Pv
namespace Pv
open PySem PySem.Spec PyProof.Rows L2 PySem.Calls
def sBad : SemS := fun _ _ => none
theorem t_bad {X : Cx} {c : Ct} {st : Stmt} : PS X st (mT c sBad) := ⟨fun _ _ _ _ _ _ ⟨_, _, _, _, _, _, h, _⟩ => (nomatch h)⟩
def sTryN (f : SemS) : SemS := fun ρ S => match f ρ S with
  | some (.ok fl, S1) => some (.ok fl, S1)
  | _ => none
def intsD : List D → Option (List Int)
  | [] => some []
  | .int i :: r => (intsD r).map (i :: ·)
  | _ :: _ => none
def oSum (ds : List D) (S : Store) : Out D := match ds with
  | [d] => (match asL S d with
    | some ds => (match intsD ds with
      | some ns => ret (.int ns.sum) S
      | none => none)
    | none => none)
  | _ => none
def minI (i : Int) (is : List Int) : Int := is.foldl (fun a b => if b < a then b else a) i
def oMinL (ds : List D) (S : Store) : Out D := match ds with
  | [d] => (match asL S d with
    | some ds => (match intsD ds with
      | some (i :: is) => ret (.int (minI i is)) S
      | _ => none)
    | none => none)
  | _ => none
def MlM (c : Ct) (r : V → List V → Hp → VK → Prop) (o : D → List D → Store → Out D) : Prop := ∀ (φ : Nat → Addr) (S : Store) (H : Hp) (Q : VK) (x : V) (xs : List V) (a : D) (ds : List D) (z : Rs D × Store),
  Good c.K c.R φ H S → Rp c.K c.R S.length φ H x a → Rps c.K c.R S.length φ H xs ds → o a ds S = some z → Post c (RV c) φ S H Q z → r x xs H Q
def eMl (oo : D → List D → Store → Out D) (f : Env → Store → Out D) (fs : Env → Store → Out (List D)) (ρ : Env) (S : Store) : Out D := bnd (f ρ S) fun x S1 => guard' (isList S1 x) (bnd (fs ρ S1) fun ds S2 => oo x ds S2)
theorem m_ml {X : Cx} {c : Ct} {o e : Expr} {fo : Env → Store → Out D} {fs : Env → Store → Out (List D)} {apos cpos : Pos} {id : String} {name : Str} {r : V → List V → Hp → VK → Prop} {oo : D → List D → Store → Out D} (hK : c.K = X.K) (hmm : MlM c r oo) (slot : Slot "list" name id) (hty : typeOf (.builtin id) = pure (.type "method_descriptor")) (hm : MtR X id r) (ho : PE X o (mE c fo)) (ha : PA X [e] (mA c fs))
    (hbase : attributeBase o name X.env (eval o X.env) = eval o X.env := by rfl) (hfew : ((backTo cpos (starEach [e] X.env)).all (fun x => !x.1) && (backToKw cpos (keywordEach [] X.env)).all (fun x => x.1.isSome)
      && decide (([e] : List Expr).length + ([] : List Keyword).length + (if ([] : List Keyword).isEmpty then 0 else 1) < 30)) = true := by rfl)
    (hline : (apos.endLine == cpos.line) = true := by rfl) (hs : starEach [e] X.env = (false, eval e X.env) :: starEach [] X.env := by rfl) (hplain : (backTo cpos (starEach [] X.env)).any (·.1) = false := by rfl) :
    PE X (.Call (.Attribute o name apos) [e] [] cpos) (mE c (eMl oo fo fs)) := by
  refine pe_weak (pe_bm PySem.F.plainAttrs_list slot hty hm ho ha hbase hfew hline hs hplain) fun σ H Q ⟨φ, S, ρ, z, hg, hr, hf, hp⟩ => ?_
  refine Wp.fst hg hr hf hp fun x S1 v φ1 H1 s1 g1 e1 r1 hf1 hp1 => ?_
  obtain ⟨hl, hf1⟩ := guard_ok hf1
  refine ⟨?_, Wp.fst (rel := RL c) g1 e1 hf1 hp1 fun ds S2 vs φ2 H2 s2 g2 e2 r2 hf2 hp2 => hmm φ2 S2 H2 Q v vs x ds z g2 (Rp.step s2 r1) r2 hf2 hp2⟩
  unfold isList at hl
  obtain ⟨ds, e⟩ := Option.isSome_iff_exists.mp hl
  obtain ⟨p, xs, rfl, k, _⟩ := asL_ok g1 r1 e
  exact .inl ⟨rfl, xs, by rw [← hK]; exact k⟩
/-- xs.index(y), plain items -/
def oIndex (x : D) (ds : List D) (S : Store) : Out D := match ds with
  | [y] => (match y.sc, (asL S x).bind scs with
    | some v, some ws => (match ws.findIdx? fun z => eqV z v with
      | some j => ret (.int (j : Nat)) S
      | none => none)
    | _, _ => none)
  | _ => none
theorem mlm_index {c : Ct} : MlM c (rIndex c.K) oIndex := by
  intro φ S H Q x xs a ds z g rx r h hp
  unfold oIndex at h
  split at h
  · rename_i y
    obtain ⟨v, rfl, rv⟩ := r.one
    split at h
    · rename_i w ws e1 e2
      split at h
      · rename_i j ej
        cases h
        cases e3 : asL S a with
        | none => rw [e3] at e2; cases e2
        | some es =>
          rw [e3] at e2
          obtain ⟨p, ys, rfl, k, q⟩ := asL_ok g rx e3
          obtain ⟨rfl, hf⟩ := scs_ok q e2
          have ew := sc_ok rv e1
          subst ew
          obtain ⟨hj, h1, h2⟩ := List.findIdx?_eq_some_iff_getElem.mp ej
          refine ⟨p, _, _, j, _, rfl, rfl, k, sc_flat e1, hf, List.getElem?_eq_getElem hj, h1, fun m z' hm hz => ?_, hp.now g (.int _)⟩
          obtain ⟨hm', ez⟩ := List.getElem?_eq_some_iff.mp hz
          rw [← ez]
          simpa using h2 m hm
      · cases h
    · cases h
  · cases h
/-- k: v into the dict so far -/
def dcK (y : D) (k : L2.Key → Out (List (L2.Key × D))) : Out (List (L2.Key × D)) := match dKey y with
  | some q => k q
  | none => none
def compD (tg : Tg) (cnd : Option (Env → Store → Out Bool)) (fk fv : Env → Store → Out D) (s : Src) (ρ : Env) : Nat → Nat → List (L2.Key × D) → Store → Out (List (L2.Key × D))
  | 0, _, _, _ => none
  | m + 1, k, acc, S => (match s.at_ S k with
    | some none => ret acc S
    | some (some d) => (match setT tg d ρ with
      | some ρ1 => bndN (cndE cnd ρ1 S) fun b S1 => if b then bndN (fk ρ1 S1) fun y S2 => dcK y fun q => bndN (fv ρ1 S2) fun x S3 => guard' (decide (acc.length < line)) (compD tg cnd fk fv s ρ m (k + 1) (putD acc q x) S3) else compD tg cnd fk fv s ρ m (k + 1) acc S1
      | none => none)
    | none => none)
def eDComp (tg : Tg) (fi : SemI) (cnd : Option (Env → Store → Out Bool)) (fk fv : Env → Store → Out D) (vs : List Nat) (m : Nat) (ρ : Env) (S : Store) : Out D :=
  bnd (fi ρ S) fun s S1 => bnd (compD tg cnd fk fv s (wipeD ρ vs) m 0 [] S1) fun kvs S2 => ret (.cell S2.length) (S2 ++ [.dct kvs])
theorem Rps.pick {K : PySem.W.Frag} {R : RT} {n : Nat} {φ : Nat → Addr} {H : Hp} {vs : List V} {ds : List D} (r : Rps K R n φ H vs ds) : ∀ {is : List Nat}, (∀ i ∈ is, i < ds.length) → Rps K R n φ H (Pv.pick is vs) (Pv.pick is ds)
  | [], _ => .nil
  | i :: is, h => by
    have hi := h i (List.mem_cons_self ..)
    have hv : i < vs.length := by rw [r.length]; exact hi
    have e1 : Pv.pick (i :: is) vs = vs[i] :: Pv.pick is vs := by
      unfold Pv.pick
      rw [List.filterMap_cons, List.getElem?_eq_getElem hv]
    have e2 : Pv.pick (i :: is) ds = ds[i] :: Pv.pick is ds := by
      unfold Pv.pick
      rw [List.filterMap_cons, List.getElem?_eq_getElem hi]
    rw [e1, e2]
    obtain ⟨v, h1, h2⟩ := r.get (List.getElem?_eq_getElem hi)
    rw [List.getElem?_eq_getElem hv] at h1
    cases h1
    exact .cons h2 (Rps.pick r fun j hj => h j (List.mem_cons_of_mem _ hj))
def eCallK (F : Fn) (is : List Nat) (fs : Env → Store → Out (List D)) (ρ : Env) (S : Store) : Out D := bnd (fs ρ S) fun ds S1 => guard' (ds.length == is.length && is.all fun i => decide (i < ds.length)) (F (pick is ds) S1)
section
variable {X : Cx} {c : Ct} {m k k2 : Nat} {F : Fn} {x : Str} {p pos kpos : Pos} {e : Expr} {kws : List Keyword} {ks : List Str} {is : List Nat} {f : Env → Store → Out D} {fs : Env → Store → Out (List D)} {nm : Option Str}
theorem k_nil : PK X [] (mA c eNil) := ⟨fun pos pins s σ H Q I h => (pk_nil (X := X)).run pos pins s σ H Q I (Wp.con (b := ([] : List V)) h fun _ _ => .nil)⟩
theorem k_cons (h : PE X e (mE c f)) (hr : PK X kws (mA c fs)) : PK X (⟨nm, e, kpos⟩ :: kws) (mA c (eCons f fs)) := by
  refine ⟨fun pos pins s σ H Q I ⟨φ, S, ρ, z, hg, hr', hf, hp⟩ => (pk_cons (nm := nm) (kpos := kpos) h hr).run pos pins s σ H Q I ?_⟩
  refine Wp.fst hg hr' hf hp fun d S1 v φ1 H1 s1 g1 e1 r1 hf1 hp1 => ?_
  refine Wp.fst (rel := RL c) g1 e1 hf1 hp1 fun ds S2 vs φ2 H2 s2 g2 e2 r2 hf2 hp2 => ?_
  cases hf2
  exact hp2.now g2 (.cons (Rp.step s2 r1) r2)
end
end Pv
namespace Pv
open PySem PySem.Spec PyProof.Rows L2 PySem.Calls
section
variable {X : Cx} {c : Ct} {x : Str} {p pos : Pos} {o e : Expr} {id : String} {r : PySem.W.Frag → List V → Hp → VK → Prop} {oo : List D → Store → Out D} {fo : Env → Store → Out D} {fs : Env → Store → Out (List D)} {apos : Pos}
theorem qIndex (hK : c.K = X.K) (ho : PE X o (mE c fo)) (ha : PA X [e] (mA c fs)) (hbase : attributeBase o "index" X.env (eval o X.env) = eval o X.env := by rfl) (hfew : ((backTo pos (starEach [e] X.env)).all (fun x => !x.1) && (backToKw pos (keywordEach [] X.env)).all (fun x => x.1.isSome)
      && decide (([e] : List Expr).length + ([] : List Keyword).length + (if ([] : List Keyword).isEmpty then 0 else 1) < 30)) = true := by rfl)
    (hline : (apos.endLine == pos.line) = true := by rfl) (hs : starEach [e] X.env = (false, eval e X.env) :: starEach [] X.env := by rfl) (hplain : (backTo pos (starEach [] X.env)).any (·.1) = false := by rfl) :
    PE X (.Call (.Attribute o "index" apos) [e] [] pos) (mE c (eMl oIndex fo fs)) := m_ml (r := rIndex X.K) hK (by rw [← hK]; exact mlm_index) PySem.F.slot_list_index PySem.F.type_list_index mt_index ho ha hbase hfew hline hs hplain
end
end Pv
namespace Pv
open PySem PySem.Spec PyProof.Rows L2 PySem.Calls
section
variable {P : Program} {w : World} {K : PySem.W.Frag} {mg : Str → Option Value} {base : Heap} {CX : CXT} {C : Addr} {x qual f1 f2 : Str} {params : Arguments} {body : List Stmt} {scope : Scope} {f : Addr} {fd : FuncData} {p1 p2 p3 p4 p5 p6 p7 p8 : Pos}
theorem init_len {fl : List Str} {vs : List V} {H : Hp} {Q : VK} {E : XK} (h : spInit C fl vs H Q E) : vs.length = (("self" : Str) :: fl).length := by
  obtain ⟨a, ws, rfl, l, _⟩ := h
  simp [l]
theorem init_2 (D : FunD K x qual params body scope [] [] f fd) (S : FnScope ["self", f1, f2] ["self", f1, f2] scope) (T : OexC K C) (n1 : PySem.W.findIn K (.ref C) f1 = some none) (n2 : PySem.W.findIn K (.ref C) f2 = some none)
    (hb : body = [.Assign [.Attribute (.Name "self" p1) f1 p2] (.Name f1 p3) p4, .Assign [.Attribute (.Name "self" p5) f2 p6] (.Name f2 p7) p8]) (v0 : Vis scope "self") (v1 : Vis scope f1) (v2 : Vis scope f2) (d1 : (f1 == ("__debug__" : Str)) = false) (c1 : (f1 == ("__classdict__" : Str)) = false)
    (d2 : (f2 == ("__debug__" : Str)) = false) (c2 : (f2 == ("__classdict__" : Str)) = false) : FnOk P w K mg base CX 1 f fd ["self", f1, f2] (spInit C [f1, f2]) := by
  refine D.ok S (fun _ _ _ _ h => init_len h) fun cdv A outer s H vs Q E room h => ?_
  obtain ⟨a, ws, rfl, l, ea, q⟩ := h
  obtain ⟨y, z, rfl⟩ : ∃ y z, ws = [y, z] := by
    cases ws with
    | nil => cases l
    | cons y r => cases r with
      | nil => cases l
      | cons z r => cases r with
        | nil => exact ⟨y, z, rfl⟩
        | cons => cases l
  subst hb
  refine ⟨_, pss_cons (ps_ost (pe_var (i := 0) rfl v0) (pe_var (i := 1) rfl v1 d1 c1)) (pss_one (ps_ost (pe_var (i := 0) rfl v0) (pe_var (i := 2) rfl v2 d2 c2))), ?_⟩
  refine ⟨y, rfl, .ref a, rfl, a, C, rfl, T, n1, .inl ⟨ea, fun dx hn ne => ?_⟩⟩
  refine ⟨z, rfl, .ref a, rfl, a, C, rfl, T, n2, .inr ⟨dx, [(f1, y)], upd_same, by rw [upd_ne ne, upd_same], by simp, ?_⟩⟩
  refine q dx _ hn ne (by rw [upd_ne (Ne.symm ne), upd_same]) upd_same fun b h1 h2 => by rw [upd_ne h2, upd_ne h1, upd_ne h2]
end
def sRaise (x : Str) (fl : List Str) (fs : Env → Store → Out (List D)) : SemS := fun ρ S => bnd (fs ρ S) fun ds S1 => guard' (ds.length == fl.length && decide (ds.length ≤ 900)) (some (.ex ⟨x, (fl.zip ds).reverse⟩, S1))
theorem t_raise {X : Cx} {c : Ct} {k : Nat} {x : Str} {fl : List Str} {e : Expr} {es : List Expr} {fs : Env → Store → Out (List D)} {p pos rpos : Pos} (B : Bd X c k) (W : Xc X.prog X.w X.K X.mg X.base c.cls x fl) (args : PA X (e :: es) (mA c fs)) (hk : 2 ≤ k := by decide) (hg : Gl X x := by rfl)
    (hdb : (x == ("__debug__" : Str)) = false := by decide) (he : starEach (e :: es) X.env = (false, eval e X.env) :: starEach es X.env := by rfl) (hpl : (backTo pos (starEach es X.env)).any (·.1) = false := by rfl) :
    PS X (.Raise (some (.Call (.Name x p) (e :: es) [] pos)) none rpos) (mT c (sRaise x fl fs)) := by
  obtain ⟨C, fI, fd, hm, hc, T, iC, tI, F, hb⟩ := W.ex
  refine ps_weak (ps_raise B.calm B.tk (pmk_oex (k := 1) T iC tI F (B.room.mono hk) hb .nil pass_none hg hm args hdb he hpl)) ?_
  rintro d σ H ⟨φ, S, ρ, r, g, en, hf, hp⟩
  refine mT_fst (rel := RL c) g en hf hp fun ds S1 vs φ1 H1 s1 g1 e1 r1 hf1 hp1 => ?_
  obtain ⟨hl, hf1⟩ := guard_ok hf1
  cases hf1
  simp only [Bool.and_eq_true, beq_iff_eq, decide_eq_true_eq] at hl
  have lv : vs.length = fl.length := r1.length.trans hl.1
  have lb : vs.length ≤ 1000 := by rw [r1.length]; omega
  refine ⟨lb, fun a hn => ?_⟩
  rw [List.append_nil]
  refine ⟨a, vs, rfl, lv, upd_same, fun dx H2 hdx ne ea ed oth => ⟨rfl, dx, _, ea, ed, ?_, ?_⟩⟩
  · rwa [upd_ne ne] at hdx
  · rw [upd_ne ne] at hdx
    have eH : upd (del H2 a) dx (.xd (fl.zip vs).reverse) = upd H1 dx (.xd (fl.zip vs).reverse) := by
      funext b
      by_cases hb2 : b = dx
      · subst hb2; rw [upd_same, upd_same]
      · rw [upd_ne hb2, upd_ne hb2]
        by_cases ha : b = a
        · subst ha; rw [del_same, hn]
        · rw [del_ne ha, oth b ha hb2, upd_ne ha]
    rw [eH]
    refine hp1 (.ref C) (some dx) φ1 _ (Step.new hdx) (g1.step_new hdx) ?_
    have z1 : ∀ {α : Type} {l : List α}, fl.length = l.length → (fl.zip l).reverse.map (·.1) = fl.reverse := fun h => by rw [List.map_reverse, zip_fst h]
    have z2 : ∀ {α : Type} {l : List α}, fl.length = l.length → (fl.zip l).reverse.map (·.2) = l.reverse := fun h => by rw [List.map_reverse, zip_snd h]
    refine ⟨C, dx, _, rfl, hc, rfl, upd_same, by rw [z1 lv.symm, z1 hl.1.symm], ?_⟩
    rw [z2 lv.symm, z2 hl.1.symm]
    exact (r1.step (Step.new hdx)).reverse
def sTryC (sub : Subs) (y : Str) (b : SemS) (d : D) : SemS := fun ρ S => match b ρ S with
  | some (.ok fl, S1) => some (.ok fl, S1)
  | some (.ex x, S1) => (match sub x.cls y with
    | some true => some (.ok (.rt d), S1)
    | some false => some (.ex x, S1)
    | none => none)
  | none => none
end Pv
namespace Pv
open PySem PySem.Spec PyProof.Rows L2 PySem.Calls
theorem xfB'_ok {K : PySem.W.Frag} {C : Addr} (h : xfB' K C = true) : XfK K C := by
  unfold xfB' at h
  simp only [Bool.and_eq_true, decide_eq_true_eq] at h
  obtain ⟨⟨⟨⟨⟨⟨⟨⟨h1, h2⟩, h3⟩, h4⟩, h5⟩, h6⟩, h7⟩, h8⟩, h9⟩ := h
  exact ⟨h1, h2, h3, h4, h5, h6, h7, h8, h9⟩
section
variable {X : Cx} {c : Ct}
theorem inst_at {a dd C : Addr} {cn : Str} (T : ErAt X c a dd C cn) {pins : List (Addr × Obj)} {σ : L2.St} {H : Hp} {s : Shared} (I : Inv X pins σ H s) {fs : List (Str × V)} (e : H dd = some (.xd fs)) :
    ∃ (oe od : Obj) (mA : Str → Option Value), PySem.W.InstAt s.heap a oe C (some od) ∧ (∀ n, PySem.W.lookIn n od = some (mA n)) ∧ ∀ n, RelO (fs.lookup n) (mA n) := by
  obtain ⟨oe, hp, hz, vs, hd⟩ := T.pin
  obtain ⟨ha, _⟩ := I.pin (a, oe) (List.mem_append_left _ hp)
  have hx : ObjOk X.prog X.w H s.heap dd (.xd fs) := I.hok dd _ e
  obtain ⟨mA, hns, hr⟩ := hx
  obtain ⟨od, ho, hl⟩ := lookIn_ns hns
  exact ⟨oe, od, mA, ⟨ha, hz.1, by unfold PySem.W.notCls; rw [hd] <;> rfl, by rw [hz.2]; exact ho⟩, hl, hr⟩
def eIsE (sub : Subs) (y : Str) (f : Env → Store → Out D) (ρ : Env) (S : Store) : Out D := bnd (f ρ S) fun d S1 => match d with
  | .err cn _ _ => (match sub cn y with
    | some b => ret (.bl b) S1
    | none => none)
  | _ => none
def eFld (fl : Str → Option (List Str)) (n : Str) (f : Env → Store → Out D) (ρ : Env) (S : Store) : Out D := bnd (f ρ S) fun d S1 => match d with
  | .err cn ks ds => (match fl cn with
    | some l => guard' (decide (n ∈ l)) (match (ks.zip ds).lookup n with
      | some v => ret v S1
      | none => none)
    | none => none)
  | _ => none
def rIsX (K : PySem.W.Frag) (a dd C : Addr) : List V → Hp → VK → Prop := fun xs H Q => ∃ fs k cv b, xs = [V.ref a, k] ∧ (∀ u, RelV k u → u = cv) ∧ H dd = some (.xd fs) ∧ PySem.W.kitOne K (.ref C) cv = some b ∧ Q (.bl b) H
theorem call_isX {a dd C : Addr} {cn : Str} (T : ErAt X c a dd C cn) : CallR X (.builtin "isinstance") (rIsX X.K a dd C) := by
  intro pins s σ H xs us Q I r h
  obtain ⟨fs, k, cv, b, rfl, hk, e, kb, q⟩ := h
  match us, r with
  | [_, u], .cons ra (.cons ru .nil) =>
    cases ra
    cases hk u ru
    obtain ⟨oe, od, mA, J, _, _⟩ := inst_at T I e
    exact PySem.W.kia_one (PySem.W.kitx_exc T.kf.cl T.kf.ga T.kf.gg T.kf.ex T.kf.ca T.kf.sp T.kf.tk T.kf.mo) I.kIn J kb (fun z => nomatch z) fun tk => ⟨.bl b, H, I.kept (t' := tk) fun _ _ z => z, rfl, q⟩
theorem err_inv {K : PySem.W.Frag} {R : RT} {n : Nat} {φ : Nat → Addr} {H : Hp} {v : V} {cn : Str} {ks : List Str} {ds : List D} (r : Rp K R n φ H v (.err cn ks ds)) : ∃ a dd fs, v = .ref a ∧ R.er = some (a, cn, dd) ∧ H dd = some (.xd fs) ∧ fs.map (·.1) = ks ∧ Rps K R n φ H (fs.map (·.2)) ds := by
  cases r with
  | err e h f c k r => exact ⟨_, _, _, rfl, e, h, k, r⟩
theorem q_isX {y : Str} {e : Expr} {f : Env → Store → Out D} {sub : Subs} {p p2 pos : Pos} (B : Be X c) (ks : KitOk X.K X.mg c.cls sub) (hm : X.mg "isinstance" = none) (hy : ∃ cy, X.mg y = some (.ref cy)) (he : PE X e (mE c f)) (hg : Gl X "isinstance" := by rfl) (hgy : Gl X y := by rfl) (hdb : (y == ("__debug__" : Str)) = false := by decide)
    (hs : starEach (e :: [.Name y p2]) X.env = (false, eval e X.env) :: starEach [.Name y p2] X.env := by rfl) (hpl : (backTo pos (starEach [.Name y p2] X.env)).any (·.1) = false := by rfl) : PE X (.Call (.Name "isinstance" p) [e, .Name y p2] [] pos) (mE c (eIsE sub y f)) := by
  obtain ⟨a, dd, C, cn, T⟩ := B.at_
  obtain ⟨cy, hy⟩ := hy
  have hT : PE X (.Name y p2) (tC (.ref cy)) := pe_glob hgy hy rfl hdb
  have ha : PA X [e, .Name y p2] (tCons (mE c f) (tCons (tC (.ref cy)) tNil)) := pa_cons he (pa_cons hT pa_nil) (hs := hs)
  refine pe_weak (pe_callB (id := "isinstance") (call_isX T) hg hm PyProof.Rows.boot_isinstance ha (by decide) (by decide) (he := hs) (hpl := hpl)) fun σ H Q ⟨φ, S, ρ, z, hg, hr, hf, hp⟩ => ?_
  refine Wp.fst hg hr hf hp fun d S1 v φ1 H1 s1 g1 e1 r1 hf1 hp1 => ?_
  cases d with
  | err cn2 k2 d2 =>
    obtain ⟨a2, dd2, fs, rfl, er, hx, _, _⟩ := err_inv r1
    rw [T.er] at er
    cases er
    simp only at hf1
    split at hf1
    · rename_i b eb
      cases hf1
      exact ⟨fs, .ref cy, .ref cy, b, rfl, (fun u z => z), hx, ks.own _ _ _ eb C T.cls cy hy, hp1.now g1 (.bl _)⟩
    · cases hf1
  | _ => cases hf1
theorem q_isVE {e : Expr} {f : Env → Store → Out D} {sub : Subs} {p p2 pos : Pos} (B : Be X c) (ks : KitOk X.K X.mg c.cls sub) (hm : X.mg "isinstance" = none) (hy : X.mg "ValueError" = none) (he : PE X e (mE c f)) (hg : Gl X "isinstance" := by rfl) (hgy : Gl X "ValueError" := by rfl)
    (hs : starEach (e :: [.Name "ValueError" p2]) X.env = (false, eval e X.env) :: starEach [.Name "ValueError" p2] X.env := by rfl) (hpl : (backTo pos (starEach [.Name "ValueError" p2] X.env)).any (·.1) = false := by rfl) : PE X (.Call (.Name "isinstance" p) [e, .Name "ValueError" p2] [] pos) (mE c (eIsE sub "ValueError" f)) := by
  obtain ⟨a, dd, C, cn, T⟩ := B.at_
  have hT : PE X (.Name "ValueError" p2) (tC (.ty "ValueError")) := pe_bltn hgy hy PyProof.Rows.Boot.«ValueError» rfl (by decide) (by decide)
  have ha : PA X [e, .Name "ValueError" p2] (tCons (mE c f) (tCons (tC (.ty "ValueError")) tNil)) := pa_cons he (pa_cons hT pa_nil) (hs := hs)
  refine pe_weak (pe_callB (id := "isinstance") (call_isX T) hg hm PyProof.Rows.boot_isinstance ha (by decide) (by decide) (he := hs) (hpl := hpl)) fun σ H Q ⟨φ, S, ρ, z, hg, hr, hf, hp⟩ => ?_
  refine Wp.fst hg hr hf hp fun d S1 v φ1 H1 s1 g1 e1 r1 hf1 hp1 => ?_
  cases d with
  | err cn2 k2 d2 =>
    obtain ⟨a2, dd2, fs, rfl, er, hx, _, _⟩ := err_inv r1
    rw [T.er] at er
    cases er
    simp only at hf1
    split at hf1
    · rename_i b eb
      cases hf1
      exact ⟨fs, .ty "ValueError", .type "ValueError", b, rfl, (fun u z => z), hx, ks.ve _ _ eb C T.cls, hp1.now g1 (.bl _)⟩
    · cases hf1
  | _ => cases hf1
theorem zip_look {K : PySem.W.Frag} {R : RT} {n : Nat} {φ : Nat → Addr} {H : Hp} {x : Str} {d : D} : ∀ {fs : List (Str × V)} {ks : List Str} {ds : List D}, fs.map (·.1) = ks → Rps K R n φ H (fs.map (·.2)) ds → (ks.zip ds).lookup x = some d → ∃ v, fs.lookup x = some v ∧ Rp K R n φ H v d
  | [], _, _, rfl, .nil, h => nomatch h
  | (k, v) :: fs, _, _, rfl, .cons (d := d1) r1 r2, h => by
    simp only [List.map_cons, List.zip_cons_cons, List.lookup_cons] at h ⊢
    cases q : x == k with
    | true =>
      rw [q] at h
      cases h
      exact ⟨v, rfl, r1⟩
    | false =>
      rw [q] at h
      exact zip_look rfl r2 h
theorem q_fld {n : Str} {e : Expr} {f : Env → Store → Out D} {fl : Str → Option (List Str)} {pos : Pos} (B : Be X c) (F : FldOk X.K c.cls fl) (he : PE X e (mE c f)) (hb : attributeBase e n X.env (eval e X.env) = eval e X.env := by rfl) : PE X (.Attribute e n pos) (mE c (eFld fl n f)) := by
  obtain ⟨a, dd, C, cn, T⟩ := B.at_
  refine ⟨fun pins s σ H Q I h => ?_⟩
  have h2 : mE c f σ H (fun v H1 => ∃ fs y, v = .ref a ∧ H1 dd = some (.xd fs) ∧ PySem.W.findIn X.K (.ref C) n = some none ∧ fs.lookup n = some y ∧ Q y H1) := by
    obtain ⟨φ, S, ρ, z, g, en, hf, hp⟩ := h
    refine Wp.fst g en hf hp fun d S1 v φ1 H1 s1 g1 e1 r1 hf1 hp1 => ?_
    cases d with
    | err cn2 k2 d2 =>
      obtain ⟨a2, dd2, fs, rfl, er, hx, ek, rr⟩ := err_inv r1
      rw [T.er] at er
      cases er
      simp only at hf1
      split at hf1
      · rename_i l el
        obtain ⟨hn, hf1⟩ := guard_ok hf1
        split at hf1
        · rename_i y ey
          cases hf1
          obtain ⟨v, e2, r2⟩ := zip_look ek rr ey
          exact ⟨fs, v, rfl, hx, F.ok _ _ el n (of_decide_eq_true hn) C T.cls, e2, hp1.now g1 r2⟩
        · cases hf1
      · cases hf1
    | _ => cases hf1
  refine attr_of hb (thn (he.run pins s σ H _ I h2) fun u s1 ⟨x, H1, I1, rx, fs, y, ex, ea, hno, l, q⟩ => ?_)
  subst ex
  obtain rfl : u = Value.ref a := rx
  obtain ⟨oe, od, mA, J, hl, hr⟩ := inst_at T I1 ea
  obtain ⟨u, hu, ru⟩ := RelO.some_of (v := y) (o := mA n) (by rw [← l]; exact hr n)
  exact HandSPX.exc_get I1.kIn J T.kf.ga T.kf.gg T.kf.ex (PySem.W.findObj_own T.kf.hd hno rfl (by rw [hl, hu])) (handed_of ru) ⟨y, H1, I1.tok _, ru, q⟩
end
end Pv
namespace Pv
open PySem PySem.Spec PyProof.Rows L2 PySem.Calls
theorem FnE.of {P : Program} {w : World} {K : PySem.W.Frag} {mg : Str → Option Value} {base : Heap} {k : Nat} {f : Addr} {x qual : Str} {params : Arguments} {body : List Stmt} {scope : Scope} {dvs : List V} {kws : List (Str × V)} {fd : FuncData} {N ps : List Str} {sp : Addr × Obj → Sp}
    (D : FunD K x qual params body scope dvs kws f fd) (S : FnScope N ps scope) (len : ∀ p vs H Q E, sp p vs H Q E → vs.length = ps.length)
    (hbody : ∀ (cdv : Value) (A : Around) (outer : List PySem.Env) (s : Shared) (H : Hp) (vs : List V) (Q : VK) (E : XK) (p : Addr × Obj), L2H.RoomH k (A.deeper (envOfC qual scope s.heap.objs.size f cdv)) → sp p vs H Q E →
      ∃ t, PSs (L2H.cxH (L2.CX P w) P w K mg base N qual scope f cdv A outer s H E p) body t ∧ t { nx := fun _ H' => Q .non H', rt := Q } (start N vs) H) : FnE P w K mg base (k + 1) f fd ps sp := by
  obtain ⟨oc, od, dV, kV, doc, pm, an, cdv, ct, osl, rfl, lk, code, _, _⟩ := D.ex
  refine ⟨len, fun A outer s H args us vs Q E p room pin e0 bind rel hw => ?_⟩
  have size := len p _ _ _ _ hw
  have inK : K.In s.heap := e0.mod.kin.keeps fun b o q => (e0.bs b o q).1
  have lim : s.heap.NoLimit := e0.mod.nolimit.keeps fun b o q => (e0.bs b o q).1
  have kinds : ∀ y ∈ ps.zip us, scope.names.lookup y.1 = some .local ∨ (scope.names.lookup y.1 = some .cell ∧ ((cellsFrom (s.heap.objs.size + 1) scope.names []).lookup y.1).isSome = true) := by
    rintro ⟨y, u⟩ hy
    exact (S.par y (List.of_mem_zip hy).1).imp id fun q => ⟨q, PySem.W.cellsFrom_some _ _ _ (.inl q)⟩
  refine codeAny_call_function room.depth (inK _ _ lk) rfl S.co S.gen rfl (PySem.W.codeRec_of inK code) (bind _ _ _ _ (wpAny_newFunctionEnv_cells S.kind kinds fun env henv s1 entry => ?_))
  subst henv
  refine ⟨lim.keeps entry.toInCall.keep, codeAny_func ?_⟩
  obtain ⟨t, term, w'⟩ := hbody cdv A outer s H vs Q E p (room.deeper _) hw
  have I := L2H.inv_startH (CX := L2.CX P w) (E := E) S pin e0 size rel entry
  refine wpAny_mono (term.run [] s1 (start N vs) H _ I w') (fun fl s' last => ?_) fun _ _ q => q
  match fl, last with
  | .ret u, ⟨v, σ', H', J, rv, q⟩ => exact ⟨v, H', J.os, J.bare, J.base, J.hok, rv, q⟩
  | .next, ⟨σ', H', J, q⟩ => exact ⟨V.non, H', J.os, J.bare, J.base, J.hok, rfl, q⟩
  | .brk, ⟨_, _, _, q⟩ => exact q.elim
  | .cont, ⟨_, _, _, q⟩ => exact q.elim
/-- called with one name, in the suite -/
def tCallE (sp : Sp) (t : TE) : TE := fun σ H Q => t σ H fun v H1 => sp [v] H1 Q fun _ _ _ => False
theorem pe_callE {X : Cx} {k : Nat} {f : Addr} {fd : FuncData} {ps : List Str} {sp : Addr × Obj → Sp} {x : Str} {p pos : Pos} {e : Expr} {t : TE} {q : Addr × Obj} (F : FnE X.prog X.w X.K X.mg X.base k f fd ps sp) (room : L2H.RoomH k X.A) (hq : q ∈ X.pn) (glob : Gl X x) (at_ : X.mg x = some (.ref f)) (kp : PySem.W.keepIn X.K (.ref f) = true) (bind : Binds X.K fd ps [])
    (he : PE X e t) (hdb : (x == ("__debug__" : Str)) = false) (hs : starEach [e] X.env = [(false, eval e X.env)]) (hs2 : starEach [e] X.env = (false, eval e X.env) :: starEach [] X.env) (hpl : (backTo pos (starEach [] X.env)).any (·.1) = false) : PE X (.Call (.Name x p) [e] [] pos) (tCallE (sp q) t) := by
  have args : PA X [e] (tCons t tNil) := pa_cons he pa_nil (hs := hs2)
  refine ⟨fun pins s σ H Q I w => wpAny_Call_Name_kw (ld_glob I glob at_ (PySem.W.callWith_K (h₀ := X.base) I.ok.mod.kin kp (thn (args.run pos pins s σ H (fun vs H1 => sp q vs H1 Q fun _ _ _ => False) I ?_) fun us s1 ⟨vs, H1, I1, rel, w1⟩ => ⟨I1.kIn, ?_⟩) hs2 hpl) hdb)⟩
  · exact w
  · have b := bind s1 us I1.kIn (by rw [List.append_nil, ← Vals.length rel]; exact F.len _ _ _ _ _ w1)
    rw [List.append_nil] at b
    have P1 := I1.pin q (List.mem_append_left _ hq)
    have pin : L2H.PinOk X.stack H1 s1 q := ⟨P1.1, P1.2.1, fun hm => (List.mem_cons.mp (I1.stkSub q.1 hm)).elim P1.2.2.1 P1.2.2.2.1, P1.2.2.2.2⟩
    refine wpAny_call (codeAny_mono (F.run X.A X.stack s1 H1 ⟨us, []⟩ us vs Q (fun _ _ _ => False) q room pin I1.env0 b rel w1) fun r s' end_ => ?_)
    match r, end_ with
    | .error e, ⟨_, _, _, _, _, _, _, _, _, _, _, _, z⟩ => exact z.elim
    | .ok (.ret u), end_ => exact I1.after end_
theorem takes_len {X : Cx} {W : WX} (t : Takes X W) : Takes X (fun cl d σ H => σ.length = X.N.length → W cl d σ H) := fun u s' ⟨a, B, sI, pins, σ, H, cls, d, e, I, nb, up, sky, na, os, ag, w⟩ =>
  t u s' ⟨a, B, sI, pins, σ, H, cls, d, e, I, nb, up, sky, na, os, ag, w I.len⟩
theorem said_gives {X : Cx} {x ask fnd err rf ce q w0 w1 w2 : Str} {sg : Scope} {g fR CE : Addr} {cdg : Value} {k : Nat} {fdR : FuncData} {psR : List Str} {sp : Addr × Obj → Sp} {j0 j1 j2 : Nat} {a1 a2 a3 a4 a5 a6 a7 a8 a9 b1 b2 b3 b4 b5 b6 b7 b8 b9 c1 c2 : Pos}
    (FR : FnE X.prog X.w X.K X.mg X.base k fR fdR psR sp) (room : ∀ (s : Shared), L2H.RoomH k (X.A.deeper (envOfC x sg s.heap.objs.size g cdg))) (atR : X.mg rf = some (.ref fR)) (kpR : PySem.W.keepIn X.K (.ref fR) = true) (bR : Binds X.K fdR psR []) (atE : X.mg ce = some (.ref CE))
    (nd : [ask, fnd, err].Nodup) (v1 : Vis sg fnd) (v2 : Vis sg err) (l1 : sg.names.lookup fnd = some .local) (l2 : sg.names.lookup err = some .local) (gR : sg.names.lookup rf = some .globalImplicit) (gE : sg.names.lookup ce = some .globalImplicit)
    (d1 : (fnd == ("__debug__" : Str)) = false) (d1' : (fnd == ("__classdict__" : Str)) = false) (d2 : (err == ("__debug__" : Str)) = false) (d2' : (err == ("__classdict__" : Str)) = false) (dR : (rf == ("__debug__" : Str)) = false) (dE : (ce == ("__debug__" : Str)) = false)
    (kO : ∀ (s : Shared), (envOfC x sg s.heap.objs.size g cdg).kindOf err = some .local) :
    LamX.GivesTo X [ask, fnd, err] x sg g cdg
      [.Assign [.Name fnd a1] (.Tuple [.Constant (.str w0) j0 a2, .Constant (.str w1) j1 a3] 0 a4) a5,
       .Try [.Return (some (.Tuple [.Constant (.str w2) j2 a6, .Call (.Name ask a7) [] [] a8] 0 a9)) b1] [.ExceptHandler (some (.Name ce b2)) (some err) [.Assign [.Name fnd b3] (.Call (.Name rf b4) [.Name err b5] [] b6) b7] b8] [] [] b9,
       .Return (some (.Name fnd c1)) c2] ask q (TTs X.K CE w0 w1 w2 sp) := by
  intro f c' s H Q tl act hc h
  generalize hZ : (cxOf C8.CX0 X.prog X.w X.K X.mg X.base [ask, fnd, err] x sg g cdg X.A X.stack s H C8.E0) = Z at act
  have eN : Z.nox.N = [ask, fnd, err] := by rw [← hZ]; rfl
  have eE : Z.nox.env = envOfC x sg s.heap.objs.size g cdg := by rw [← hZ]; rfl
  have eA : Z.nox.A = X.A.deeper (envOfC x sg s.heap.objs.size g cdg) := by rw [← hZ]; rfl
  have eP : Z.nox.prog = X.prog := by rw [← hZ]; rfl
  have eW : Z.nox.w = X.w := by rw [← hZ]; rfl
  have eK : Z.nox.K = X.K := by rw [← hZ]; rfl
  have eM : Z.nox.mg = X.mg := by rw [← hZ]; rfl
  have eB : Z.nox.base = X.base := by rw [← hZ]; rfl
  have kd : Z.nox.env.scope = sg := by rw [eE]; rfl
  have hst : Z.nox.stack = Z.nox.env :: Z.nox.outer := by rw [← hZ]; rfl
  have hfr : Z.nox.env.frame = some Z.nox.env.locals := by rw [← hZ]; rfl
  have gE' : Gl Z.nox ce := by
    show Z.nox.env.kindOf ce = _
    rw [eE]
    exact gE
  have kO' : Z.nox.env.kindOf err = some .local := by rw [eE]; exact kO s
  have i0 : Z.nox.N[0]? = some ask := by rw [eN]; rfl
  have i1 : Z.nox.N[1]? = some fnd := by rw [eN]; rfl
  have i2 : Z.nox.N[2]? = some err := by rw [eN]; rfl
  have ndN : Z.nox.N.Nodup := by rw [eN]; exact nd
  have S1 : PS Z.nox (.Assign [.Name fnd a1] (.Tuple [.Constant (.str w0) j0 a2, .Constant (.str w1) j1 a3] 0 a4) a5) (tAsg (tTup (tCons (tC (.str w0)) (tCons (tC (.str w1)) tNil))) (gName 1)) :=
    ps_set ndN i1 (.inl (by rw [kd]; exact l1)) (pe_tup (pa_cons pe_str (pa_cons pe_str pa_nil))) (hf := .inr (by rw [kd]; exact l1))
  have S3 : PS Z.nox (.Return (some (.Name fnd c1)) c2) (tRet (tVar 1)) := ps_ret (pe_var i1 (by rw [kd]; exact v1) d1 d1')
  have S2 := ps_try_as (X := Z.nox) (i := 2) (n := err) (x := ce) (c := .ref CE) (np := b2) (pos' := b8) (pos := b9) (body := [.Return (some (.Tuple [.Constant (.str w2) j2 a6, .Call (.Name ask a7) [] [] a8] 0 a9)) b1])
    (b₀ := .Assign [.Name fnd b3] (.Call (.Name rf b4) [.Name err b5] [] b6) b7) (suite := [])
    (tb := fun W D σ H => ∃ Ech : XK, (∀ cls d σ' H', σ'.length = 3 → Ech cls d H' → W cls d σ' H') ∧ σ[0]? = some (some (.ref f)) ∧ H c' = some (LamX.CodeO c' q) ∧ tl Ech H fun v H' => ∀ p, H' p = none → D.rt (.ref p) (upd H' p (.tup [.str w2, v])))
    (ts := fun a cls d D σ H => ∀ oe, Zc cls d oe → (∃ vs, oe.data = .fields vs) → tAsg (tCallE (sp (a, oe)) (tVar 2)) (gName 1) D σ H)
    (Wout := fun _ _ _ _ => False) hst hfr ndN i2 kO' ⟨gE', dE, .inl (by rw [eM]; exact atE)⟩ LamX.takes0 (fun W pn xe tk _ => by
      refine ⟨fun pins s' σ H' D I h' => ?_⟩
      obtain ⟨Ech, hW, h1, h2, h3⟩ := h'
      have hp := act (fun cl d σ H => σ.length = (Z.tr pn xe).N.length → W cl d σ H) pn xe Ech a7 a8 (takes_len tk) (fun cls d σ' H' e l => hW cls d σ' H' (by rw [l]; show Z.nox.N.length = 3; rw [eN]; rfl) e)
      have hq := pss_one (ps_ret (pos := b1) (pe_tup (x1 := 0) (pos := a9) (pa_cons (pe_str (x := w2) (j := j2) (pos := a6)) (pa_cons hp pa_nil))))
      refine hq.run pins s' σ H' D I ?_
      exact ⟨h1, h2, by
        have e : (fun (v : V) (H2 : Hp) => ([V.str w2, v] : List V).length ≤ sizeLine ∧ ∀ p, H2 p = none → D.rt (.ref p) (upd H2 p (.tup [.str w2, v]))) = fun v H2 => ∀ p, H2 p = none → D.rt (.ref p) (upd H2 p (.tup [.str w2, v])) := by
          funext v H2
          exact propext ⟨fun z => z.2, fun z => ⟨(by decide : 2 ≤ sizeLine), z⟩⟩
        show tl Ech H' (fun (v : V) (H2 : Hp) => ([V.str w2, v] : List V).length ≤ sizeLine ∧ ∀ p, H2 p = none → D.rt (.ref p) (upd H2 p (.tup [.str w2, v])))
        rw [e]
        exact h3⟩) (fun a oe cls d pn hz hd => by
      have PV : PE (Z.nox.suite a ((a, oe) :: pn)) (.Name err b5) (tVar 2) := pe_var (by exact i2) (by show Vis Z.nox.env.scope err; rw [kd]; exact v2) d2 d2'
      have hm : (a, oe) ∈ (Z.nox.suite a ((a, oe) :: pn)).pn := List.mem_cons_self
      have rm : L2H.RoomH k (Z.nox.suite a ((a, oe) :: pn)).A := by
        have r := room s
        rw [← eA] at r
        exact ⟨r.dp, r.un⟩
      have F' : FnE (Z.nox.suite a ((a, oe) :: pn)).prog (Z.nox.suite a ((a, oe) :: pn)).w (Z.nox.suite a ((a, oe) :: pn)).K (Z.nox.suite a ((a, oe) :: pn)).mg (Z.nox.suite a ((a, oe) :: pn)).base k fR fdR psR sp := by
        show FnE Z.nox.prog Z.nox.w Z.nox.K Z.nox.mg Z.nox.base k fR fdR psR sp
        rw [eP, eW, eK, eM, eB]
        exact FR
      have gl : Gl (Z.nox.suite a ((a, oe) :: pn)) rf := by
        show Z.nox.env.kindOf rf = _
        rw [eE]
        exact gR
      have CR := pe_callE (p := b4) (pos := b6) F' rm hm gl (by show Z.nox.mg rf = _; rw [eM]; exact atR) (by show PySem.W.keepIn Z.nox.K _ = _; rw [eK]; exact kpR) (by show Binds Z.nox.K fdR psR []; rw [eK]; exact bR) PV dR rfl rfl rfl
      have PS1 : PS (Z.nox.suite a ((a, oe) :: pn)) (.Assign [.Name fnd b3] (.Call (.Name rf b4) [.Name err b5] [] b6) b7) (tAsg (tCallE (sp (a, oe)) (tVar 2)) (gName 1)) :=
        ps_set ndN i1 (.inl (by show Z.nox.env.scope.names.lookup fnd = _; rw [kd]; exact l1)) CR (hf := .inr (by show Z.nox.env.scope.names.lookup fnd = _; rw [kd]; exact l1))
      exact pss_one ⟨fun pins s' σ H' D I h' => PS1.run pins s' σ H' D I (h' oe hz hd)⟩)
  refine ⟨_, pss_cons S1 (pss_cons S2 (pss_one S3)), ?_⟩
  refine ⟨(by decide : 2 ≤ sizeLine), fun p0 hp0 => ?_⟩
  have hc' : upd H p0 (.tup [.str w0, .str w1]) c' = some (LamX.CodeO c' q) := by rw [upd_ne (ne_of_none hc hp0)]; exact hc
  refine ⟨_, fun cls d σ' H' ln he => ?_, rfl, hc', h p0 hp0⟩
  obtain ⟨hx, hs⟩ := he
  refine ⟨true, by rw [eK]; exact hx, fun _ a ha oe hz hd => ?_, fun z => nomatch z⟩
  match σ', ln with
  | [x0, x1, x2], _ =>
    refine ⟨_, rfl, ?_⟩
    have e : (fun (v : V) (H1 : Hp) => ∃ u, [x0, some v, none][1]? = some (some u) ∧ Q u H1) = Q := by
      funext v H1
      exact propext ⟨fun ⟨u, h1, h2⟩ => by cases h1; exact h2, fun h => ⟨v, rfl, h⟩⟩
    show sp (a, oe) [V.ref a] H' (fun (v : V) (H1 : Hp) => ∃ u, [x0, some v, none][1]? = some (some u) ∧ Q u H1) fun _ _ _ => False
    rw [e]
    exact hs a oe ha hz hd
end Pv
namespace Pv
open PySem PySem.Spec PyProof.Rows L2 PySem.Calls LamX
section
variable {K : PySem.W.Frag} {R : RT} {φ : Nat → Addr} {H H1 : Hp} {S : Store}
theorem step_ext {T : List (Addr × Str)} {n : Nat} (x : ExtN H H1) (t : TabOk T H) (t1 : Tabs T H1) : Step n φ H n φ H1 := by
  have kt : ∀ {a : Addr} {o : HO}, (∀ ps, o ≠ .tbl ps) → H a = some o → H1 a = some o := fun h e => x _ _ e h
  refine ⟨Nat.le_refl n, fun _ _ => rfl, fun a o e h _ => kt h e, fun a o e => ?_, fun i h1 h2 => absurd h1 (Nat.not_le.mpr h2), fun a xs e => kt (fun _ z => nomatch z) e, fun a o u e => kt (fun _ z => nomatch z) e⟩
  by_cases h : ∃ ps, o = .tbl ps
  · obtain ⟨ps, rfl⟩ := h
    obtain ⟨q, hq, rfl⟩ := t.all a ps e
    obtain ⟨qs, h, _⟩ := t1 q hq
    exact ⟨_, h⟩
  · exact ⟨o, kt (fun ps z => h ⟨ps, z⟩) e⟩
theorem Good.ext (g : Good K R φ H S) (x : ExtN H H1) (t1 : TabOk R.T H1) : Good K R φ H1 S := by
  have st : Step S.length φ H S.length φ H1 := step_ext x g.tab t1.tabs
  refine ⟨fun i c e => ?_, g.inj, fun a ha => ?_, g.cof, t1⟩
  · have q := g.at_ i c e
    cases c with
    | lst ds =>
      obtain ⟨xs, e1, r⟩ := q
      exact ⟨xs, x _ _ e1 (fun _ z => nomatch z), r.step st⟩
    | dct kvs =>
      obtain ⟨ps, e1, ek, r⟩ := q
      exact ⟨ps, x _ _ e1 (fun _ z => nomatch z), ek, r.step st⟩
    | dn kvs =>
      obtain ⟨ps, vs, e1, ek, ev, r, nk⟩ := q
      exact ⟨ps, vs, x _ _ e1 nest_tbl, ek, ev, r.step st, fun p hp => ⟨(nk p hp).1.step st, (nk p hp).2⟩⟩
  · obtain ⟨o, e⟩ := g.off a ha
    exact st.dom a o e
end
section
variable {X : Cx} {pins : List (Addr × Obj)} {σ : L2.St} {H : Hp} {s : Shared}
/-- no tables but those that were -/
def NoTab (H H1 : Hp) : Prop := ∀ a ps, H1 a = some (.tbl ps) → ∃ qs, H a = some (.tbl qs)
theorem TabOk.of_no {T : List (Addr × Str)} {H1 : Hp} (t : TabOk T H) (t1 : Tabs T H1) (no : NoTab H H1) : TabOk T H1 := ⟨t1, fun a ps e => let ⟨qs, h⟩ := no a ps e; t.all a qs h⟩
theorem lam_new {T : List (Addr × Str)} {c P : Addr} {params : Arguments} {body : Expr} {scope : Scope} {pos : Pos} {E Q : Value → Shared → Prop} (I : Inv X pins σ H s) (TB : TabB X.base X.mg c P) (code : X.env.code = .ref c)
    (mem : (P, X.env.qual ++ "<lambda>") ∈ T) (one : ∀ p ∈ T, p.1 = P → p.2 = X.env.qual ++ "<lambda>") (tabs : TabOk T H) (dfl : defaultsOf params X.env = ([], [])) (caught : ∀ y ∈ scope.names, y.2 = .free → ∃ c, X.env.cells.lookup y.1 = some c)
    (next : ∀ (f c' : Addr) (pm ctv : Value) (H1 : Hp) (s' : Shared), Inv X pins σ H1 s' → ExtN H H1 → TabOk T H1 → s'.heap.get? f = some (PySem.W.kla_obj "<lambda>" (X.env.qual ++ "<lambda>") params body scope (cloFrom X.env.cells scope.names []) pm c' ctv) →
      H1 f = none → f ∉ frs X.stack → H1 c' = some (CodeO c' (X.env.qual ++ "<lambda>")) → Q (.ref f) s') : wpAny (model X.prog X.w) X.A (eval (.Lambda params body scope pos) X.env) Q E s := by
  obtain ⟨tb, atP, triples, bear⟩ := tabs.tabs _ mem
  have onHeap : s.heap.get? P = some { cls := .none, data := .fields tb } := I.hok P _ atP
  have away : ∀ {f : Addr}, s.heap.objs.size ≤ f → f ∉ frs X.stack := fun {f} hf z => by
    cases List.mem_cons.mp (I.stkSub _ z) with
    | inl e => exact absurd (e ▸ I.lt) (Nat.not_lt.mpr hf)
    | inr e => exact I.nofs hf e
  have untracked : ∀ {b : Addr}, s.heap.objs.size ≤ b → H b = none := fun h => I.hok.fresh h
  apply PySem.W.kla_eval dfl
  match hcd : codeAmong pos tb.toList with
  | some cv =>
    obtain ⟨c', rfl, known⟩ := bear pos cv hcd
    refine PySem.W.kla_makeFunctionHit (closure_ok caught) I.ok.glob (I.mod.glob.keeps I.bk) code (TB.code.keeps I.bk) onHeap triples hcd (TB.bm.keeps I.bk) fun ctv h' tk more big => ?_
    exact next h'.objs.size c' ((X.mg "__name__").getD .none) ctv H _ (I.kept fun b o e => Heap.get?_push_of_some _ (more b o e)) (ExtN.refl H) tabs (Heap.get?_push_size _ rfl) (untracked big) (away big) known
  | none =>
    refine PySem.W.kla_makeFunction (closure_ok caught) I.ok.glob (I.mod.glob.keeps I.bk) code (TB.code.keeps I.bk) onHeap triples hcd TB.gP (TB.bm.keeps I.bk) fun c' ctv h' tk but old new rec_ grown => ?_
    obtain ⟨_, oc, vs, t, e2, hoc, hd, hv⟩ := rec_
    cases e2
    have big : s.heap.objs.size ≤ h'.objs.size := Nat.le_trans old (Nat.le_of_lt new)
    have fr : H c' = none := untracked old
    have nP : P ≠ c' := ne_of_none atP fr
    generalize hq : X.env.qual ++ "<lambda>" = q at *
    obtain ⟨H1, hH⟩ : ∃ H1, H1 = upd (upd H P (.tbl (tb ++ #[rawInt pos.line, rawInt pos.col, .ref c']))) c' (CodeO c' q) := ⟨_, rfl⟩
    have at1 : H1 c' = some (CodeO c' q) := by rw [hH, upd_same]
    have at2 : H1 P = some (.tbl (tb ++ #[rawInt pos.line, rawInt pos.col, .ref c'])) := by rw [hH, upd_ne nP, upd_same]
    have at3 : ∀ b, b ≠ P → b ≠ c' → H1 b = H b := fun b h1 h2 => by rw [hH, upd_ne h2, upd_ne h1]
    have ext : ExtN H H1 := fun b o e n => (at3 b (fun z => by subst z; rw [atP] at e; exact n tb (Option.some.inj e).symm) (ne_of_none e fr)).trans e
    have no : NoTab H H1 := fun a ps e => by
      by_cases h1 : a = P
      · exact ⟨tb, h1 ▸ atP⟩
      · by_cases h2 : a = c'
        · subst h2
          rw [at1] at e
          exact absurd (Option.some.inj e) (codeO_ne ps)
        · exact ⟨ps, (at3 a h1 h2).symm.trans e⟩
    have tt : Tabs T H1 := fun p hp => by
      by_cases h1 : p.1 = P
      · rw [one p hp h1, h1]
        refine ⟨_, at2, ?_, fun p' cv hc => ?_⟩
        · rw [show (tb ++ #[rawInt pos.line, rawInt pos.col, .ref c']).toList = tb.toList ++ [rawInt pos.line, rawInt pos.col, .ref c'] by simp]
          exact PySem.TriplesOk_snoc _ _ _ _ triples
        · have hc : codeAmong p' (tb.toList ++ [rawInt pos.line, rawInt pos.col, .ref c']) = some cv := by simpa using hc
          rcases among_app _ triples hc with z | z
          · obtain ⟨c0, e1, e2⟩ := bear p' cv z
            exact ⟨c0, e1, ext _ _ e2 codeO_ne⟩
          · exact ⟨c', z, at1⟩
      · obtain ⟨ps, a1, a2, a3⟩ := tabs.tabs p hp
        refine ⟨ps, (at3 _ h1 (ne_of_none a1 fr)).trans a1, a2, fun p' cv hc => ?_⟩
        obtain ⟨c0, e1, e2⟩ := a3 p' cv hc
        exact ⟨c0, e1, ext _ _ e2 codeO_ne⟩
    have I1 := inv_table (t' := tk) (more := #[rawInt pos.line, rawInt pos.col, .ref c']) (q := q) (h' := h'.push (PySem.W.kla_obj "<lambda>" q params body scope (cloFrom X.env.cells scope.names []) ((X.mg "__name__").getD .none) c' ctv)) I atP
      (fun b o hb e => Heap.get?_push_of_some _ (but b o hb e)) (Heap.get?_push_of_some _ grown) old ⟨oc, vs, t, Heap.get?_push_of_some _ hoc, hd, hv⟩
    rw [← hH] at I1
    refine next h'.objs.size c' ((X.mg "__name__").getD .none) ctv H1 _ I1 ext (tabs.of_no tt no) (Heap.get?_push_size _ rfl) ?_ (away big) at1
    exact (at3 _ (Nat.ne_of_gt (Nat.lt_of_lt_of_le (Heap.lt_size onHeap) big)) (Nat.ne_of_gt new)).trans (untracked big)
end
end Pv
namespace Pv
open PySem PySem.Spec PyProof.Rows L2 PySem.Calls LamX
def tLm (T : List (Addr × Str)) (TT : (XK → Hp → VK → Prop) → Hp → VK → Prop) (t : XK → TE) : TE := fun σ H Q => TabOk T H ∧ ∀ H1, ExtN H H1 → TabOk T H1 → TT (fun E H' Q' => t E σ H' Q') H1 Q
theorem pe_lam {X : Cx} {T : List (Addr × Str)} {TT : (XK → Hp → VK → Prop) → Hp → VK → Prop} {x ask : Str} {g c P : Addr} {k : Nat} {pg params : Arguments} {bg : List Stmt} {sg scope : Scope} {fdg : FuncData} {Ng : List Str} {body : Expr} {t : XK → TE} {p lpos pos : Pos}
    (D : FunD X.K x x pg bg sg [] [] g fdg) (at_ : X.mg x = some (.ref g)) (Sg : FnScope Ng [ask] sg) (bi : Binds X.K fdg [ask] []) (i0 : Ng[0]? = some ask) (va : Vis sg ask) (hG : ∀ cdg, GivesTo X Ng x sg g cdg bg ask (X.env.qual ++ "<lambda>") TT)
    (TB : TabB X.base X.mg c P) (code : X.env.code = .ref c) (mem : (P, X.env.qual ++ "<lambda>") ∈ T) (one : ∀ p ∈ T, p.1 = P → p.2 = X.env.qual ++ "<lambda>") (room : Room (k + 2) X.A) (L : LamS X.env.scope scope) (dfl : defaultsOf params X.env = ([], []))
    (bl : ∀ (q : Str) (cl : List (Str × Addr)) (pm cv ctv : Value), bindArgs (PySem.W.kla_fn "<lambda>" q params body scope cl pm cv ctv) ⟨[], []⟩ = pure [])
    (hbody : ∀ (A : Around) (outer : List PySem.Env) (s : Shared) (H : Hp) (E : XK) (f c' : Addr), Room k (A.deeper (lamEnv X scope s.heap.objs.size f c')) → PE (lamCx X A outer s H E scope f c') body (t E))
    (gl : Gl X x) (dx : (x == ("__debug__" : Str)) = false) (da : (ask == ("__debug__" : Str)) = false) (da' : (ask == ("__classdict__" : Str)) = false) : PE X (.Call (.Name x p) [.Lambda params body scope lpos] [] pos) (tLm T TT t) := by
  obtain ⟨oc, od, dV, kV, doc, pm, an, cdg, ct, osl, rfl, lk, cin, _, _⟩ := D.ex
  constructor
  rintro pins s σ H Q I ⟨tb, w⟩
  refine wpAny_Call_Name_kw (ld_glob I gl at_ (PySem.W.callWith_K (h₀ := X.base) I.ok.mod.kin D.kp ?_ rfl rfl) dx)
  show wpAny _ _ (spliced ((false, eval (.Lambda params body scope lpos) X.env) :: backTo pos (starEach [] X.env))) _ _ s
  refine Calls.spliced_cons (lam_new I TB code mem one tb dfl (L.has I.ok) fun f c' pm' ctv H1 s1 I1 ex t1 hf free off known => Calls.spliced_nil ⟨I1.kIn, ?_⟩)
  refine wpAny_call (codeAny_mono (run_ofS (CX := C8.CX0) (P := X.prog) (w := X.w) (mg := X.mg) (base := X.base) (N := Ng) (ps := [ask]) (us := [.ref f]) (vs := [.ref f]) (Q := Q) (E := C8.E0) lk cin Sg room I1.env0 (bi s1 [.ref f] I1.kIn rfl) (.cons rfl .nil) rfl fun room1 => ?_) fun r s2 end_ => ?_)
  · obtain ⟨u, hu, q⟩ := hG cdg f c' s1 H1 Q (fun E H' Q' => t E σ H' Q') (fun W pn xe E a1 a2 tk hW => pe_act (i := 0) I1 L hf free off (bl _ _ _ _ _) tk hW room1 (fun A outer s H r => hbody A outer s H E f c' r) i0 va da da') known (w H1 ex t1)
    exact ⟨u, hu.nox, q⟩
  · match r, end_ with
    | .error _, z => exact (show False from z).elim
    | .ok (.ret _), z => exact I1.after z
    | .ok .next, z => exact False.elim z
    | .ok .brk, z => exact False.elim z
    | .ok .cont, z => exact False.elim z
end Pv
namespace Pv
open PySem PySem.Spec PyProof.Rows L2 PySem.Calls LamX
@[simp] theorem nes_nil : D.nes [] = true := rfl
theorem FnE.ofM {P : Program} {w : World} {K : PySem.W.Frag} {mg : Str → Option Value} {base : Heap} {k : Nat} {f : Addr} {x y qual : Str} {params : Arguments} {body : List Stmt} {scope : Scope} {dvs : List V} {kws : List (Str × V)} {fd : FuncData} {N : List Str} {cls : CL} {b : Bool} {fb : SemS}
    (D : FunD K x qual params body scope dvs kws f fd) (S : FnScope N [y] scope)
    (hbody : ∀ (cdv : Value) (A : Around) (outer : List PySem.Env) (s : Shared) (H : Hp) (R : RT) (E : XK) (p : Addr × Obj), Be (L2H.cxH (L2.CX P w) P w K mg base N qual scope f cdv A outer s H E p) ⟨K, R, cls, E⟩ →
      PSs (L2H.cxH (L2.CX P w) P w K mg base N qual scope f cdv A outer s H E p) body (mT ⟨K, R, cls, E⟩ fb)) : FnE P w K mg base (k + 1) f fd [y] (spE K cls (defF b N.length fb)) := by
  refine FnE.of D S (fun p vs H Q E ⟨_, _, _, _, _, _, _, _, _, e, _⟩ => by rw [e]; rfl) fun cdv A outer s H vs Q E p room ⟨R, φ, S0, cn, ks, ds, dd, C, r, e, eT, er, ec, kf, hz, hd, g, rp, hf, hp⟩ => ?_
  subst e
  unfold defF at hf
  split at hf
  · rename_i z e
    have B : Be (L2H.cxH (L2.CX P w) P w K mg base N qual scope f cdv A outer s H E p) ⟨K, R, cls, E⟩ := ⟨rfl, by have := room.un; show (A.deeper _).units + 64 < _; omega, by have := room.un; show (A.deeper _).units + 65 < _; omega, ⟨p.1, dd, C, cn, er, ⟨p.2, List.mem_cons_self, hz, hd⟩, ec, kf⟩⟩
    exact ⟨_, hbody cdv A outer s H R E p B, φ, S0, _, z, g, start_rep (.cons rp .nil), e, end_ok (c := ⟨K, R, cls, E⟩) hf hp⟩
  · cases hf
def Cell.eqb : Cell → Cell → Bool
  | .lst a, .lst b => D.eqbs a b
  | .dct a, .dct b => decide (a.map (·.1) = b.map (·.1)) && D.eqbs (a.map (·.2)) (b.map (·.2))
  | .dn a, .dn b => decide (a.map (·.1) = b.map (·.1)) && D.eqbs (a.map (·.2)) (b.map (·.2))
  | _, _ => false
theorem pairs_eq {α β : Type} : ∀ {a b : List (α × β)}, a.map (·.1) = b.map (·.1) → a.map (·.2) = b.map (·.2) → a = b
  | [], [], _, _ => rfl
  | [], _ :: _, h, _ => nomatch h
  | _ :: _, [], h, _ => nomatch h
  | (x, y) :: a, (x', y') :: b, h, k => by
    simp only [List.map_cons, List.cons.injEq] at h k
    rw [h.1, k.1, pairs_eq h.2 k.2]
theorem Cell.eqb_eq : ∀ {a b : Cell}, Cell.eqb a b = true → a = b
  | .lst a, .lst b, h => congrArg Cell.lst (eqbs_eq h)
  | .dct a, .dct b, h => by
    have h : (decide (a.map (·.1) = b.map (·.1)) && D.eqbs (a.map (·.2)) (b.map (·.2))) = true := h
    rw [Bool.and_eq_true, decide_eq_true_eq] at h
    rw [pairs_eq h.1 (eqbs_eq h.2)]
  | .dn a, .dn b, h => by
    have h : (decide (a.map (·.1) = b.map (·.1)) && D.eqbs (a.map (·.2)) (b.map (·.2))) = true := h
    rw [Bool.and_eq_true, decide_eq_true_eq] at h
    rw [pairs_eq h.1 (eqbs_eq h.2)]
  | .lst _, .dct _, h => nomatch h
  | .dct _, .lst _, h => nomatch h
  | .lst _, .dn _, h => nomatch h
  | .dct _, .dn _, h => nomatch h
  | .dn _, .lst _, h => nomatch h
  | .dn _, .dct _, h => nomatch h
theorem Cell.eqb_self : ∀ (a : Cell), Cell.eqb a a = true
  | .lst a => eqbs_self a
  | .dct a => by
    show (decide (a.map (·.1) = a.map (·.1)) && D.eqbs (a.map (·.2)) (a.map (·.2))) = true
    rw [eqbs_self, decide_eq_true rfl]
    rfl
  | .dn a => by
    show (decide (a.map (·.1) = a.map (·.1)) && D.eqbs (a.map (·.2)) (a.map (·.2))) = true
    rw [eqbs_self, decide_eq_true rfl]
    rfl
def stEqb : Store → Store → Bool
  | [], [] => true
  | a :: as, b :: bs => Cell.eqb a b && stEqb as bs
  | _, _ => false
theorem stEqb_eq : ∀ {a b : Store}, stEqb a b = true → a = b
  | [], [], _ => rfl
  | [], _ :: _, h => nomatch h
  | _ :: _, [], h => nomatch h
  | a :: as, b :: bs, h => by
    have h : (Cell.eqb a b && stEqb as bs) = true := h
    rw [Bool.and_eq_true] at h
    rw [Cell.eqb_eq h.1, stEqb_eq h.2]
@[simp] theorem stEqb_self : ∀ (a : Store), stEqb a a = true
  | [] => rfl
  | a :: as => by
    show (Cell.eqb a a && stEqb as as) = true
    rw [Cell.eqb_self a, stEqb_self as]
    rfl
/-- what the suite's def said, if it left the store as it was -/
def sdEnd (S1 : Store) : Option (Rs D × Store) → Out D
  | some (.ok d, S2) => guard' (stEqb S2 S1 && d.ne) (ret d S1)
  | _ => none
def eSaid (sub : Subs) (ce w2 : Str) (G : Fn) (f : Env → Store → Out D) : Env → Store → Out D := fun ρ S => match f ρ S with
  | some (.ok d, S1) => ret (.tup [.str w2, d]) S1
  | some (.ex x, S1) => (match sub x.cls ce with
    | some true => sdEnd S1 (G [.err x.cls (x.fs.map (·.1)) (x.fs.map (·.2))] S1)
    | _ => none)
  | none => none
theorem sdEnd_ok {S1 : Store} {r : Option (Rs D × Store)} {z : Rs D × Store} (h : sdEnd S1 r = some z) : ∃ d, r = some (.ok d, S1) ∧ d.ne = true ∧ z = (.ok d, S1) := by
  unfold sdEnd at h
  split at h
  · rename_i d S2
    obtain ⟨q, h⟩ := guard_ok h
    rw [Bool.and_eq_true] at q
    cases h
    exact ⟨d, by rw [stEqb_eq q.1], q.2, rfl⟩
  · cases h
theorem said_mono {X : Cx} {c : Ct} {ce w0 w1 w2 : Str} {G : Fn} {CE : Addr} {sub : Subs} {f : Env → Store → Out D} {σ : L2.St} {H : Hp} {Q : VK} (hK : c.K = X.K) (hT : RtOk c.R c.cls.T) (hE : X.mg ce = some (.ref CE)) (sb : SubOk X.K X.mg c.cls sub) (xf : XfOk X.K c.cls sub ce)
    (h : mE c (eSaid sub ce w2 G f) σ H Q) : tLm c.cls.T (TTs X.K CE w0 w1 w2 (spE X.K c.cls G)) (fun E => mE { c with E := E } f) σ H Q := by
  obtain ⟨φ, S, ρ, z, g, en, hf, hp⟩ := h
  have tb := g.tab
  rw [hT.T] at tb
  refine ⟨tb, fun H1 ext t1 p0 n0 => ?_⟩
  have t1' : TabOk c.R.T H1 := by rw [hT.T]; exact t1
  have g1 := g.ext ext t1'
  have s2 : Step S.length φ H S.length φ (upd H1 p0 (.tup [.str w0, .str w1])) := (step_ext ext tb t1.tabs).trans (Step.new n0)
  have g2 : Good c.K c.R φ (upd H1 p0 (.tup [.str w0, .str w1])) S := g1.step_new n0
  unfold eSaid at hf
  split at hf
  · rename_i d S1 e
    cases hf
    refine ⟨φ, S, ρ, _, g2, en.step s2, e, fun v φ' H' s3 g3 rv p hn => ?_⟩
    exact hp (.ref p) φ' _ ((s2.trans s3).trans (Step.new hn)) (g3.step_new hn) (.tup (.inl (.inl upd_same)) (.cons (.str w2) (.cons (Rp.step (Step.new hn) rv) .nil)))
  · rename_i x S1 e
    split at hf
    · rename_i es
      obtain ⟨d, hG, ned, rfl⟩ := sdEnd_ok hf
      refine ⟨φ, S, ρ, _, g2, en.step s2, e, fun cl o φ' H' s3 g3 hx => ?_⟩
      obtain ⟨C, dd, fs, rfl, hc, rfl, ex, ek, r⟩ := hx
      refine ⟨by rw [← hK]; have := sb.ok x.cls ce true es C hc CE hE; rwa [← hK] at this, fun a oe ha hz hd => ?_⟩
      have off : ∀ i, i < S1.length → dd ≠ φ' i := fun i hi y => by
        obtain ⟨o, q1, _⟩ := g3.there hi
        have q := g3.at_ i _ (List.getElem?_eq_getElem hi)
        rw [← y] at q
        cases h : S1[i] with
        | lst ds =>
          rw [h] at q
          obtain ⟨_, e1, _⟩ := q
          rw [ex] at e1
          cases e1
        | dct kvs =>
          rw [h] at q
          obtain ⟨_, e1, _⟩ := q
          rw [ex] at e1
          cases e1
        | dn kvs =>
          rw [h] at q
          obtain ⟨_, _, e1, _⟩ := q
          rw [ex] at e1
          exact nest_xd _ (Option.some.inj e1).symm
      refine ⟨c.R.hold a x.cls dd, φ', S1, x.cls, x.fs.map (·.1), x.fs.map (·.2), dd, C, _, rfl, hT.T, rfl, hc, by rw [← hK]; have := xf.ok _ es C hc; rwa [← hK] at this, hz, hd, by rw [← hK]; exact g3.hold hT.er, ?_, hG, ?_⟩
      · rw [← hK]
        exact .err rfl ex (fun z => z.2 rfl) off ek (Rps.hold hT.er r)
      · intro v φ2 H2 s4 g4 rv
        have g4' : Good c.K (c.R.hold a x.cls dd) φ2 H2 S1 := by rw [hK]; exact g4
        have rv' : Rp c.K (c.R.hold a x.cls dd) S1.length φ2 H2 v d := by rw [hK]; exact rv
        have e2 : H2 dd = some (.xd fs) := s4.keep dd _ ex (fun _ z => nomatch z) off
        exact hp v φ2 H2 ((s2.trans s3).trans s4) (g3.free hT.er e2 g4') (rv'.free e2 ned)
    · cases hf
  · cases hf
theorem pass_lam {X : Cx} {A : Around} {outer : List PySem.Env} {s : Shared} {H : Hp} {E : XK} {scope : Scope} {f c' : Addr} : Passes (L2.CX X.prog X.w) (lamCx X A outer s H E scope f c') E := passes_call (takes_of (X := lamCx X A outer s H E scope f c') rfl rfl rfl rfl) fun _ _ _ _ h => h
theorem tk_lam {X : Cx} {A : Around} {outer : List PySem.Env} {s : Shared} {H : Hp} {E : XK} {scope : Scope} {f c' : Addr} : Takes (lamCx X A outer s H E scope f c') (fun cl d _ H => E cl d H) := takes_of (X := lamCx X A outer s H E scope f c') rfl rfl rfl rfl
theorem qSaid {X : Cx} {c : Ct} {k kk kb : Nat} {x ce w2 : Str} {G : Fn} {sub : Subs} {cc PP : Addr} {params : Arguments} {scope : Scope} {body : Expr} {f : Env → Store → Out D} {p lpos pos : Pos} (C : SaidC X.prog X.w X.K X.mg X.base c.cls k x ce w2 G) (B : Bd X c kk) (sb : SubOk X.K X.mg c.cls sub) (xf : XfOk X.K c.cls sub ce)
    (TB : TabB X.base X.mg cc PP) (code : X.env.code = .ref cc) (mem : (PP, X.env.qual ++ "<lambda>") ∈ c.cls.T) (one : ∀ p ∈ c.cls.T, p.1 = PP → p.2 = X.env.qual ++ "<lambda>") (hbody : ∀ (A : Around) (outer : List PySem.Env) (s : Shared) (H : Hp) (E : XK) (g c' : Addr), Bd (lamCx X A outer s H E scope g c') { c with E := E } kb → PE (lamCx X A outer s H E scope g c') body (mE { c with E := E } f))
    (hk : k ≤ kk := by decide) (hb : kb + 2 ≤ kk := by decide) (hg : kb < 150 := by decide) (L : LamS X.env.scope scope := by exact LamX.lamS_by (by decide +kernel)) (dfl : defaultsOf params X.env = ([], []) := by rfl)
    (bl : ∀ (q : Str) (cl : List (Str × Addr)) (pm cv ctv : Value), bindArgs (PySem.W.kla_fn "<lambda>" q params body scope cl pm cv ctv) ⟨[], []⟩ = pure [] := by intros; rfl) (gl : Gl X x := by rfl) (dx : (x == ("__debug__" : Str)) = false := by decide) :
    PE X (.Call (.Name x p) [.Lambda params body scope lpos] [] pos) (mE c (eSaid sub ce w2 G f)) := by
  obtain ⟨g, CE, fdg, pg, bg, sg, Ng, ask, w0, w1, D, at_, hE, Sg, bi, i0, va, da, da', gives⟩ := C.ex
  have GG : ∀ cdg, GivesTo X Ng x sg g cdg bg ask (X.env.qual ++ "<lambda>") (TTs X.K CE w0 w1 w2 (spE X.K c.cls G)) := fun cdg => gives X cdg _ rfl rfl rfl rfl rfl (B.room.mono hk)
  have HB : ∀ (A : Around) (outer : List PySem.Env) (s : Shared) (H : Hp) (E : XK) (g c' : Addr), Room kb (A.deeper (lamEnv X scope s.heap.objs.size g c')) → PE (lamCx X A outer s H E scope g c') body (mE { c with E := E } f) :=
    fun A outer s H E g c' room => by
      have e1 : Gds kb (lamCx X A outer s H E scope g c').A := fun h => absurd h (Nat.not_le.mpr hg)
      have e2 : Passes (L2.CX X.prog X.w) (lamCx X A outer s H E scope g c') E := pass_lam
      have e3 : Takes (lamCx X A outer s H E scope g c') (fun cl d _ H => E cl d H) := tk_lam
      have BB : Bd (lamCx X A outer s H E scope g c') { c with E := E } kb := ⟨B.K, room, e1, B.hT, e2, e3, rfl⟩
      exact hbody A outer s H E g c' BB
  exact pe_weak (pe_lam (k := kb) (t := fun E => mE { c with E := E } f) D at_ Sg bi i0 va GG TB code mem one (B.room.mono hb) L dfl bl HB gl dx da da') fun σ H Q h => said_mono B.K B.hT hE sb xf h
end Pv
namespace Pv
open PySem PySem.Spec PyProof.Rows L2 PySem.Calls
section
variable {X : Cx}
def rCount (K : PySem.W.Frag) : V → List V → Hp → VK → Prop := fun x xs H Q => ∃ (a : Addr) (ys : List V) (y : V), x = V.ref a ∧ xs = [y] ∧ SqL K H a ys ∧ flatV y = true ∧ ys.all flatV = true ∧ Q (.int (ys.countP fun z => eqV z y : Nat)) H
theorem count_rel {y : V} : ∀ {ys : List V} {us : List Value}, Vals ys us → ys.all flatV = true → us.countP (eqU y) = ys.countP fun z => eqV z y
  | _, _, .nil, _ => rfl
  | _, _, .cons h r, f => by
    rw [List.all_cons, Bool.and_eq_true] at f
    rw [List.countP_cons, List.countP_cons, count_rel r f.2, eqU_of h f.1]
theorem mt_countF : MtR X "list.count" (rCount X.K) := by
  intro pins s σ H x xs v us Q I rx rxs h
  obtain ⟨a, ys, y, rfl, rfl, hs, fy, fys, q⟩ := h
  cases rx
  obtain ⟨uy, rfl, ry⟩ := rxs.one
  obtain ⟨its, rv, ⟨⟨cls, dd, data, sl⟩, n, ho, hc, hdn, hd⟩, hlen⟩ := I.list hs
  simp only at hc hd
  subst hc hd
  refine call_meets PySem.F.slot_list_count ⟨_, ho, rfl⟩ PySem.F.entry_list_count (PySem.F.args_list_count_2 _ _) (SeqAt.list_countAt a its.toArray n dd sl uy (eqU y)) ⟨ho, fun u' hu' => mem_eqAt ry fy rv fys u' (by simpa using hu'), ?_⟩
  refine ⟨.int (ys.countP fun z => eqV z y : Nat), H, I.tok _, ⟨s.toks, ?_⟩, q⟩
  show Value.int ((its.toArray.toList.countP (eqU y) : Nat) : Int) s.toks = _
  rw [show its.toArray.toList = its from rfl, count_rel rv fys]
end
def oCount (x : D) (ds : List D) (S : Store) : Out D := match ds with
  | [y] => (match y.sc, (asL S x).bind scs with
    | some v, some ws => ret (.int (ws.countP fun z => eqV z v : Nat)) S
    | _, _ => none)
  | _ => none
theorem mlm_count {c : Ct} : MlM c (rCount c.K) oCount := by
  intro φ S H Q x xs a ds z g rx r h hp
  unfold oCount at h
  split at h
  · rename_i y
    obtain ⟨v, rfl, rv⟩ := r.one
    split at h
    · rename_i w ws e1 e2
      cases h
      cases e3 : asL S a with
      | none => rw [e3] at e2; cases e2
      | some es =>
        rw [e3] at e2
        obtain ⟨p, ys, rfl, k, q⟩ := asL_ok g rx e3
        obtain ⟨rfl, hf⟩ := scs_ok q e2
        have ew := sc_ok rv e1
        subst ew
        exact ⟨p, _, _, rfl, rfl, k, sc_flat e1, hf, hp.now g (.int _)⟩
    · cases h
  · cases h
section
variable {X : Cx} {c : Ct} {pos : Pos} {o e : Expr} {fo : Env → Store → Out D} {fs : Env → Store → Out (List D)} {apos : Pos}
theorem qCount (hK : c.K = X.K) (ho : PE X o (mE c fo)) (ha : PA X [e] (mA c fs)) (hbase : attributeBase o "count" X.env (eval o X.env) = eval o X.env := by rfl) (hfew : ((backTo pos (starEach [e] X.env)).all (fun x => !x.1) && (backToKw pos (keywordEach [] X.env)).all (fun x => x.1.isSome)
      && decide (([e] : List Expr).length + ([] : List Keyword).length + (if ([] : List Keyword).isEmpty then 0 else 1) < 30)) = true := by rfl)
    (hline : (apos.endLine == pos.line) = true := by rfl) (hs : starEach [e] X.env = (false, eval e X.env) :: starEach [] X.env := by rfl) (hplain : (backTo pos (starEach [] X.env)).any (·.1) = false := by rfl) :
    PE X (.Call (.Attribute o "count" apos) [e] [] pos) (mE c (eMl oCount fo fs)) := m_ml (r := rCount X.K) hK (by rw [← hK]; exact mlm_count) PySem.F.slot_list_count PySem.F.type_list_count mt_countF ho ha hbase hfew hline hs hplain
end
theorem oexB_ok {K : PySem.W.Frag} {C : Addr} (h : oexB K C = true) : OexC K C := by
  unfold oexB at h
  simp only [Bool.and_eq_true, decide_eq_true_eq] at h
  obtain ⟨⟨⟨⟨h1, h2⟩, h3⟩, h4⟩, h5⟩ := h
  refine ⟨?_, h2, h3, h4, h5⟩
  split at h1
  · rename_i dd cd sl look
    split at h1
    · rename_i D bm k0 k1 k2 k3 n k5 em es
      simp only [Bool.and_eq_true, beq_iff_eq, Bool.not_eq_true'] at h1
      obtain ⟨⟨⟨⟨rfl, rfl⟩, nodel⟩, hasd⟩, tail⟩ := h1
      cases cd
      simp only at em nodel hasd
      subst em nodel hasd
      obtain rfl : sl = #[k0, k1, k2, k3, some (.builtin "ValueError.__new__"), k5] := by
        rw [← es]
      exact ⟨_, _, _, _, bm, _, _, _, _, _, k0, k1, k2, k3, k5, look, tail⟩
    · cases h1
  · cases h1
theorem xcB_ok {K : PySem.W.Frag} {x : Str} {fl : List Str} (h : xcB K x fl = true) : OexC K (He.ga K x) ∧ PySem.W.findIn K (.ref (He.ga K x)) "__init__" = some (some (.ref (He.ma K (He.ga K x) "__init__"))) ∧ PySem.W.typeIn K (.ref (He.ma K (He.ga K x) "__init__")) = some (.type "function") ∧
    ∀ f ∈ fl, PySem.W.findIn K (.ref (He.ga K x)) f = some none := by
  unfold xcB at h
  simp only [Bool.and_eq_true, decide_eq_true_eq, List.all_eq_true] at h
  obtain ⟨⟨⟨h1, h2⟩, h3⟩, h4⟩ := h
  exact ⟨oexB_ok h1, h2, h3, h4⟩
section
variable {P : Program} {w : World} {K : PySem.W.Frag} {mg : Str → Option Value} {base : Heap} {cls : CL} {x qual f1 f2 : Str} {params : Arguments} {body : List Stmt} {scope : Scope} {fd : FuncData} {p1 p2 p3 p4 p5 p6 p7 p8 : Pos}
theorem xc_2 (D : FunD K "__init__" qual params body scope [] [] (He.fAd K (x, some "__init__")) fd) (at_ : mg x = some (.ref (He.ga K x))) (ec : cls x = some (He.ga K x)) (h : xcB K x [f1, f2] = true) (S : FnScope ["self", f1, f2] ["self", f1, f2] scope)
    (hb : body = [.Assign [.Attribute (.Name "self" p1) f1 p2] (.Name f1 p3) p4, .Assign [.Attribute (.Name "self" p5) f2 p6] (.Name f2 p7) p8])
    (v0 : Vis scope "self") (v1 : Vis scope f1) (v2 : Vis scope f2) (d1 : (f1 == ("__debug__" : Str)) = false) (c1 : (f1 == ("__classdict__" : Str)) = false) (d2 : (f2 == ("__debug__" : Str)) = false) (c2 : (f2 == ("__classdict__" : Str)) = false) (bi : Binds K fd ["self", f1, f2] []) : Xc P w K mg base cls x [f1, f2] := by
  obtain ⟨T, iC, tI, nf⟩ := xcB_ok h
  exact ⟨_, _, fd, at_, ec, T, iC, tI, init_2 D S T (nf f1 List.mem_cons_self) (nf f2 (List.mem_cons_of_mem _ List.mem_cons_self)) hb v0 v1 v2 d1 c1 d2 c2, bi⟩
end
theorem subOf_mem {l : SubL} {x y : Str} {b : Bool} (h : subOf l x y = some b) : (x, y, b) ∈ l := by
  unfold subOf at h
  obtain ⟨⟨x', y', b'⟩, h1, h2⟩ := Option.map_eq_some_iff.mp h
  have q := List.find?_some h1
  simp only [decide_eq_true_eq] at q
  obtain ⟨rfl, rfl⟩ := q
  cases h2
  exact List.mem_of_find?_eq_some h1
def fldOf (l : List (Str × List Str)) : Str → Option (List Str) := fun x => (l.find? fun t => decide (t.1 = x)).map (·.2)
theorem fldOf_mem {l : List (Str × List Str)} {x : Str} {fl : List Str} (h : fldOf l x = some fl) : (x, fl) ∈ l := by
  unfold fldOf at h
  obtain ⟨⟨x', b'⟩, h1, h2⟩ := Option.map_eq_some_iff.mp h
  have q := List.find?_some h1
  simp only [decide_eq_true_eq] at q
  subst q
  cases h2
  exact List.mem_of_find?_eq_some h1
section
variable {l : SubL} {fl : List (Str × List Str)} {tfq : List (He.Defn × Str)} {K : PySem.W.Frag} {mg : Str → Option Value}
theorem xcsT_ok (h : xcsT l fl tfq K = true) : XcsOk l fl tfq K := by
  unfold xcsT at h
  simp only [Bool.and_eq_true, List.all_eq_true, decide_eq_true_eq] at h
  obtain ⟨⟨⟨h1, h2⟩, h3⟩, h4⟩ := h
  refine ⟨fun t ht n => ?_, fun t ht e => ?_, fun t ht => xfB'_ok (h2 t ht), h3, h4⟩
  · have q := h1 t ht
    rw [if_neg n, Bool.and_eq_true, decide_eq_true_eq, decide_eq_true_eq] at q
    exact q
  · have q := h1 t ht
    rw [if_pos e, decide_eq_true_eq] at q
    exact q
theorem XcsOk.sub (x : XcsOk l fl tfq K) {q : List (He.Defn × Str)} (hm : ∀ t ∈ l, t.2.1 = "ValueError" ∨ mg t.2.1 = some (.ref (He.ga K t.2.1))) (hv : mg "ValueError" = none) : SubOk K mg (clOf K q) (subOf l) := ⟨fun a y b e C hC cy hy => by
  have m := subOf_mem e
  cases hC
  rcases hm _ m with h | h
  · simp only at h
    subst h
    rw [hv] at hy
    cases hy
  · rw [hy] at h
    cases h
    refine (x.below _ m fun z => ?_).1
    simp only at z
    subst z
    rw [hv] at hy
    cases hy⟩
theorem XcsOk.kit (x : XcsOk l fl tfq K) {q : List (He.Defn × Str)} (hm : ∀ t ∈ l, t.2.1 = "ValueError" ∨ mg t.2.1 = some (.ref (He.ga K t.2.1))) (hv : mg "ValueError" = none) : KitOk K mg (clOf K q) (subOf l) := by
  refine ⟨fun a y b e C hC cy hy => ?_, fun a b e C hC => ?_⟩
  · have m := subOf_mem e
    cases hC
    rcases hm _ m with h | h
    · simp only at h
      subst h
      rw [hv] at hy
      cases hy
    · rw [hy] at h
      cases h
      refine (x.below _ m fun z => ?_).2
      simp only at z
      subst z
      rw [hv] at hy
      cases hy
  · have m := subOf_mem e
    cases hC
    exact x.belowV _ m rfl
theorem XcsOk.flds (x : XcsOk l fl tfq K) {q : List (He.Defn × Str)} : FldOk K (clOf K q) (fldOf fl) := ⟨fun a ns e n hn C hC => by
  cases hC
  exact (xcB_ok (x.fld _ (fldOf_mem e))).2.2.2 n hn⟩
theorem XcsOk.xf (x : XcsOk l fl tfq K) {q : List (He.Defn × Str)} {ce : Str} : XfOk K (clOf K q) (subOf l) ce := ⟨fun a e C hC => by
  cases hC
  exact x.kf _ (subOf_mem e)⟩
end
theorem FnG.ofMc {P : Program} {w : World} {K : PySem.W.Frag} {mg : Str → Option Value} {base : Heap} {k : Nat} {f : Addr} {x qual : Str} {params : Arguments} {body : List Stmt} {scope : Scope} {dvs : List V} {kws : List (Str × V)} {fd : FuncData} {N ps : List Str} {cls : CL} {b : Bool} {fb : SemS}
    (D : FunD K x qual params body scope dvs kws f fd) (S : FnScope N ps scope) {p : He.Defn} (ep : He.fAd K p = f)
    (hbody : ∀ (A : Around) (outer : List PySem.Env) (s : Shared) (H : Hp) (R : RT) (E : XK), RtOk R cls.T → Room k (A.deeper (envOfC qual scope s.heap.objs.size f (.ref (He.codeOf K p)))) → Gds k A →
      PSs (cxOf (L2.CX P w) P w K mg base N qual scope f (.ref (He.codeOf K p)) A outer s H E) body (mT ⟨K, R, cls, E⟩ fb)) : FnG P w K mg base (L2.CX P w) (k + 1) f fd ps (spM K cls ps.length (defF b N.length fb)) := by
  have e0 : .ref (He.codeOf K p) = fd.code := by
    obtain ⟨oc, od, dV, kV, doc, pm, an, cdv, ct, osl, rfl, lk, cin, _, _⟩ := D.ex
    obtain ⟨c, rfl⟩ := He.codeIn_ref cin
    rw [He.codeOf_eq (by rw [ep]; exact lk) rfl]
  refine FnG.of D S (fun vs H Q E ⟨R, φ, S0, ds, r, _, _, rp, hl, _, _⟩ => rp.length.trans hl) fun cdv ec A outer s H vs Q E room gd ⟨R, φ, S0, ds, r, hT, g, rp, hl, hf, hp⟩ => ?_
  rw [← e0] at ec
  subst ec
  unfold defF at hf
  split at hf
  · rename_i z e
    exact ⟨_, hbody A outer s H R E hT room gd, φ, S0, _, z, g, start_rep rp, e, end_ok (c := ⟨K, R, cls, E⟩) hf hp⟩
  · cases hf
/-- the table of such a def -/
theorem tab_at {K : PySem.W.Frag} {mg : Str → Option Value} {base : Heap} {tfq : List (He.Defn × Str)} {p : He.Defn} {q : Str} (TB : ∀ q ∈ (tfq.map (·.1)).map (He.cT K), LamX.TabB base mg q.1 q.2) (nd : (tfq.map fun z => (He.cT K z.1).2).Nodup) (h : (p, q) ∈ tfq) :
    LamX.TabB base mg (He.codeOf K p) (He.cT K p).2 ∧ ((He.cT K p).2, q) ∈ (clOf K tfq).T ∧ ∀ z ∈ (clOf K tfq).T, z.1 = (He.cT K p).2 → z.2 = q := by
  refine ⟨TB _ (List.mem_map.mpr ⟨p, List.mem_map.mpr ⟨_, h, rfl⟩, rfl⟩), List.mem_map.mpr ⟨_, h, rfl⟩, fun z hz e => ?_⟩
  obtain ⟨y, hy, rfl⟩ := List.mem_map.mp hz
  have : ∀ {l : List (He.Defn × Str)}, (l.map fun z => (He.cT K z.1).2).Nodup → ∀ a ∈ l, ∀ b ∈ l, (He.cT K a.1).2 = (He.cT K b.1).2 → a = b := by
    intro l
    induction l with
    | nil => intro _ a ha; cases ha
    | cons c l ih =>
      intro nd a ha b hb e
      rw [List.map_cons, List.nodup_cons] at nd
      rcases List.mem_cons.mp ha with h1 | h1 <;> rcases List.mem_cons.mp hb with h2 | h2
      · rw [h1, h2]
      · refine absurd (List.mem_map.mpr ⟨b, h2, ?_⟩) nd.1
        rw [← h1]
        exact e.symm
      · refine absurd (List.mem_map.mpr ⟨a, h1, ?_⟩) nd.1
        rw [← h2]
        exact e
      · exact ih nd.2 a h1 b h2 e
  have e2 := this nd y hy _ h e
  rw [e2]
/-- the def that gets a lambda, by its text -/
theorem said_of {P : Program} {w : World} {K : PySem.W.Frag} {mg : Str → Option Value} {base : Heap} {cls : CL} {k : Nat} {x ask fnd err rf ce w0 w1 w2 : Str} {pg : Arguments} {bg : List Stmt} {sg : Scope} {g fR CE : Addr} {fdg fdR : FuncData} {psR : List Str} {G : Fn} {j0 j1 j2 : Nat} {a1 a2 a3 a4 a5 a6 a7 a8 a9 b1 b2 b3 b4 b5 b6 b7 b8 b9 c1 c2 : Pos}
    (D : FunD K x x pg bg sg [] [] g fdg) (at_ : mg x = some (.ref g)) (S : FnScope [ask, fnd, err] [ask] sg) (bi : Binds K fdg [ask] [])
    (hb : bg = [.Assign [.Name fnd a1] (.Tuple [.Constant (.str w0) j0 a2, .Constant (.str w1) j1 a3] 0 a4) a5,
       .Try [.Return (some (.Tuple [.Constant (.str w2) j2 a6, .Call (.Name ask a7) [] [] a8] 0 a9)) b1] [.ExceptHandler (some (.Name ce b2)) (some err) [.Assign [.Name fnd b3] (.Call (.Name rf b4) [.Name err b5] [] b6) b7] b8] [] [] b9,
       .Return (some (.Name fnd c1)) c2])
    (FR : FnE P w K mg base k fR fdR psR (spE K cls G)) (atR : mg rf = some (.ref fR)) (kpR : PySem.W.keepIn K (.ref fR) = true) (bR : Binds K fdR psR []) (atE : mg ce = some (.ref CE))
    (v0 : Vis sg ask) (v1 : Vis sg fnd) (v2 : Vis sg err) (l1 : sg.names.lookup fnd = some .local) (l2 : sg.names.lookup err = some .local) (gR : sg.names.lookup rf = some .globalImplicit) (gE : sg.names.lookup ce = some .globalImplicit)
    (ds : ∀ y ∈ [ask, fnd, err, rf, ce], (y == ("__debug__" : Str)) = false ∧ (y == ("__classdict__" : Str)) = false) : SaidC P w K mg base cls (k + 1) x ce w2 G := by
  subst hb
  refine ⟨g, CE, fdg, pg, _, sg, _, ask, w0, w1, D, at_, atE, S, bi, rfl, v0, (ds ask (by simp)).1, (ds ask (by simp)).2, ?_⟩
  intro X cdg q e1 e2 e3 e4 e5 room
  subst e1 e2 e3 e4 e5
  exact said_gives FR (fun s => (L2H.roomH_of room).deeper _) atR kpR bR atE S.nd v1 v2 l1 l2 gR gE (ds fnd (by simp)).1 (ds fnd (by simp)).2 (ds err (by simp)).1 (ds err (by simp)).2 (ds rf (by simp)).1 (ds ce (by simp)).1 (fun s => l2)
theorem LamH.of {K : PySem.W.Frag} {mg : Str → Option Value} {base : Heap} {tfq : List (He.Defn × Str)} {n q : Str} (TB : ∀ q ∈ (tfq.map (·.1)).map (He.cT K), LamX.TabB base mg q.1 q.2) (nd : (tfq.map fun z => (He.cT K z.1).2).Nodup) (h : ((n, none), q) ∈ tfq) : LamH K mg base (clOf K tfq) n q :=
  let z := tab_at TB nd h
  ⟨z.1, z.2.1, z.2.2⟩
theorem alls {α : Type} {p : α → Prop} {a : α} {l : List α} (h : p a) (t : ∀ x ∈ l, p x) : ∀ x ∈ a :: l, p x := fun x hx => (List.mem_cons.mp hx).elim (fun e => e ▸ h) (t x)
theorem alln {α : Type} {p : α → Prop} : ∀ x ∈ ([] : List α), p x := fun _ h => nomatch h
end Pv
namespace Pv
open PySem PySem.Spec PyProof.Rows L2 PySem.Calls
def sAsgT (tg : Tg) (fe : Env → Store → Out D) : SemS := fun ρ S => bnd (fe ρ S) fun d S1 => match setT tg d ρ with
  | some ρ' => ret (.nx ρ') S1
  | none => none
end Pv
namespace Pv
open PySem PySem.Spec PyProof.Rows L2 PySem.Calls
def valN (kvs : List (NestedKey × D)) (k : NestedKey) : Option D := (kvs.find? fun x => decide (x.1 = k)).map (·.2)
def isN (S : Store) : D → Bool
  | .cell j => (match S[j]? with | some (.dn _) => true | _ => false)
  | _ => false
def putN (kvs : List (NestedKey × D)) (k : NestedKey) (v : D) : List (NestedKey × D) := if (valN kvs k).isSome then kvs.map (fun x => if x.1 = k then (x.1, v) else x) else kvs ++ [(k, v)]
end Pv
namespace Pv
open PySem PySem.Spec PyProof.Rows L2 PySem.Calls
section
variable {X : Cx} {x n : Str} {c : Value} {i : Nat} {body suite rest : List Stmt} {b₀ : Stmt} {np pos pos' : Pos} {tb : WX → TS} {ts tr : Addr → Value → Option Addr → TS}
theorem Inv.held {pins : List (Addr × Obj)} {σ : L2.St} {H : Hp} {s : Shared} {a : Addr} {oe : Obj} (I : Inv X pins σ H s) (p : s.heap.get? a = some oe ∧ H a = none ∧ a ≠ X.env.locals ∧ a ∉ X.fs ∧ ∀ v, oe.data ≠ .cell v) : Inv X ((a, oe) :: pins) σ H s :=
  ⟨I.ok, I.os, I.bare, I.base, I.loc, I.cell, I.free, I.freeC, fun q hq => by
    rcases List.mem_append.mp hq with hq | hq
    · exact I.pin q (List.mem_append_left _ hq)
    · rcases List.mem_cons.mp hq with rfl | hq
      · exact p
      · exact I.pin q (List.mem_append_right _ hq), I.hok, I.len⟩
theorem Inv.drop {pins : List (Addr × Obj)} {q : Addr × Obj} {σ : L2.St} {H : Hp} {s : Shared} (I : Inv X (q :: pins) σ H s) : Inv X pins σ H s :=
  ⟨I.ok, I.os, I.bare, I.base, I.loc, I.cell, I.free, I.freeC, fun p hp => I.pin p (by
    rcases List.mem_append.mp hp with hp | hp
    · exact List.mem_append_left _ hp
    · exact List.mem_append_right _ (List.mem_cons_of_mem _ hp)), I.hok, I.len⟩
end
end Pv
namespace Pv
open PySem PySem.Spec PyProof.Rows L2 PySem.Calls
open LamX
end Pv
namespace Pv
open PySem PySem.Spec PyProof.Rows L2 PySem.Calls RZ
section
variable {prog : Program} {w : World} {A : Around} {E : Value → Shared → Prop} {s : Shared} {z TI TO T i1 i2 l1 l2 : Addr} {f : Bool} {oT : Obj} {k : Nat} {xs ys : Array Value}
/-- where a zip of two tuples stands behind k turns -/
def ZAt (z TI TO i1 i2 l1 l2 S : Addr) (k : Nat) (h : Heap) : Prop := IsPair h TI (.ref i1) (.ref i2) ∧ h.IsTupleIter i1 l1 k ∧ h.IsTupleIter i2 l2 k ∧
  ((IsZip h z TI TO .none ∧ ∃ a b, IsPair h TO a b) ∨ ∃ T f oT, IsZipHeld h z TI TO T f ∧ h.get? T = some oT ∧ T ≠ z ∧ T ≠ i1 ∧ T ≠ i2 ∧ T ≠ S)
abbrev five (z TI TO i1 i2 : Addr) : List Addr := [z, TI, TO, i1, i2]
theorem ZAt.keep {S : Addr} {h h' : Heap} (a : ZAt z TI TO i1 i2 l1 l2 S k h) (q : ∀ c o, c ≠ S → h.get? c = some o → h'.get? c = some o) (ne : S ∉ five z TI TO i1 i2) : ZAt z TI TO i1 i2 l1 l2 S k h' := by
  simp only [five, List.mem_cons, List.not_mem_nil, or_false, not_or] at ne
  obtain ⟨n1, n2, n3, n4, n5⟩ := ne
  obtain ⟨a1, a2, a3, a4⟩ := a
  refine ⟨q _ _ (Ne.symm n2) a1, a2.at fun o e => q _ _ (Ne.symm n4) e, a3.at fun o e => q _ _ (Ne.symm n5) e, ?_⟩
  rcases a4 with ⟨b1, x, y, b2⟩ | ⟨T, f, oT, b1, b2, b3, b4, b5, b6⟩
  · exact .inl ⟨q _ _ (Ne.symm n1) b1, x, y, q _ _ (Ne.symm n3) b2⟩
  · exact .inr ⟨T, f, oT, q _ _ (Ne.symm n1) b1, q _ _ b6 b2, b3, b4, b5, b6⟩
end
/-- the list at S of new pairs, all else as in H0 -/
def LzD (H0 : Hp) (S : Addr) (prs : List (V × V)) (as : List Addr) (H : Hp) : Prop :=
  as.length = prs.length ∧ H0 S = none ∧ H S = some (.lst (as.map V.ref)) ∧ (∀ a ∈ as, H0 a = none ∧ a ≠ S) ∧ (∀ (i : Nat) (a : Addr) (p : V × V), as[i]? = some a → prs[i]? = some p → H a = some (.tup [p.1, p.2])) ∧ ∀ c, c ≠ S → c ∉ as → H c = H0 c
theorem LzD.ext {H0 H : Hp} {S : Addr} {prs : List (V × V)} {as : List Addr} (h : LzD H0 S prs as H) : ∀ b o, H0 b = some o → H b = some o := fun b o e => by
  obtain ⟨_, hS, _, ha, _, hc⟩ := h
  rw [hc b (fun z => by rw [z, hS] at e; cases e) fun z => by rw [(ha b z).1] at e; cases e]
  exact e
theorem LzD.snoc {H0 H : Hp} {S T : Addr} {prs : List (V × V)} {p : V × V} {as : List Addr} (h : LzD H0 S prs as H) (hT : H T = none) : LzD H0 S (prs ++ [p]) (as ++ [T]) (upd (upd H T (.tup [p.1, p.2])) S (.lst (as.map V.ref ++ [V.ref T]))) := by
  obtain ⟨h1, h2, h3, h4, h5, h6⟩ := h
  have hTS : T ≠ S := fun z => by rw [z, h3] at hT; cases hT
  have hTa : T ∉ as := fun z => by
    obtain ⟨i, hi⟩ := List.getElem?_of_mem z
    have hl := (List.getElem?_eq_some_iff.mp hi).1
    have := h5 i T _ hi (List.getElem?_eq_getElem (by omega))
    rw [hT] at this; cases this
  refine ⟨by simp [h1], h2, by rw [upd_same]; simp, fun a ha => ?_, fun i a q ha hq => ?_, fun c c1 c2 => ?_⟩
  · rcases List.mem_append.mp ha with ha | ha
    · exact h4 a ha
    · rw [List.mem_singleton.mp ha]
      exact ⟨by rw [← h6 T hTS hTa]; exact hT, hTS⟩
  · by_cases hi : i < as.length
    · rw [List.getElem?_append_left hi] at ha
      rw [List.getElem?_append_left (by omega)] at hq
      have hm := List.mem_of_getElem? ha
      rw [upd_ne (h4 a hm).2, upd_ne fun z : a = T => hTa (by rw [← z]; exact hm)]
      exact h5 i a q ha hq
    · have e : i = as.length := by
        have := (List.getElem?_eq_some_iff.mp ha).1
        simp at this
        omega
      subst e
      rw [List.getElem?_append_right (Nat.le_refl _), Nat.sub_self] at ha
      rw [List.getElem?_append_right (by omega), h1, Nat.sub_self] at hq
      cases ha
      cases hq
      rw [upd_ne hTS, upd_same]
  · rw [List.mem_append, not_or, List.mem_singleton] at c2
    rw [upd_ne c1, upd_ne c2.2]
    exact h6 c c1 c2.1
end Pv
namespace Pv.HS
open PySem PySem.Spec PyProof.Rows PySem.Calls
open L2 (wp_if_pos wp_if_neg MaskOk way nth runAt nth_add go_spec slot_live relaid_ok mask_odd sameMem searchRest setSearchFrom_succ setAddHashedIn_succ setRelay_eq put_perm take_next nodup_of_map size_20 size_76 store_at)
section
variable {P : Program} {w : World} {A : Around} {E : Value → Shared → Prop} {s : Shared} {K : Type} [DecidableEq K] {knd : HeapKind P w K}
/-- such keys side by side: a look for one of them shows nothing -/
theorem Tame.hush (T : Tame knd) {k : K} {b : Addr} (hk : knd.is s.heap k b) {ys : List Value} (hy : ∀ y ∈ ys, ∃ k' c, y = Value.ref c ∧ knd.is s.heap k' c) {Q : Bool → Shared → Prop} (h : Q false s) :
    wpAny (model P w) A (searchCouldBeSeen (.ref b) ys) Q E s := by
  unfold searchCouldBeSeen
  refine wpAny_bind (wpAny_forIn_list _ (fun l r s' => r.1 = none ∧ s' = s ∧ ∀ y ∈ l, y ∈ ys) _ (fun v l r s' hi => ?_) (fun r s' hi => ?_) _ _ ⟨rfl, rfl, fun _ m => m⟩)
  · obtain ⟨_, rfl, hl⟩ := hi
    obtain ⟨k', c, rfl, hc⟩ := hy v (hl v List.mem_cons_self)
    have fin : (none : Option Bool) = none ∧ s' = s' ∧ ∀ y ∈ l, y ∈ ys := ⟨rfl, rfl, fun y m => hl y (List.mem_cons_of_mem _ m)⟩
    dsimp only
    by_cases hv : (b == c || (carriedByValue (.ref b) && carriedByValue (.ref c))) = true
    · exact wp_if_pos hv (wpAny_pure fin)
    · refine wp_if_neg hv (wpAny_bind (knd.quiet hk ?_))
      simp only [Bool.not_true, Bool.false_eq_true, if_false]
      refine wpAny_bind (knd.quiet hc ?_)
      simp only [Bool.not_true, Bool.false_eq_true, if_false]
      refine wpAny_bind (T.own hk ?_)
      simp only [Bool.false_eq_true, if_false]
      refine wpAny_bind (T.own hc ?_)
      simp only [Bool.false_eq_true, if_false]
      exact wpAny_pure fin
  · obtain ⟨r1, r2⟩ := r
    obtain ⟨e, rfl, _⟩ := hi
    cases e
    exact wpAny_pure h

variable {a : Addr} {L : List (Addr × K)} {es : Array (Int × Value)} {ep : Nat} {t : SetTable}
theorem rows_get (r : es.toList = L.map (en knd)) (i : Nat) : es[i]? = L[i]?.map (en knd) := by
  rw [← Array.getElem?_toList, r, List.getElem?_map]
theorem At.whole (R : At knd s.heap a L es ep t) : ¬ t.gaveWay = true := by
  unfold SetTable.gaveWay
  rw [mask_odd R.tab.mok]
  decide
/-- the probe that stands at the c-th step of a hash's way -/
def pr (t : SetTable) (h : Int) (c : Nat) : SetTable.Probe := nth t.mask (runAt t.mask (SetTable.bits h % (t.mask + 1)) (SetTable.bits h)) c
theorem pr_add (t : SetTable) (h : Int) (c q : Nat) : nth t.mask (pr t h c) q = pr t h (c + q) := (nth_add t.mask c _ q).symm
theorem pr_j (t : SetTable) (h : Int) (c : Nat) : (pr t h c).j = way t.mask h c := rfl
theorem nth_clean (m : Nat) : ∀ (n : Nat) (p : SetTable.Probe), p.dummy = none → (nth m p n).dummy = none
  | 0, _, h => h
  | n + 1, p, h => nth_clean m n (L2.adv m p) (by unfold L2.adv; split <;> exact h)
theorem pr_clean (t : SetTable) (h : Int) (c : Nat) : (pr t h c).dummy = none := nth_clean _ _ _ rfl
/-- what one look at the table gives, from the c-th step on -/
theorem At.look (R : At knd s.heap a L es ep t) {h : Int} {N c : Nat} (hN : way t.mask h N ∉ t.place.toList) (hb : ∀ q, q < N → way t.mask h q ∈ t.place.toList) (hc : c ≤ N) (hf : N - c < 10 * SetTable.turns t.mask) :
    (∃ c2 i p, c ≤ c2 ∧ c2 < N ∧ t.place.toList[i]? = some (way t.mask h c2) ∧ L[i]? = some p ∧
      (∀ (i' : Nat) (p' : Addr × K) (c' : Nat), L[i']? = some p' → knd.hash p'.2 = h → c ≤ c' → t.place.toList[i']? = some (way t.mask h c') → c2 ≤ c') ∧
      t.probe (fun i => (es[i]?.map (·.1)).getD 0) h (pr t h c) = some (.candidate (way t.mask h c2) i (pr t h (c2 + 1)))) ∨
    ((∀ (i' : Nat) (p' : Addr × K) (c' : Nat), L[i']? = some p' → knd.hash p'.2 = h → c ≤ c' → c' < N → t.place.toList[i']? ≠ some (way t.mask h c')) ∧
      t.probe (fun i => (es[i]?.map (·.1)).getD 0) h (pr t h c) = some (.empty (way t.mask h N) none)) := by
  have st : ∀ q, (nth t.mask (pr t h c) q).j = way t.mask h (c + q) := fun q => by rw [pr_add, pr_j]
  have hN2 : c + (N - c) = N := by omega
  have hsh : ∀ (i' : Nat) (p' : Addr × K), L[i']? = some p' → (fun i => (es[i]?.map (·.1)).getD 0) i' = knd.hash p'.2 := fun i' p' e => by
    show (es[i']?.map (·.1)).getD 0 = _
    rw [rows_get R.row, e]
    rfl
  rcases go_spec t R.tab.ris R.tab.dm (fun i => (es[i]?.map (·.1)).getD 0) h (10 * SetTable.turns t.mask) (N - c) (pr t h c) (pr_clean t h c) hf (fun q hq => by rw [st]; exact hb _ (by omega)) (by rw [st, hN2]; exact hN) with ⟨q, i, hq, hi, hh, hno, e⟩ | ⟨hno, e⟩
  · left
    rw [st] at hi
    have hil : i < L.length := by
      have h1 := (List.getElem?_eq_some_iff.mp hi).1
      rw [Array.length_toList, R.tsz] at h1
      exact h1
    refine ⟨c + q, i, L[i], by omega, by omega, hi, List.getElem?_eq_getElem hil, fun i' p' c' h1 h2 h3 h4 => ?_, ?_⟩
    · rcases Nat.lt_or_ge c' (c + q) with z | z
      · refine absurd ((hsh i' p' h1).trans h2) (hno (c' - c) i' (by omega) ?_)
        rw [st, show c + (c' - c) = c' by omega]
        exact h4
      · exact z
    · rw [st, pr_add] at e
      exact e
  · right
    refine ⟨fun i' p' c' h1 h2 h3 h4 h5 => ?_, ?_⟩
    · refine absurd ((hsh i' p' h1).trans h2) (hno (c' - c) i' (by omega) ?_)
      rw [st, show c + (c' - c) = c' by omega]
      exact h5
    · rw [st, hN2] at e
      exact e
/-- the search: there, or the free slot at the way's end -/
theorem At.seek (T : Tame knd) (R : At knd s.heap a L es ep t) {x : Addr} {k : K} (hx : knd.is s.heap k x) (hu : knd.room A) {N : Nat} (hf : N < 10 * SetTable.turns t.mask)
    (hN : way t.mask (knd.hash k) N ∉ t.place.toList) (hb : ∀ q, q < N → way t.mask (knd.hash k) q ∈ t.place.toList) {Q : SetFound → Shared → Prop}
    (yes : k ∈ L.map (·.2) → Q (.there none) s) (no : k ∉ L.map (·.2) → Q (.free (way t.mask (knd.hash k) N) false) s) :
    ∀ (f c : Nat) (stand : Option SetTable.Probe), stand.getD (t.probeStart (knd.hash k)) = pr t (knd.hash k) c → c ≤ N → N - c < f →
      (∀ (i : Nat) (p : Addr × K), L[i]? = some p → p.2 = k → ∃ c', c ≤ c' ∧ c' < N ∧ t.place.toList[i]? = some (way t.mask (knd.hash k) c')) →
      wpAny (model P w) A (setSearchFrom a (.ref x) (knd.hash k) true f stand) Q E s := by
  intro f
  induction f with
  | zero => intro c stand _ _ h; exact absurd h (Nat.not_lt_zero _)
  | succ f ih =>
    intro c stand hst hc hcf ahead
    obtain ⟨o, ho, hex, hd⟩ := R.obj
    rw [setSearchFrom_succ]
    refine wpAny_bind (wpAny_setState_of ho hd R.fits ?_)
    dsimp only
    refine wp_if_neg R.whole ?_
    try refine wpAny_bind (wpAny_pure ?_)
    rw [hst]
    rcases R.look hN hb hc (by omega) with ⟨c2, i, p, h1, h2, h3, h4, h5, h6⟩ | ⟨h1, h2⟩
    · rw [h6]
      dsimp only
      have hm : p ∈ L := List.mem_of_getElem? h4
      have he : es[i]? = some (knd.hash p.2, Value.ref p.1) := by rw [rows_get R.row, h4]; rfl
      have live : t.slot (way t.mask (knd.hash k) c2) = .live i := slot_live R.tab.ris h3
      have rest : wpAny (model P w) A (searchRest a (.ref x) (knd.hash k) true f es t (way t.mask (knd.hash k) c2) i (pr t (knd.hash k) (c2 + 1))) Q E s := by
        unfold searchRest
        rw [he]
        dsimp only
        refine wpAny_bind (wpAny_holding (knd.eqBool hu (R.key p hm) hx ?_))
        refine wpAny_bind (wpAny_setState_of ho hd R.fits ?_)
        dsimp only
        by_cases e : p.2 = k
        · exact wp_if_pos (by simp [e]) (wpAny_pure (yes (List.mem_map.mpr ⟨p, hm, e⟩)))
        · refine wp_if_neg (by simp [e]) ?_
          try refine wpAny_bind (wpAny_pure ?_)
          rw [sameMem]
          dsimp only
          simp only [if_true, live, he]
          refine wpAny_bind (wpAny_isSame_ref_self (wpAny_bind (wpAny_pure ?_)))
          simp only [if_true]
          refine wp_if_neg (by simp [e]) ?_
          refine ih (c2 + 1) _ rfl (by omega) (by omega) fun i0 p0 g1 g2 => ?_
          obtain ⟨c', k1, k2, k3⟩ := ahead i0 p0 g1 g2
          refine ⟨c', Nat.lt_of_le_of_ne (h5 i0 p0 c' g1 (by rw [g2]) k1 k3) fun z => ?_, k2, k3⟩
          subst z
          have s0 := slot_live R.tab.ris k3
          rw [live] at s0
          injection s0 with s0
          subst s0
          rw [h4] at g1
          exact e ((congrArg Prod.snd (Option.some.inj g1)).trans g2)
      by_cases hl : t.led = true
      · refine wp_if_neg (by simp [hl]) ?_
        try refine wpAny_bind (wpAny_pure ?_)
        exact rest
      · refine wp_if_pos (by simp [hl]) (wpAny_bind (T.hush hx (fun y hy => ?_) ?_))
        · obtain ⟨e, he1, rfl⟩ := List.mem_map.mp hy
          have he2 : e ∈ es.toList := by
            have : e ∈ es ∧ e.1 = knd.hash k := by simpa using he1
            simpa using this.1
          rw [R.row] at he2
          obtain ⟨q, hq, rfl⟩ := List.mem_map.mp he2
          exact ⟨q.2, q.1, rfl, R.key q hq⟩
        · refine wp_if_neg (by decide) ?_
          try refine wpAny_bind (wpAny_pure ?_)
          exact rest
    · rw [h2]
      refine wpAny_pure (no fun hm => ?_)
      obtain ⟨p0, m0, e0⟩ := List.mem_map.mp hm
      obtain ⟨i0, l0, e1⟩ := List.getElem_of_mem m0
      have g1 : L[i0]? = some p0 := by rw [List.getElem?_eq_getElem l0, e1]
      obtain ⟨c', k1, k2, k3⟩ := ahead i0 p0 g1 e0
      exact h1 i0 p0 c' g1 (by rw [e0]) k1 k2 k3
theorem At.find (T : Tame knd) (R : At knd s.heap a L es ep t) {x : Addr} {k : K} (hx : knd.is s.heap k x) (hu : knd.room A) {Q : SetFound → Shared → Prop} (yes : k ∈ L.map (·.2) → Q (.there none) s)
    (no : ∀ N, k ∉ L.map (·.2) → way t.mask (knd.hash k) N ∉ t.place.toList → (∀ c, c < N → way t.mask (knd.hash k) c ∈ t.place.toList) → Q (.free (way t.mask (knd.hash k) N) false) s) :
    wpAny (model P w) A (setSearch a (.ref x) (knd.hash k) true) Q E s := by
  obtain ⟨N, h1, h2, h3⟩ := R.tab.first (by have := R.room; rw [List.length_map]; omega) (knd.hash k)
  have big : N < 100000 := by
    have : 10 * SetTable.turns t.mask ≤ 1420 := by
      unfold SetTable.turns
      rcases R.tab.mok with e | e | e <;> omega
    omega
  unfold setSearch
  refine R.seek T hx hu h1 h2 h3 yes (fun hn => no N hn h2 h3) 100000 0 none rfl (Nat.zero_le _) (by omega) fun i p g1 g2 => ?_
  have il : i < t.place.toList.length := by
    rw [Array.length_toList, R.tsz]
    exact (List.getElem?_eq_some_iff.mp g1).1
  obtain ⟨c, k1, k2⟩ := R.tab.before h2 (i := i) (h := knd.hash k) (by rw [List.getElem?_map, g1, ← g2]; rfl) (List.getElem?_eq_getElem il)
  exact ⟨c, Nat.zero_le _, k1, by rw [List.getElem?_eq_getElem il, k2]⟩
theorem Tame.same (T : Tame knd) {h h' : Heap} {k : K} {b : Addr} {o : Obj} (x : knd.is h k b) (ho : h.get? a = some o) (hd : o.data = .set es ep t) (hs : Heap.SameBut a h h') : knd.is h' k b := by
  refine T.stays (fun c oc vs n e1 e2 => (hs.2 c fun z => ?_).trans e1) x
  subst z
  cases ho.symm.trans e1
  rw [hd] at e2
  cases e2
theorem range_pick {α : Type} : ∀ l : List α, (List.range l.length).filterMap (fun i => l[i]?) = l
  | [] => rfl
  | x :: l => by
    rw [List.length_cons, List.range_succ_eq_map, List.filterMap_cons_some (f := fun i => (x :: l)[i]?) (b := x) rfl, List.filterMap_map]
    exact congrArg (x :: ·) (range_pick l)
theorem turned (r : es.toList = L.map (en knd)) {order : Array Nat} (hp : order.toList.Perm (List.range L.length)) :
    ∃ L' : List (Addr × K), (order.filterMap (es[·]?)).toList = L'.map (en knd) ∧ L'.Perm L ∧ (L'.map fun p => knd.hash p.2) = order.toList.map fun i => (es.map (·.1)).getD i 0 := by
  refine ⟨order.toList.filterMap fun i => L[i]?, ?_, ?_, ?_⟩
  · rw [Array.toList_filterMap, List.map_filterMap]
    exact congrArg (fun f => List.filterMap f order.toList) (funext fun i => rows_get r i)
  · have := hp.filterMap fun i => L[i]?
    rwa [range_pick] at this
  · have hl : ∀ i ∈ order.toList, i < L.length := fun i hi => List.mem_range.mp (hp.mem_iff.mp hi)
    generalize order.toList = l at hl
    induction l with
    | nil => rfl
    | cons i l ih =>
      have hi := hl i List.mem_cons_self
      have e1 : L[i]? = some L[i] := List.getElem?_eq_getElem hi
      have e2 : (es.map (·.1)).getD i 0 = knd.hash (L[i]).2 := by
        rw [Array.getD_eq_getD_getElem?, Array.getElem?_map, rows_get r, e1]
        rfl
      rw [List.filterMap_cons_some e1, List.map_cons, List.map_cons, ih fun j hj => hl j (List.mem_cons_of_mem _ hj), e2]
/-- the table laid anew, with more room -/
theorem relay_ok (T : Tame knd) {o : Obj} (ho : s.heap.get? a = some o) (hex : o.ExactSet) (hd : o.data = .set es ep t) (r : es.toList = L.map (en knd)) (tz : t.place.size = L.length) (dm : t.dummies = #[]) (fl : L.length ≤ t.mask)
    (one : (L.map (·.2)).Nodup) (key : ∀ p ∈ L, knd.is s.heap p.2 p.1) (led : w.params.followText "set-order" = true ∨ t.led = true) (few : L.length < 64) {n M : Nat}
    (hw : SetTable.sizeAbove n - 1 = M) (hM : MaskOk M) (h128 : SetTable.sizeAbove n ≤ 128) (room : L.length * 5 < M * 3) {Q : Unit → Shared → Prop}
    (q : ∀ h' L' es' ep' t', Heap.SameBut a s.heap h' → At knd h' a L' es' ep' t' → L'.Perm L → Q () { s with heap := h' }) : wpAny (model P w) A (setRelay a n) Q E s := by
  have sz := rows_size r
  obtain ⟨t', order, e, hp, T', em, el, _, _⟩ := relaid_ok t (hs := es.map (·.1)) (wanted := n) hw hM (by rw [Array.size_map, sz]; omega)
  rw [Array.size_map, sz] at hp
  obtain ⟨L', r1, r2, r3⟩ := turned r hp
  rw [← r3] at T'
  have sz' : (order.filterMap (es[·]?)).size = es.size := by rw [rows_size r1, r2.length_eq, sz]
  rw [setRelay_eq]
  refine wpAny_bind (wpAny_setState_of ho hd (fits_of tz dm fl sz) ?_)
  dsimp only
  refine wp_if_neg (by rw [sizeLine_eq]; omega) ?_
  try refine wpAny_bind (wpAny_pure ?_)
  rw [e]
  dsimp only
  refine wpAny_bind ?_
  refine wp_if_neg (by rw [sz']; simp) ?_
  try refine wpAny_bind (wpAny_pure ?_)
  refine wpAny_pure ?_
  dsimp only
  refine wpAny_storeSet_of ho hd ?_ (by rw [sz', sz, sizeLine_eq]; omega)
  have sb : Heap.SameBut a s.heap (s.heap.update a (Obj.putSet (order.filterMap (es[·]?)) t')) := Heap.SameBut.update ..
  exact q _ L' _ (ep + 1) t' sb ⟨⟨_, store_at ho hd, ⟨hex.1, hex.2.1, hex.2.2⟩, rfl⟩, r1, T', (r2.map (·.2)).nodup_iff.mpr one, fun p m => T.same (key p (r2.mem_iff.mp m)) ho hd sb, by rw [el]; exact led, by rw [r2.length_eq, em]; exact room, by rw [r2.length_eq]; exact few⟩ r2
theorem byv_bind (T : Tame knd) {k : K} {x : Addr} (hx : knd.is s.heap k x) {c : Bool} {β : Type} {f : Bool → Sem β} {z : Sem β} {Q : β → Shared → Prop} (h : ∀ b, wpAny (model P w) A (f b) Q E s) (hz : f true = z) :
    wpAny (model P w) A (if c = true then hashByValue 8 (.ref x) >>= f else z) Q E s := by
  cases c
  · exact wp_if_neg (by decide) (hz ▸ h true)
  · exact wp_if_pos rfl (wpAny_bind (T.byv hx h))
/-- whether its rows are plain is nobody's question -/
theorem plain_tab {b : Bool} {hs : List Int} {t2 : SetTable} (e : (if b = true then t else { t with plain := false }) = t2) (h : L2.TabOk t hs) : L2.TabOk t2 hs ∧ t2.mask = t.mask ∧ t2.led = t.led ∧ t2.tooFull = t.tooFull := by
  subst e
  cases b
  · exact ⟨⟨h.ris, h.dm, h.sz, h.mok, h.bd, h.reach⟩, rfl, rfl, rfl⟩
  · exact ⟨h, rfl, rfl, rfl⟩
/-- a member added -/
theorem At.add (T : Tame knd) (R : At knd s.heap a L es ep t) {x : Addr} {k : K} (hx : knd.is s.heap k x) (hu : knd.room A) (more : L.length + 1 < 64) {Q : Bool → Shared → Prop}
    (q : ∀ b h' L' es' ep' t', Heap.SameBut a s.heap h' → At knd h' a L' es' ep' t' → (k ∈ L.map (·.2) → L' = L) → (k ∉ L.map (·.2) → L'.Perm ((x, k) :: L)) → Q b { s with heap := h' }) :
    wpAny (model P w) A (setAddHashed a (.ref x) (knd.hash k)) Q E s := by
  obtain ⟨o, ho, hex, hd⟩ := R.obj
  have room := R.room
  unfold setAddHashed
  refine wpAny_holding ?_
  rw [show (100000 : Nat) = 99999 + 1 from rfl, setAddHashedIn_succ]
  refine wpAny_bind (wpAny_setState_of ho hd R.fits ?_)
  dsimp only
  refine wp_if_neg (by simp [byScan, Value.scannable]) ?_
  try refine wpAny_bind (wpAny_pure ?_)
  refine wpAny_bind (R.find T hx hu (fun hm => ?_) fun N hm hN hb => ?_)
  · exact wpAny_pure (q false s.heap L es ep t (Heap.SameBut.refl a s.heap) R (fun _ => rfl) fun z => absurd hm z)
  · dsimp only
    refine wpAny_bind (wpAny_setState_of ho hd R.fits ?_)
    dsimp only
    obtain ⟨q1, q2, q3, q4, q5, -, -, -, q9⟩ := R.tab.put hN hb
    generalize t.put (way t.mask (knd.hash k) N) = pt at q1 q3 q4 q5 q9 ⊢
    obtain ⟨t1, n⟩ := pt
    dsimp only at q1 q3 q4 q5 q9 ⊢
    subst q1
    refine byv_bind T hx (fun b => ?_) rfl
    generalize hn : SetTable.below t.place (way t.mask (knd.hash k) N) = n at q2 q3 ⊢
    have pm := put_perm L n (x, k)
    have row1 : (SetTable.insertAt es n (knd.hash k, Value.ref x)).toList = (L.take n ++ (x, k) :: L.drop n).map (en knd) := by
      rw [SetTable.toList_insertAt, R.row, List.map_append, List.map_cons, List.map_take, List.map_drop]
      rfl
    have hashes : (L.take n ++ (x, k) :: L.drop n).map (fun p => knd.hash p.2) = (L.map fun p => knd.hash p.2).take n ++ knd.hash k :: (L.map fun p => knd.hash p.2).drop n := by
      rw [List.map_append, List.map_cons, List.map_take, List.map_drop]
    rw [← hashes] at q3
    generalize L.take n ++ (x, k) :: L.drop n = L1 at pm row1 q3
    generalize SetTable.insertAt es n (knd.hash k, Value.ref x) = es1 at row1 ⊢
    have len : L1.length = L.length + 1 := pm.length_eq
    have sz1 : es1.size = L.length + 1 := by rw [rows_size row1, len]
    have one1 : (L1.map (·.2)).Nodup := (pm.map (·.2)).nodup_iff.mpr (List.nodup_cons.mpr ⟨hm, R.one⟩)
    have full1 : t1.tooFull = decide ((L.length + 1) * 5 ≥ t1.mask * 3) := by
      unfold SetTable.tooFull
      rw [q9, List.length_map]
    generalize e2 : (if b = true then t1 else { t1 with plain := false }) = t2
    obtain ⟨f1, f2, f3, f4⟩ := plain_tab e2 q3
    refine wpAny_bind (wpAny_storeSet_of ho hd ?_ (by rw [sz1, sizeLine_eq]; omega))
    have sb : Heap.SameBut a s.heap (s.heap.update a (Obj.putSet es1 t2)) := Heap.SameBut.update ..
    have ho1 := store_at (es' := es1) (t' := t2) ho hd
    generalize s.heap.update a (Obj.putSet es1 t2) = h1 at sb ho1 ⊢
    have key1 : ∀ p ∈ L1, knd.is h1 p.2 p.1 := fun p m => by
      rcases List.mem_cons.mp (pm.mem_iff.mp m) with e | m
      · rw [e]; exact T.same hx ho hd sb
      · exact T.same (R.key p m) ho hd sb
    have led1 : w.params.followText "set-order" = true ∨ t2.led = true := by rw [f3, q5]; exact R.led
    rw [full1] at f4
    have tz : t2.place.size = L1.length := by
      have := f1.sz
      rwa [List.length_map] at this
    by_cases hf : t2.tooFull = true
    · have hful : (L.length + 1) * 5 ≥ t1.mask * 3 := of_decide_eq_true (f4.symm.trans hf)
      have which : (t.mask = 7 ∧ L.length = 4) ∨ (t.mask = 31 ∧ L.length = 18) := by
        rw [q4] at hful
        rcases R.tab.mok with e | e | e
        · left; rw [e] at hful room; exact ⟨e, by omega⟩
        · right; rw [e] at hful room; exact ⟨e, by omega⟩
        · exfalso; rw [e] at hful; omega
      have go : ∀ M, SetTable.sizeAbove (SetTable.grown (L.length + 1)) - 1 = M → MaskOk M → SetTable.sizeAbove (SetTable.grown (L.length + 1)) ≤ 128 → (L.length + 1) * 5 < M * 3 →
          wpAny (model P w) A (setRelay a (SetTable.grown (L.length + 1))) (fun _ s' => wpAny (model P w) A (pure true) Q E s') E { s with heap := h1 } := fun M m1 m2 m3 m4 =>
        relay_ok T (s := { s with heap := h1 }) ho1 ⟨hex.1, hex.2.1, hex.2.2⟩ rfl row1 tz f1.dm (by rw [len, f2, q4]; rcases which with ⟨e, e'⟩ | ⟨e, e'⟩ <;> omega) one1 key1 led1 (by rw [len]; exact more) m1 m2 m3 (by rw [len]; exact m4)
          fun h2 L2 es2 ep2 t2 sb2 R2 pm2 => wpAny_pure (q true h2 L2 es2 ep2 t2 (sb.trans sb2) R2 (fun z => absurd z hm) fun _ => pm2.trans pm)
      rw [rows_size R.row]
      have fin : wpAny (model P w) A (setRelay a (SetTable.grown (L.length + 1))) (fun _ s' => wpAny (model P w) A (pure true) Q E s') E { s with heap := h1 } := by
        rcases which with ⟨_, e⟩ | ⟨_, e⟩
        · exact go 31 (by rw [e, size_20]) (.inr (.inl rfl)) (by rw [e, size_20]; decide) (by omega)
        · exact go 127 (by rw [e, size_76]) (.inr (.inr rfl)) (by rw [e, size_76]; decide) (by omega)
      first
        | exact wpAny_bind (wp_if_pos (by simp [hf]) fin)
        | exact wp_if_pos (by simp [hf]) (wpAny_bind fin)
    · have few1 : ¬ (L.length + 1) * 5 ≥ t1.mask * 3 := fun z => hf (f4.trans (decide_eq_true z))
      have fin : Q true { s with heap := h1 } := q true h1 L1 es1 (ep + 1) t2 sb ⟨⟨_, ho1, ⟨hex.1, hex.2.1, hex.2.2⟩, rfl⟩, row1, f1, one1, key1, led1, by rw [len, f2]; omega, by rw [len]; exact more⟩ (fun z => absurd z hm) fun _ => pm
      first
        | exact wp_if_neg (by simp [hf]) (wpAny_pure fin)
        | exact wpAny_bind (wp_if_neg (by simp [hf]) (wpAny_pure (wpAny_pure fin)))
        | exact wp_if_neg (by simp [hf]) (wpAny_bind (wpAny_pure (wpAny_pure fin)))
theorem Has.zero {α : Type} (ks : List (α × K)) : Has ks 0 [] := ⟨fun _ h => (nomatch h), fun p h => (by simp at h), Nat.le_refl _⟩
theorem Has.next {α : Type} {ks L L' : List (α × K)} {i : Nat} {x : α} {k : K} (g : Has ks i L) (h : ks[i]? = some (x, k)) (c1 : k ∈ L.map (·.2) → L' = L) (c2 : k ∉ L.map (·.2) → L'.Perm ((x, k) :: L)) : Has ks (i + 1) L' := by
  have mem : ∀ p, p ∈ ks.take (i + 1) ↔ p ∈ ks.take i ∨ p = (x, k) := fun p => by rw [take_next h, List.mem_append, List.mem_singleton]
  by_cases c : k ∈ L.map (·.2)
  · rw [c1 c]
    refine ⟨fun p m => (mem p).mpr (.inl (g.sub p m)), fun p m => ?_, Nat.le_succ_of_le g.len⟩
    rcases (mem p).mp m with z | rfl
    · exact g.all p z
    · exact c
  · have pm := c2 c
    refine ⟨fun p m => (mem p).mpr ?_, fun p m => ((pm.map (·.2)).mem_iff).mpr ?_, by rw [pm.length_eq]; exact Nat.succ_le_succ g.len⟩
    · rcases List.mem_cons.mp (pm.mem_iff.mp m) with rfl | z
      · exact .inr rfl
      · exact .inl (g.sub p z)
    · rcases (mem p).mp m with z | rfl
      · exact List.mem_cons_of_mem _ (g.all p z)
      · exact List.mem_cons_self
theorem Tame.kept (T : Tame knd) {h h' : Heap} {k : K} {b : Addr} (x : knd.is h k b) (hk : ∀ c o, h.get? c = some o → h'.get? c = some o) : knd.is h' k b := T.stays (fun c o _ _ e _ => hk c o e) x
theorem At.kept {h h' : Heap} (R : At knd h a L es ep t) (ha : ∀ o, h.get? a = some o → h'.get? a = some o) (ht : ∀ p ∈ L, knd.is h' p.2 p.1) : At knd h' a L es ep t := by
  obtain ⟨o, ho, r⟩ := R.obj
  exact ⟨⟨o, ha o ho, r⟩, R.row, R.tab, R.one, ht, R.led, R.room, R.few⟩
theorem At.fresh {h : Heap} (ho : h.get? a = some (newSet w)) : At knd h a [] #[] 0 (.fresh 0 0 (!w.params.followText "set-order")) where
  obj := ⟨_, ho, ⟨rfl, rfl, rfl⟩, rfl⟩
  row := rfl
  tab := ⟨List.Pairwise.nil, rfl, rfl, .inl rfl, fun x hx => (nomatch hx), fun i h j hi => (by simp at hi)⟩
  one := List.nodup_nil
  key := fun p hp => nomatch hp
  led := by
    show _ ∨ (!w.params.followText "set-order") = true
    cases w.params.followText "set-order"
    · exact .inr rfl
    · exact .inl rfl
  room := by show 0 * 5 < 7 * 3; decide
  few := by show 0 < 64; decide
end
section
open L2
variable {P : Program} {w : World} {A : Around} {E : Value → Shared → Prop} {s : Shared} {K : Type} [DecidableEq K] {knd : HeapKind P w K}
end
end Pv.HS
namespace Pv.HS
open PySem PySem.Spec PyProof.Rows PySem.Calls
theorem pick_perm {α β : Type} {f : α → β} {vs l : List β} (h : vs.Perm l) : ∀ L : List α, l = L.map f → ∃ L1 : List α, L1.Perm L ∧ vs = L1.map f := by
  induction h with
  | nil => intro L e; cases L with
    | nil => exact ⟨[], .nil, rfl⟩
    | cons _ _ => cases e
  | cons x h ih => intro L e; cases L with
    | nil => cases e
    | cons y L =>
      injection e with e1 e2
      obtain ⟨L1, p, e3⟩ := ih L e2
      exact ⟨y :: L1, p.cons y, by rw [List.map_cons, e1, e3]⟩
  | swap x y l => intro L e; cases L with
    | nil => cases e
    | cons a L => cases L with
      | nil => injection e with _ e; cases e
      | cons b L =>
        injection e with e1 e2
        injection e2 with e2 e3
        exact ⟨b :: a :: L, .swap .., by rw [List.map_cons, List.map_cons, e1, e2, e3]⟩
  | trans h1 h2 ih1 ih2 =>
    intro L e
    obtain ⟨L2, p2, e2⟩ := ih2 L e
    obtain ⟨L1, p1, e1⟩ := ih1 L2 e2
    exact ⟨L1, p1.trans p2, e1⟩
section
open L2
variable {P : Program} {w : World} {A : Around} {E : Value → Shared → Prop} {s : Shared} {K : Type} [DecidableEq K] {knd : HeapKind P w K} {a : Addr} {L : List (Addr × K)} {es : Array (Int × Value)} {ep : Nat} {t : SetTable}
end
end Pv.HS
namespace Pv
open PySem PySem.Spec PyProof.Rows L2 PySem.Calls
namespace HS
/-- members with what they read as -/
def Mems (K : PySem.W.Frag) (H : Hp) (ps : List (Addr × NestedKey)) : Prop := ∀ p ∈ ps, Dp K H (.ref p.1) p.2.data ∧ p.2.depth ≤ 8
section
variable {X : Cx} {pins : List (Addr × Obj)} {σ : L2.St} {H : Hp} {s : Shared}
theorem Mems.reads (I : Inv X pins σ H s) {ps : List (Addr × NestedKey)} (m : Mems X.K H ps) {p : Addr × NestedKey} (h : p ∈ ps) : Reads s.heap (.ref p.1) p.2.data [] ∧ (nestedKind X.prog X.w).is s.heap p.2 p.1 := by
  obtain ⟨d, hd⟩ := m p h
  obtain ⟨as, r⟩ := Dp.reads I p.2.data (.ref p.1) (.ref p.1) d rfl
  obtain ⟨k, e⟩ := is_reads p.2 _ _ r
  subst e
  exact ⟨r, k, hd⟩
end
end HS
end Pv
namespace Pv.HS
open PySem PySem.Spec PyProof.Rows PySem.Calls
open L2 (wp_if_pos wp_if_neg Ris store_at layNew_ris layNew_led relayAll_ris relayAll_led mixKind Key)
section
variable {P : Program} {w : World} {A : Around} {E : Value → Shared → Prop} {s : Shared}
variable {a : Addr} {L : List (Value × Key)} {es : Array (Int × Value)} {ep : Nat} {t : SetTable}
theorem AtP.kept {h h' : Heap} (R : AtP P w h a L es ep t) (ha : ∀ o, h.get? a = some o → h'.get? a = some o) : AtP P w h' a L es ep t := by
  obtain ⟨o, ho, r⟩ := R.obj
  exact ⟨⟨o, ha o ho, r⟩, R.row, R.one, R.key, R.fit, R.ris, R.led, R.few⟩
theorem AtP.fresh {h : Heap} (ho : h.get? a = some (newSet w)) : AtP P w h a [] #[] 0 (.fresh 0 0 (!w.params.followText "set-order")) where
  obj := ⟨_, ho, ⟨rfl, rfl, rfl⟩, rfl⟩
  row := rfl
  one := List.nodup_nil
  key := fun p hp => nomatch hp
  fit := fits_of (n := 0) rfl rfl (Nat.zero_le _) rfl
  ris := List.Pairwise.nil
  led := by
    show _ ∨ (!w.params.followText "set-order") = true
    cases w.params.followText "set-order"
    · exact .inr rfl
    · exact .inl rfl
  few := by show 0 < 64; decide
theorem sizeP (r : es.toList = L.map (ent P w)) : es.size = L.length := by
  have := congrArg List.length r
  simpa using this
theorem AtP.elems (R : AtP P w s.heap a L es ep t) : ElemsOf (sm P w) es.toList := fun e he => by
  rw [R.row] at he
  obtain ⟨p, m, rfl⟩ := List.mem_map.mp he
  exact ⟨⟨p.2, (R.key p m).1, rfl⟩, (R.key p m).2⟩
/-- what is stored behind a new row -/
theorem tailP {g : Bool → Sem Unit} (hg : ∀ (b : Bool) (s₁ : Shared) (Q' : Unit → Shared → Prop), Q' () s₁ → wpAny (model P w) A (g b) Q' E s₁) {o : Obj} (ho : s.heap.get? a = some o) (hex : o.ExactSet) (hd : o.data = .set es ep t)
    {es1 : Array (Int × Value)} {t2 : SetTable} {L1 : List (Value × Key)} (row : es1.toList = L1.map (ent P w)) (one : (L1.map (·.2)).Nodup) (key : ∀ p ∈ L1, (sm P w).is p.2 p.1 = true ∧ p.1.scannable = true) (few : L1.length < 64)
    (fit : t2.fits es1.size = true) (ris : Ris t2.place.toList) (led : w.params.followText "set-order" = true ∨ t2.led = true) {wasDummy : Bool} {R : Option Bool → Shared → Prop}
    (q : ∀ h' L' es' ep' t', Heap.SameBut a s.heap h' → AtP P w h' a L' es' ep' t' → L'.Perm L1 → R (some true) { s with heap := h' }) :
    wpAny (model P w) A (do
        storeSet a es1 t2
        if (!wasDummy && t2.tooFull) = true then do
            g (relayAll t2 es1 (SetTable.grown es1.size)).2.2
            storeSet a (relayAll t2 es1 (SetTable.grown es1.size)).1 (relayAll t2 es1 (SetTable.grown es1.size)).2.1
            pure (some true)
          else pure (some true)) R E s := by
  have sz := sizeP row
  have small : ∀ n, n < 64 → n ≤ sizeLine := fun n h => by rw [sizeLine_eq]; omega
  refine wpAny_bind (wpAny_storeSet_of ho hd ?_ (by rw [sz]; exact small _ few))
  have ho1 := store_at (es' := es1) (t' := t2) ho hd
  have sb1 := Heap.SameBut.update s.heap a (Obj.putSet es1 t2)
  split
  · have pm := relayAll_perm t2 es1 (SetTable.grown es1.size)
    have hf3 := relayAll_fits t2 es1 (SetTable.grown es1.size)
    have hr3 := relayAll_ris t2 es1 (SetTable.grown es1.size)
    have hl3 := relayAll_led t2 es1 (SetTable.grown es1.size)
    generalize relayAll t2 es1 (SetTable.grown es1.size) = z at pm hf3 hr3 hl3 ⊢
    obtain ⟨es2, t3, gave⟩ := z
    dsimp only at pm hf3 hr3 hl3 ⊢
    rw [row] at pm
    obtain ⟨L2, p2, row2⟩ := pick_perm pm L1 rfl
    refine wpAny_bind (hg _ _ _ (wpAny_bind (wpAny_storeSet_of ho1 rfl ?_ (by rw [sizeP row2, p2.length_eq]; exact small _ few))))
    refine wpAny_pure (q _ L2 es2 _ t3 (sb1.trans (Heap.SameBut.update _ a _)) ⟨⟨_, store_at ho1 rfl, hex, rfl⟩, row2, (p2.map (·.2)).nodup_iff.mpr one, fun p m => key p (p2.mem_iff.mp m), hf3, hr3, led.imp id fun z => by rw [hl3]; exact z, by rw [p2.length_eq]; exact few⟩ p2)
  · exact wpAny_pure (q _ L1 es1 _ t2 sb1 ⟨⟨_, ho1, hex, rfl⟩, row, one, key, fit, ris, led, few⟩ (.refl _))
theorem AtP.add (R : AtP P w s.heap a L es ep t) {v : Value} {k : Key} (hv : (sm P w).is k v = true) (hs : v.scannable = true) (more : L.length + 1 < 64) {Q : Bool → Shared → Prop}
    (q : ∀ b h' L' es' ep' t', Heap.SameBut a s.heap h' → AtP P w h' a L' es' ep' t' → (k ∈ L.map (·.2) → L' = L) → (k ∉ L.map (·.2) → L'.Perm ((v, k) :: L)) → Q b { s with heap := h' }) :
    wpAny (model P w) A (setAddHashed a v ((sm P w).hash k)) Q E s := by
  obtain ⟨o, ho, hex, hd⟩ := R.obj
  have sz := sizeP R.row
  have few := R.few
  unfold setAddHashed setAddHashedIn
  refine wpAny_holding (wpAny_bind (wpAny_setState_of ho hd R.fit ?_))
  dsimp only
  rw [byScan_of hs (by unfold scanBound; omega) R.elems]
  simp only [↓reduceIte]
  unfold setAddByScan
  refine wpAny_bind (wpAny_bind (wpAny_rule (wpAny_bind (wpAny_setScan_of hv ho hd R.fit R.elems ?_))))
  cases hfi : List.findIdx? (fun e => (sm P w).is k e.2) es.toList with
  | some j =>
    dsimp only
    obtain ⟨hj, pj, _⟩ := List.findIdx?_eq_some_iff_getElem.mp hfi
    have hm : es.toList[j] ∈ L.map (ent P w) := by rw [← R.row]; exact List.getElem_mem hj
    obtain ⟨p, m, e⟩ := List.mem_map.mp hm
    rw [← e] at pj
    have ek : p.2 = k := (sm P w).inj p.1 _ _ (R.key p m).1 pj
    exact wpAny_pure (wpAny_pure (q false s.heap L es ep t (Heap.SameBut.refl a s.heap) R (fun _ => rfl) fun z => absurd (List.mem_map.mpr ⟨p, m, ek⟩) z))
  | none =>
    dsimp only
    have hm : k ∉ L.map (·.2) := fun z => by
      obtain ⟨p, m, e⟩ := List.mem_map.mp z
      have c := List.findIdx?_eq_none_iff.mp hfi (ent P w p) (by rw [R.row]; exact List.mem_map.mpr ⟨p, m, rfl⟩)
      have c2 := (R.key p m).1
      rw [e] at c2
      exact absurd (show (sm P w).is k p.1 = true from c2) (by rw [show (sm P w).is k p.1 = false from c]; decide)
    have hgw : ∀ (b : Bool) {s₁ : Shared} {Q' : Unit → Shared → Prop}, Q' () s₁ → wpAny (model P w) A (match b with | true => rule "set.scan.the-table-gave-way" | false => pure ()) Q' E s₁ :=
      fun b s₁ Q' q => by cases b <;> first | exact wpAny_pure q | exact wpAny_rule q
    have pm := layNew_perm t es ((sm P w).hash k) v
    have hf1 := layNew_fits t es ((sm P w).hash k) v
    have hr1 := layNew_ris t es ((sm P w).hash k) v R.ris
    have hl1 := layNew_led t es ((sm P w).hash k) v
    generalize layNew t es ((sm P w).hash k) v = z at pm hf1 hr1 hl1 ⊢
    obtain ⟨es1, t1, wasDummy, gave⟩ := z
    dsimp only at pm hf1 hr1 hl1 ⊢
    rw [Array.toList_push, R.row] at pm
    have pm' : es1.toList.Perm (((v, k) :: L).map (ent P w)) := pm.trans (List.perm_append_singleton _ _)
    obtain ⟨L1, p1, row1⟩ := pick_perm pm' _ rfl
    have one1 : (L1.map (·.2)).Nodup := (p1.map (·.2)).nodup_iff.mpr (List.nodup_cons.mpr ⟨hm, R.one⟩)
    have key1 : ∀ p ∈ L1, (sm P w).is p.2 p.1 = true ∧ p.1.scannable = true := fun p m => by
      rcases List.mem_cons.mp (p1.mem_iff.mp m) with rfl | m
      · exact ⟨hv, hs⟩
      · exact R.key p m
    have few1 : L1.length < 64 := by rw [p1.length_eq]; exact more
    have led1 : w.params.followText "set-order" = true ∨ t1.led = true := R.led.imp id fun z => by rw [hl1]; exact z
    refine wpAny_bind (hgw _ ?_)
    split
    · refine wpAny_bind ?_
      rw [hashByValue_scannable 8 hs]
      refine wpAny_pure ?_
      refine tailP ?_ ho hex hd row1 one1 key1 few1 ?_ ?_ ?_ ?_
      · intro b s₁ Q' q; cases b <;> first | exact wpAny_pure q | exact wpAny_rule q
      · first | (split <;> first | exact hf1 | exact SetTable.fits_plain_off hf1) | exact hf1
      · first | (split <;> exact hr1) | exact hr1
      · first | (split <;> exact led1) | exact led1
      · intro h' L' es' ep' t' sb r p; dsimp only; exact wpAny_pure (q true h' L' es' ep' t' sb r (fun z => absurd z hm) fun _ => p.trans p1)
    · refine wpAny_bind (wpAny_pure ?_)
      simp only [↓reduceIte]
      refine tailP ?_ ho hex hd row1 one1 key1 few1 hf1 hr1 led1 ?_
      · intro b s₁ Q' q; cases b <;> first | exact wpAny_pure q | exact wpAny_rule q
      · intro h' L' es' ep' t' sb r p; dsimp only; exact wpAny_pure (q true h' L' es' ep' t' sb r (fun z => absurd z hm) fun _ => p.trans p1)
end
end Pv.HS
namespace Pv
open PySem PySem.Spec PyProof.Rows L2 PySem.Calls
section
variable {X : Cx} {c : Ct} {a b e : Expr} {es : List Expr} {pos p : Pos} {fs : Env → Store → Out (List D)}
/-- int(x) of a text too -/
def oIntT (ds : List D) (S : Store) : Out D := match ds with
  | [.str x] => (match PySem.intText? x with
    | some n => guard' (decide (x.length ≤ 640)) (ret (.int n) S)
    | none => none)
  | ds => oInt ds S
@[simp] theorem ev_intT {i : Int} {S : Store} : oIntT [D.int i] S = ret (D.int i) S := rfl
end
end Pv
namespace Pv
open PySem PySem.Spec PyProof.Rows L2 PySem.Calls
section
variable {K : PySem.W.Frag} {R : RT} {n n' : Nat} {φ φ' : Nat → Addr} {H H' : Hp} {A : Addr} {o : HO} {C dx : Addr} {fs : List (Str × V)}
theorem Step.putN (s : Step n φ H n' φ' H') (hA : H A = none) : Step n φ H n' φ' (upd H' A o) := by
  have ne : ∀ {a u}, H a = some u → a ≠ A := fun e z => by
    rw [z, hA] at e
    cases e
  exact ⟨s.le, s.same, fun a u e h1 h2 => by rw [upd_ne (ne e)]; exact s.keep a u e h1 h2, fun a u e => by rw [upd_ne (ne e)]; exact s.dom a u e, s.fresh,
    fun a xs e => by rw [upd_ne (ne e)]; exact s.tups a xs e, fun a u v e => by rw [upd_ne (ne e)]; exact s.frzs a u v e⟩
theorem nest_ins {p : Addr} {ps : List (NestedKey × Addr × Value)} : HO.ins C dx fs ≠ nestO p ps := fun z => nomatch (show HO.ins _ _ _ = HO.ext _ from z)
theorem ins_code : ∀ q, HO.ins C dx fs ≠ LamX.CodeO A q := fun q z => nomatch (show HO.ins _ _ _ = HO.ext _ from z)
end
end Pv
namespace Pv
open PySem PySem.Spec PyProof.Rows L2 He
theorem eqVh_ok {a : Option (List Value)} {g : Addr} (h : eqVh a g = true) : ∃ rest, a = some (.ref g :: rest) := by
  unfold eqVh at h
  split at h
  · rw [← of_decide_eq_true h]
    exact ⟨_, rfl⟩
  · cases h
theorem propB_ok {K : PySem.W.Frag} {x m : Str} (h : propB K x m = true) : PropOf K (ga K x) m (ma K (ga K x) m) (recA K x m "property") := by
  obtain ⟨h1, h⟩ := ba h
  obtain ⟨h2, h⟩ := ba h
  obtain ⟨h3, h4⟩ := ba h
  exact ⟨eqO_ok h1, eqO_ok h2, of_decide_eq_true h3, eqVh_ok h4⟩
end Pv
namespace Pv
open PySem PySem.Spec PyProof.Rows L2 He
theorem obsZ_eq {as : List Addr} {fa : List Fa} {fn : List DefD} {ts : List Tab} {tf : List Defn} {ex : PySem.W.Frag → Bool} {fm : List FarD} {g : Addr → Option Obj} {s : Shared} (h : ∀ a, g a = s.heap.get? a) : obsZ as fa fn ts tf ex fm g = (hookZ as fa fn ts tf ex fm).obs s := by
  have e : g = s.heap.get? := funext h
  rw [e] <;> rfl
end Pv
namespace Pv
open PySem PySem.Spec PyProof.Rows L2
/-- o[i], o2[i2] = a pair -/
def sPut2 (fo fi fo2 fi2 fe : Env → Store → Out D) : SemS := fun ρ S => bnd (fe ρ S) fun d S1 => match d with
  | .tup [a, b] => bnd (fo ρ S1) fun x S2 => bnd (fi ρ S2) fun i S3 => (match oPut x i a S3 with
    | some S4 => bnd (fo2 ρ S4) fun x2 S5 => bnd (fi2 ρ S5) fun i2 S6 => (match oPut x2 i2 b S6 with
      | some S7 => ret (.nx ρ) S7
      | none => none)
    | none => none)
  | _ => none
end Pv
namespace Pv
open PySem PySem.Spec PyProof.Rows L2 CwR
def eRepl (y z : Str) (f : Env → Store → Out D) (ρ : Env) (S : Store) : Out D := bnd (f ρ S) fun d S1 => match d with
  | .str x => guard' (decide (x.length + (x.length + 1) * z.length ≤ 16777216)) (ret (.str (Txt.replace x y z)) S1)
  | _ => none
end Pv
namespace Pv
open PySem PySem.Spec PyProof.Rows L2 PySem.Calls
def eCallMb (F : Fn) (n m : Nat) (dd : List D) (fs fk : Env → Store → Out (List D)) (ρ : Env) (S : Store) : Out D := bnd (fs ρ S) fun ds S1 => bnd (fk ρ S1) fun es S2 => guard' (ds.length == n && es.length == m) (F (ds ++ dd ++ es) S2)
end Pv
namespace Pv
open PySem PySem.Spec PyProof.Rows L2
def oExt (x : D) (ds : List D) (S : Store) : Out D := match x, ds with
  | .cell i, [d] => (match S[i]?, asM S d with
    | some (.lst xs), some zs => guard' (decide (xs.length + zs.length ≤ line)) (ret .non (S.set i (.lst (xs ++ zs))))
    | _, _ => none)
  | _, _ => none
def eExt (f : Env → Store → Out D) (fs : Env → Store → Out (List D)) (ρ : Env) (S : Store) : Out D := bnd (f ρ S) fun x S1 => guard' (isList S1 x) (bnd (fs ρ S1) fun ds S2 => oExt x ds S2)
/-- the second link and the third -/
def chJ (o' o'' : D → D → Store → Out D) (fd fe : Env → Store → Out D) (ρ : Env) (y : D) (w : D) (S : Store) : Out D := match w with
  | .bl true => bnd (fd ρ S) fun z S4 => bnd (o' y z S4) fun d S5 => chK o'' fe ρ z d S5
  | .bl false => ret (.bl false) S
  | _ => none
def eChain3 (o o' o'' : D → D → Store → Out D) (fa fb fd fe : Env → Store → Out D) (ρ : Env) (S : Store) : Out D :=
  bnd (fa ρ S) fun x S1 => bnd (fb ρ S1) fun y S2 => bnd (o x y S2) fun d S3 => chJ o' o'' fd fe ρ y d S3
end Pv
namespace Pv
open PySem PySem.Spec PyProof.Rows L2 PySem.Calls
theorem mem_lookK {a : Addr} {o : Obj} : ∀ {K : PySem.W.Frag}, K.lookup a = some o → (a, o) ∈ K
  | (b, u) :: K, h => by
    simp only [List.lookup] at h
    split at h
    · rename_i e
      cases h
      rw [eq_of_beq e]
      exact List.mem_cons_self ..
    · exact List.mem_cons_of_mem _ (mem_lookK h)
theorem clsOneB_ok {K : PySem.W.Frag} {x : Str} {C : Addr} (h : clsOneB K x C = true) : nameK K C = some x ∧ ∀ C', nameK K C' = some x → C' = C := by
  unfold clsOneB at h
  rw [Bool.and_eq_true, decide_eq_true_eq, List.all_eq_true] at h
  refine ⟨h.1, fun C' e => ?_⟩
  have hl : ∃ o, K.lookup C' = some o := by
    unfold nameK at e
    cases q : K.lookup C' with
    | none => rw [q] at e; cases e
    | some o => exact ⟨o, rfl⟩
  obtain ⟨o, hl⟩ := hl
  have := h.2 (C', o) (mem_lookK hl)
  simp only [e, decide_true, Bool.not_true, Bool.false_or, decide_eq_true_eq] at this
  exact this
def eObj (x : Str) (ks : List Str) (F : Fn) (fs : Env → Store → Out (List D)) (ρ : Env) (S : Store) : Out D := bnd (fs ρ S) fun ds S1 => match ds with
  | [a, b, c] => bnd (F [.tup [a, b, c]] S1) fun _ S2 => ret (.ob x ks [a, b, c]) S2
  | _ => none
def eGet3 (x n1 n2 n3 : Str) (f : Env → Store → Out D) (ρ : Env) (S : Store) : Out D := bnd (f ρ S) fun d S1 => match d with
  | .ob c ks [a, b, e] => guard' (decide (c = x) && decide (ks = [n1, n2, n3])) (ret (.tup [a, b, e]) S1)
  | _ => none
def eGet1 (x n : Str) (f : Env → Store → Out D) (ρ : Env) (S : Store) : Out D := bnd (f ρ S) fun d S1 => match d with
  | .ob c ks ds => (match (ks.zip ds).lookup n with
    | some a => guard' (decide (c = x)) (ret a S1)
    | none => none)
  | _ => none
theorem zip_lookO {K : PySem.W.Frag} {R : RT} {n : Nat} {φ : Nat → Addr} {H : Hp} {x : Str} {a : D} : ∀ {fs : List (Str × V)} {ds : List D}, Rps K R n φ H (fs.map (·.2)) ds → ((fs.map (·.1)).zip ds).lookup x = some a → ∃ v, fs.lookup x = some v ∧ Rp K R n φ H v a
  | [], _, _, h => by simp at h
  | (g, v) :: fs, [], r, h => by simp at h
  | (g, v) :: fs, d :: ds, r, h => by
    simp only [List.map_cons] at r h
    cases r with
    | cons r1 r2 =>
      simp only [List.zip_cons_cons, List.lookup] at h ⊢
      cases e : x == g with
      | true =>
        rw [e] at h
        cases h
        exact ⟨v, rfl, r1⟩
      | false =>
        rw [e] at h
        obtain ⟨u, h1, h2⟩ := zip_lookO r2 h
        exact ⟨u, h1, h2⟩
section
variable {X : Cx} {c : Ct} {k k2 : Nat} {x fm n n1 n2 n3 : Str} {pos : Pos} {e : Expr} {f : Env → Store → Out D}
theorem q_fldO (G : FldC X.K x n) (B : Bd X c k2) (he : PE X e (mE c f)) (hab : attributeBase e n X.env (eval e X.env) = eval e X.env := by rfl) : PE X (.Attribute e n pos) (mE c (eGet1 x n f)) := by
  obtain ⟨C0, hC, un, na⟩ := G.ex
  refine pe_weak (pe_fld he hab) fun σ H Q ⟨φ, S, ρ, z, hg, hr, hf, hp⟩ => ?_
  refine Wp.fst (rel := RV c) hg hr hf hp fun d S1 v φ1 H1 s1 g1 e1 r1 hf1 hp1 => ?_
  split at hf1
  · rename_i cn ks ds
    split at hf1
    · rename_i a ea
      obtain ⟨hb, hf1⟩ := guard_ok hf1
      cases hf1
      rw [decide_eq_true_eq] at hb
      subst hb
      have r1 : Rp c.K c.R S1.length φ1 H1 v (.ob cn ks ds) := r1
      cases r1 with
      | ob e0 h f0 c0 k0 r =>
        rename_i y dx C fs
        have eC : C = C0 := un C (by rw [← B.K]; exact e0.1)
        subst eC
        subst k0
        obtain ⟨u, h1, h2⟩ := zip_lookO r ea
        exact ⟨y, C, dx, fs, u, rfl, h, hC, na, h1, hp1.now g1 h2⟩
    · cases hf1
  · cases hf1
def eMeth (x m : Str) (j : Nat) (F : Fn) (dd : List D) (fo : Env → Store → Out D) (fs : Env → Store → Out (List D)) (ρ : Env) (S : Store) : Out D := bnd (fo ρ S) fun d S1 => match d with
  | .ob c ks es => guard' (decide (c = x) && !ks.contains m) (bnd (fs ρ S1) fun ds S2 => guard' (decide (1 + ds.length + dd.length = j)) (F (.ob c ks es :: (ds ++ dd)) S2))
  | _ => none
end
end Pv
namespace Pv
open PySem PySem.Spec PyProof.Rows L2 PySem.Calls
theorem delA_same {H : Hp} {x : Addr} : delA H x x = none := if_pos rfl
theorem delA_ne {H : Hp} {x a : Addr} (h : a ≠ x) : delA H x a = H a := if_neg h
theorem delA_some {H : Hp} {x a : Addr} {o : HO} (h : delA H x a = some o) : a ≠ x ∧ H a = some o := by
  by_cases e : a = x
  · subst e
    rw [delA_same] at h
    cases h
  · rw [delA_ne e] at h
    exact ⟨e, h⟩
theorem delA_upd {H : Hp} {x : Addr} {o : HO} : delA (upd H x o) x = delA H x := by
  funext a
  by_cases e : a = x
  · subst e
    rw [delA_same, delA_same]
  · rw [delA_ne e, delA_ne e, upd_ne e]
theorem Step.delA {n n' : Nat} {φ φ' : Nat → Addr} {H H' : Hp} {x : Addr} {o : HO} (s : Step n φ H n' φ' H') (hx : H x = some o) (ht : ∀ ps, o ≠ .tbl ps) (hc : ∀ i, i < n → x ≠ φ i) : Step n φ (delA H x) n' φ' (delA H' x) := by
  refine ⟨s.le, s.same, fun a u e h1 h2 => ?_, fun a u e => ?_, fun i h1 h2 => ?_, fun a xs e => ?_, fun a u v e => ?_⟩
  · obtain ⟨ne, e⟩ := delA_some e
    rw [delA_ne ne]
    exact s.keep a u e h1 h2
  · obtain ⟨ne, e⟩ := delA_some e
    rw [delA_ne ne]
    exact s.dom a u e
  · have := s.fresh i h1 h2
    unfold Pv.delA
    split
    · rfl
    · exact this
  · obtain ⟨ne, e⟩ := delA_some e
    rw [delA_ne ne]
    exact s.tups a xs e
  · obtain ⟨ne, e⟩ := delA_some e
    rw [delA_ne ne]
    exact s.frzs a u v e
section
variable {K : PySem.W.Frag} {R : RT} {n : Nat} {φ : Nat → Addr} {H : Hp} {A : Addr} {o : HO} {C dx : Addr} {fs : List (Str × V)}
theorem Good.putR {S : Store} (hR : R A) (hA : H A = some (.ins C dx fs)) (g : Good K R φ H S) {C' dx' : Addr} {fs' : List (Str × V)} : Good K R φ (upd H A (.ins C' dx' fs')) S := by
  refine ⟨fun i c e => ?_, g.inj, fun a h => ?_, g.cof, g.tab.put hA (fun _ z => nomatch z) ins_code (fun _ z => nomatch z)⟩
  · have q := g.at_ i c e
    cases c with
    | lst ds =>
      obtain ⟨xs, e1, r⟩ := q
      exact ⟨xs, by rw [upd_ne (fun z => by rw [z, hA] at e1; cases e1)]; exact e1, r.putR hR hA⟩
    | dct kvs =>
      obtain ⟨ps, e1, e2, r⟩ := q
      exact ⟨ps, by rw [upd_ne (fun z => by rw [z, hA] at e1; cases e1)]; exact e1, e2, r.putR hR hA⟩
    | dn kvs =>
      obtain ⟨ps, vs, e1, e2, e3, r, e4⟩ := q
      refine ⟨ps, vs, ?_, e2, e3, r.putR hR hA, fun p hp => ⟨?_, (e4 p hp).2⟩⟩
      · have ne : φ i ≠ A := fun z => by
          rw [z, hA] at e1
          exact nest_ins (Option.some.inj e1)
        rw [upd_ne ne]
        exact e1
      · exact (e4 p hp).1.keep fun a xs h => sqT_upd (fun xs z => by rw [hA] at z; cases z) (fun ob u z => by rw [hA] at z; cases z) h
  · by_cases z : a = A
    · subst z
      exact ⟨_, upd_same⟩
    · rw [upd_ne z]
      exact g.off a h
theorem Good.less {S : Store} (hA : H A = some (.ins C dx [])) (hc : ∀ i, i < S.length → A ≠ φ i) (g : Good K R φ H S) : Good K (R.and A) φ H S := by
  refine ⟨fun i c e => ?_, g.inj, fun a h => h.elim (g.off a) fun z => by subst z; exact ⟨_, hA⟩, fun i hi q => q.elim (g.cof i hi) fun z => hc i hi z.symm, g.tab⟩
  have q := g.at_ i c e
  cases c with
  | lst ds => obtain ⟨xs, e1, r⟩ := q; exact ⟨xs, e1, r.less hA⟩
  | dct kvs => obtain ⟨ps, e1, e2, r⟩ := q; exact ⟨ps, e1, e2, r.less hA⟩
  | dn kvs => obtain ⟨ps, vs, e1, e2, e3, r, e4⟩ := q; exact ⟨ps, vs, e1, e2, e3, r.less hA, e4⟩
theorem Good.more {S : Store} (g : Good K (R.and A) φ H S) : Good K R φ H S := by
  refine ⟨fun i c e => ?_, g.inj, fun a h => g.off a (.inl h), fun i hi q => g.cof i hi (.inl q), g.tab⟩
  have q := g.at_ i c e
  cases c with
  | lst ds => obtain ⟨xs, e1, r⟩ := q; exact ⟨xs, e1, r.more⟩
  | dct kvs => obtain ⟨ps, e1, e2, r⟩ := q; exact ⟨ps, e1, e2, r.more⟩
  | dn kvs => obtain ⟨ps, vs, e1, e2, e3, r, e4⟩ := q; exact ⟨ps, vs, e1, e2, e3, r.more, e4⟩
theorem ExR.more {x : Xd} {c : Value} {o : Option Addr} {cls : CL} (h : ExR K (R.and A) n φ H x c o cls) : ExR K R n φ H x c o cls := by
  obtain ⟨C, d, fs, e1, e2, e3, e4, e5, q⟩ := h
  exact ⟨C, d, fs, e1, e2, e3, e4, e5, q.more⟩
end
abbrev Ini := Env → Store → List (Str × D) → Out (List (Str × D))
def exF {α : Type} (o : Out Fl) : Out α := match o with
  | some (.ex x, S) => some (.ex x, S)
  | _ => none
def nEnd : Ini := fun _ S fs => ret fs S
def nDrop (fe : Env → Store → Out D) (g : Ini) : Ini := fun ρ S fs => bnd (fe ρ S) fun _ S1 => g ρ S1 fs
def nIf (t : Env → Store → Out Bool) (f : SemS) (g : Ini) : Ini := fun ρ S fs => bnd (t ρ S) fun b S1 => if b then exF (f ρ S1) else g ρ S1 fs
def nFld (n : Str) (fe : Env → Store → Out D) (g : Ini) : Ini := fun ρ S fs => bnd (fe ρ S) fun d S1 => guard' (!(fs.map (·.1)).contains n && decide (fs.length < 900)) (g ρ S1 (fs ++ [(n, d)]))
def mN (c : Ct) (x C dx : Addr) (g : Ini) : TS := fun d σ H => ∃ φ S ρ fs vs r, Good c.K c.R φ H S ∧ EnvR c.K c.R S.length φ H ρ σ ∧ σ[0]? = some (some (.ref x)) ∧ H x = some (.ins C dx vs) ∧ (∀ i, i < S.length → x ≠ φ i) ∧ c.R x ∧
  vs.map (·.1) = fs.map (·.1) ∧ Rps c.K c.R S.length φ H (vs.map (·.2)) (fs.map (·.2)) ∧ g ρ S fs = some r ∧ PostN c x C dx φ S H (fun H' => ∀ σ', d.nx σ' H') r
theorem PostN.from {c : Ct} {x C dx : Addr} {φ φ1 : Nat → Addr} {S S1 : Store} {H H1 : Hp} {N : Hp → Prop} {r : Rs (List (Str × D)) × Store} (s : Step S.length φ (delA H x) S1.length φ1 (delA H1 x)) (p : PostN c x C dx φ S H N r) : PostN c x C dx φ1 S1 H1 N r := by
  obtain ⟨r, S'⟩ := r
  cases r with
  | ok a => exact fun φ' H' vs t => p φ' H' vs (s.trans t)
  | ex e => exact fun cl o φ' H' t => p cl o φ' H' (s.trans t)
/-- the first part of what is reckoned in an __init__ -/
theorem mN_fst {α β : Type} {rel : RelT β α} {c : Ct} {x C dx : Addr} {φ : Nat → Addr} {S : Store} {ρ : Env} {σ : L2.St} {H : Hp} {N : Hp → Prop} {vs : List (Str × V)} {f : Env → Store → Out α} {k : α → Store → Out (List (Str × D))} {Rr : β → Hp → Prop} {r : Rs (List (Str × D)) × Store}
    (hg : Good c.K c.R φ H S) (he : EnvR c.K c.R S.length φ H ρ σ) (hx : H x = some (.ins C dx vs)) (hc : ∀ i, i < S.length → x ≠ φ i) (hf : bnd (f ρ S) k = some r) (hp : PostN c x C dx φ S H N r)
    (next : ∀ a S1 b φ1 H1, Step S.length φ H S1.length φ1 H1 → Good c.K c.R φ1 H1 S1 → EnvR c.K c.R S1.length φ1 H1 ρ σ → H1 x = some (.ins C dx vs) → (∀ i, i < S1.length → x ≠ φ1 i) → rel S1.length φ1 H1 b a → k a S1 = some r → PostN c x C dx φ1 S1 H1 N r → Rr b H1) : Wp c rel f σ H Rr := by
  have tb : ∀ ps, HO.ins C dx vs ≠ .tbl ps := fun _ z => nomatch z
  cases e : f ρ S with
  | none => rw [e] at hf; cases hf
  | some q =>
    obtain ⟨q, S1⟩ := q
    rw [e] at hf
    refine ⟨φ, S, ρ, _, hg, he, e, ?_⟩
    cases q with
    | ok a => exact fun b φ' H' s g' rv => next a S1 b φ' H' s g' (he.step s) (s.keep x _ hx tb hc) (s.apart hx hc) rv hf (hp.from (s.delA hx tb hc))
    | ex y =>
      have hf : some ((Rs.ex y : Rs (List (Str × D))), S1) = some r := hf
      cases hf
      exact fun cl o φ' H' s g' er => hp cl o φ' H' (s.delA hx tb hc) g' er
section
variable {X : Cx} {c : Ct} {x C dx : Addr} {st : Stmt} {rest : List Stmt} {e o : Expr} {g : Ini} {fe : Env → Store → Out D} {pos pos' : Pos} {n : Str}
theorem n_end : PSs X [] (mN c x C dx nEnd) := by
  refine pss_weak pss_nil fun d σ H ⟨φ, S, ρ, fs, vs, r, hg, he, h0, hx, hc, hR, hk, hv, hf, hp⟩ => ?_
  cases hf
  exact hp φ H vs Step.refl hg hx hc hk hv σ
theorem n_if {cnd : Expr} {a : List Stmt} {t : Env → Store → Out Bool} {f : SemS} (ht : PT X cnd (mB c t)) (ha : PSs X a (mT c f)) (hr : PSs X rest (mN c x C dx g)) : PSs X (.If cnd a [] pos :: rest) (mN c x C dx (nIf t f g)) := by
  refine pss_weak (pss_cons (ps_if ht ha pss_nil) hr) fun d σ H ⟨φ, S, ρ, fs, vs, r, hg, he, h0, hx, hc, hR, hk, hv, hf, hp⟩ => ?_
  refine mN_fst (rel := RB) hg he hx hc hf hp fun b S1 v φ1 H1 s1 g1 e1 x1 c1 r1 hf1 hp1 => ?_
  cases r1
  have tb : ∀ ps, HO.ins C dx vs ≠ .tbl ps := fun _ z => nomatch z
  cases b with
  | false => exact iteF ⟨φ1, S1, ρ, fs, vs, r, g1, e1, h0, x1, c1, hR, hk, hv.step s1, hf1, hp1⟩
  | true =>
    refine iteT ?_
    have hf1 : exF (f ρ S1) = some r := hf1
    unfold exF at hf1
    split at hf1
    · rename_i y S2 ey
      cases hf1
      exact ⟨φ1, S1, ρ, _, g1, e1, ey, fun cl o φ' H' s g' er => hp1 cl o φ' H' (s.delA x1 tb c1) g' er⟩
    · cases hf1
theorem putF_new {f : Str} {v : V} : ∀ {fs : List (Str × V)}, (fs.map (·.1)).contains f = false → putF f v fs = fs ++ [(f, v)]
  | [], _ => rfl
  | (g, u) :: fs, h => by
    simp only [List.map_cons, List.contains_cons, Bool.or_eq_false_iff] at h
    have : ¬ g = f := fun z => by
      have := h.1
      rw [z] at this
      simp at this
    unfold putF
    first
      | rw [if_neg this, putF_new h.2]
      | (rw [if_neg (fun z => this z.symm), putF_new h.2])
    rfl
theorem n_fld (ho : PE X o (tVar 0)) (hv : PE X e (mE c fe)) (hr : PSs X rest (mN c x C dx g)) (hK : c.K = X.K) (hC : Cls X.K C) (hn : NoAttr X.K C n) (hs : swapsWith e (some (.Attribute o n pos')) pos.line X.env = pure false := by rfl) :
    PSs X (.Assign [.Attribute o n pos'] e pos :: rest) (mN c x C dx (nFld n fe g)) := by
  refine pss_weak (pss_cons (ps_fld ho hv hs) hr) fun d σ H ⟨φ, S, ρ, fs, vs, r, hg, he, h0, hx, hc, hR, hk, hv, hf, hp⟩ => ?_
  refine mN_fst (rel := RV c) hg he hx hc hf hp fun a S1 v φ1 H1 s1 g1 e1 x1 c1 r1 hf1 hp1 => ?_
  obtain ⟨hb, hf1⟩ := guard_ok hf1
  rw [Bool.and_eq_true, Bool.not_eq_true', decide_eq_true_eq] at hb
  obtain ⟨hb1, hb2⟩ := hb
  have hl : vs.length = fs.length := by have := congrArg List.length hk; simpa using this
  refine ⟨.ref x, h0, x, C, dx, vs, rfl, x1, hC, hn, by omega, ?_⟩
  rw [putF_new (by rw [hk]; exact hb1)]
  refine ⟨φ1, S1, ρ, fs ++ [(n, a)], vs ++ [(n, v)], r, g1.putR hR x1, ⟨e1.len, fun i d' h => ?_⟩, h0, upd_same, c1, hR, by simp [hk], ?_, hf1, hp1.from ?_⟩
  · obtain ⟨u, h1, h2⟩ := e1.at_ i d' h
    exact ⟨u, h1, h2.putR hR x1⟩
  · rw [List.map_append, List.map_append]
    exact (Rps.putR hR x1 (hv.step s1)).append (.cons (Rp.putR hR x1 r1) .nil)
  · rw [delA_upd]
    exact Step.refl
end
/-- an __init__ as our machine runs it -/
def iniF (nl : Nat) (g : Ini) : List D → Store → Out (List (Str × D)) := fun ds S => g (none :: (ds.map some ++ List.replicate (nl - 1 - ds.length) none)) S []
theorem iniN_fn {P : Program} {w : World} {K : PySem.W.Frag} {mg : Str → Option Value} {base : Heap} {cls : CL} {k : Nat} {f C : Addr} {fd : FuncData} {x qual p0 : Str} {params : Arguments} {body : List Stmt} {scope : Scope} {dvs : List V} {kws : List (Str × V)} {N ps : List Str} {g : Ini}
    (D : FunD K x qual params body scope dvs kws f fd) (S : FnScope (p0 :: N) (p0 :: ps) scope)
    (hbody : ∀ (cdv : Value) (A : Around) (outer : List PySem.Env) (s : Shared) (H : Hp) (R : RT) (E : XK) (y dy : Addr), RtOk R cls.T → Room k (A.deeper (envOfC qual scope s.heap.objs.size f cdv)) → Gds k A →
      PSs (cxOf (L2.CX P w) P w K mg base (p0 :: N) qual scope f cdv A outer s H E) body (mN ⟨K, R, cls, E⟩ y C dy g)) : FnG P w K mg base (L2.CX P w) (k + 1) f fd (p0 :: ps) (spN K cls C ps.length (iniF (N.length + 1) g)) := by
  refine FnG.of D S (fun vs H Q E ⟨_, _, ws, _, _, _, ds, _, e, _, _, _, _, r, hl, _⟩ => by rw [e, List.length_cons, List.length_cons, r.length, hl]) fun cdv _ A outer s H vs Q E room gd ⟨y, dy, ws, R, φ, S0, ds, z, ev, hx, hne, hT, gg, rp, hl, hz, hp⟩ => ?_
  subst ev
  have hT' : RtOk (R.and y) cls.T := ⟨hT.T, hT.er⟩
  refine ⟨_, hbody cdv A outer s H (R.and y) E y dy hT' room gd, φ, S0, none :: (ds.map some ++ List.replicate (N.length - ds.length) none), [], [], z, gg.less hx hne, ?_, ?_, hx, hne, .inr rfl, rfl, .nil, ?_, ?_⟩
  · have e := start_rep (N := N) (rp.less hx)
    refine ⟨?_, fun i d h => ?_⟩
    · have := e.len
      simp only [List.length_cons, L2.start] at this ⊢
      simp only [List.length_append, List.length_map, List.length_replicate] at this ⊢
      simp only [List.length_cons, List.length_map, List.length_replicate, List.map_cons] 
      omega
    · cases i with
      | zero => cases h
      | succ i =>
        obtain ⟨v, h1, h2⟩ := e.at_ i d (by simpa using h)
        refine ⟨v, ?_, h2⟩
        unfold L2.start at h1 ⊢
        simpa using h1
  · unfold L2.start
    simp
  · have : N.length + 1 - 1 - ds.length = N.length - ds.length := by omega
    unfold iniF at hz
    rw [this] at hz
    exact hz
  · obtain ⟨r, S'⟩ := z
    cases r with
    | ok a => exact fun φ' H' vs t g' h1 h2 h3 h4 σ' => hp φ' H' vs t g' h1 h2 h3 h4
    | ex e => exact hp
def obK (x : Str) (fs : List (Str × D)) (S : Store) : Out D := guard' (!fs.isEmpty) (ret (.ob x (fs.map (·.1)) (fs.map (·.2))) S)
def eNew (x : Str) (m : Nat) (G : List D → Store → Out (List (Str × D))) (dd : List D) (fs : Env → Store → Out (List D)) (ρ : Env) (S : Store) : Out D := bnd (fs ρ S) fun ds S1 => guard' ((ds ++ dd).length == m) (bnd (G (ds ++ dd) S1) (obK x))
section
variable {X : Cx} {c : Ct} {k k2 m : Nat} {G : List D → Store → Out (List (Str × D))} {x : Str} {dd : List D} {p pos : Pos} {e : Expr} {es : List Expr} {fs : Env → Store → Out (List D)}
theorem new_mono {C : Addr} {dvs : List V} {B : Bd X c k2} (nm : nameK X.K C = some x) (hpu : Pure' X.K dvs dd) {ds : List D} {vs : List V} {S : Store} {φ : Nat → Addr} {H : Hp} {Q : VK} {z : Rs D × Store} (g1 : Good c.K c.R φ H S) (r1 : Rps c.K c.R S.length φ H vs ds)
    (hf : guard' ((ds ++ dd).length == m) (bnd (G (ds ++ dd) S) (obK x)) = some z) (hp : Post c (RV c) φ S H Q z) :
    ∀ y dx, H y = none → H dx = none → dx ≠ y → spN X.K c.cls C m G (.ref y :: (vs ++ dvs)) (upd (upd H dx (.own y)) y (.ins C dx [])) (fun v H2 => v = .non ∧ Q (.ref y) H2) c.E := by
  intro y dx hy hdx hne
  obtain ⟨hm, hf⟩ := guard_ok hf
  have hm : (ds ++ dd).length = m := by simpa using hm
  have hy' : upd H dx (.own y) y = none := by rw [upd_ne (Ne.symm hne)]; exact hy
  have st0 : Step S.length φ H S.length φ (upd H dx (.own y)) := Step.new hdx
  have st1 : Step S.length φ H S.length φ (upd (upd H dx (.own y)) y (.ins C dx [])) := st0.trans (Step.new hy')
  have g2 : Good c.K c.R φ (upd (upd H dx (.own y)) y (.ins C dx [])) S := (g1.step_new hdx).step_new hy'
  have hoff : ∀ i, i < S.length → y ≠ φ i := fun i hi z => by
    obtain ⟨u, hu, _⟩ := g1.there hi
    rw [← z, hy] at hu
    cases hu
  have hR : ¬ c.R y := fun h => by
    obtain ⟨u, hu⟩ := g1.off y h
    rw [hy] at hu
    cases hu
  have hdel : delA (upd (upd H dx (.own y)) y (.ins C dx [])) y = upd H dx (.own y) := by
    rw [delA_upd]
    funext a
    by_cases e : a = y
    · subst e
      rw [delA_same, hy']
    · rw [delA_ne e]
  have back : ∀ {n' φ' H' o}, H' y = some o → Step S.length φ (upd H dx (.own y)) n' φ' (delA H' y) → Step S.length φ H n' φ' H' := fun {n' φ' H' o} h st => by
    have q := (st0.trans st).putN (A := y) (o := o) hy
    have e : upd (delA H' y) y o = H' := by
      funext a
      by_cases z : a = y
      · subst z
        rw [upd_same, h]
      · rw [upd_ne z, delA_ne z]
    rw [e] at q
    exact q
  cases hz : G (ds ++ dd) S with
  | none => rw [hz] at hf; cases hf
  | some z1 =>
    rw [hz] at hf
    refine ⟨y, dx, vs ++ dvs, c.R, φ, S, ds ++ dd, z1, rfl, upd_same, hoff, B.hT, by rw [← B.K]; exact g2, by rw [← B.K]; exact (r1.step st1).append (by rw [B.K]; exact hpu _ _ _ _), hm, hz, ?_⟩
    obtain ⟨r, S2⟩ := z1
    cases r with
    | ex xx =>
      cases hf
      intro cl o φ' H' st g' er
      rw [hdel] at st
      have g' : Good X.K (c.R.and y) φ' H' S2 := g'
      obtain ⟨o2, ho2⟩ := g'.off y (.inr rfl)
      exact hp cl o φ' H' (back ho2 st) (by rw [B.K]; exact g'.more) (by rw [B.K]; exact ExR.more er)
    | ok fl =>
      have hf : obK x fl S2 = some z := hf
      obtain ⟨hne2, hf⟩ := guard_ok hf
      cases hf
      intro φ' H' ws st g' hx hc hk hv
      rw [hdel] at st
      have g' : Good X.K (c.R.and y) φ' H' S2 := g'
      have hv : Rps X.K (c.R.and y) S2.length φ' H' (ws.map (·.2)) (fl.map (·.2)) := hv
      refine ⟨rfl, hp _ φ' H' (back hx st) (by rw [B.K]; exact g'.more) ?_⟩
      refine .ob ⟨by rw [B.K]; exact nm, fun z => ?_⟩ hx hR hc hk (by rw [B.K]; exact hv.more)
      subst z
      cases fl with
      | nil => cases hne2
      | cons a b => simp at hk
theorem q_new (C : ObjG X.prog X.w X.K X.mg X.base c.cls k x m G dd) (B : Bd X c k2) (args : PA X (e :: es) (mA c fs)) (hk : k + 1 ≤ k2 := by decide) (h150 : k < 150 := by decide) (glob : Gl X x := by rfl) (hdb : (x == ("__debug__" : Str)) = false := by decide)
    (he : starEach (e :: es) X.env = (false, eval e X.env) :: starEach es X.env := by rfl) (hpl : (backTo pos (starEach es X.env)).any (·.1) = false := by rfl) :
    PE X (.Call (.Name x p) (e :: es) [] pos) (mE c (eNew x m G dd fs)) := by
  obtain ⟨C0, fI, fdI, psI, dvs, ds, M, at_, nm, FI, bI, hd, hpu⟩ := C.ex
  refine pe_weak (pe_make (E := c.E) M (FI.ok h150) (B.room.mono hk) glob at_ bI hd B.pass args hdb he hpl) fun σ H Q ⟨φ, S, ρ, z, hg, hr, hf, hp⟩ => ?_
  exact Wp.fst (rel := RL c) hg hr hf hp fun ds S1 vs φ1 H1 s1 g1 e1 r1 hf1 hp1 => new_mono (B := B) nm hpu g1 r1 hf1 hp1
theorem q_new0 (C : ObjG X.prog X.w X.K X.mg X.base c.cls k x m G dd) (B : Bd X c k2) (hk : k + 1 ≤ k2 := by decide) (h150 : k < 150 := by decide) (glob : Gl X x := by rfl) (hdb : (x == ("__debug__" : Str)) = false := by decide) :
    PE X (.Call (.Name x p) [] [] pos) (mE c (eNew x m G dd eNil)) := by
  obtain ⟨C0, fI, fdI, psI, dvs, ds, M, at_, nm, FI, bI, hd, hpu⟩ := C.ex
  refine pe_weak (pe_make0 (E := c.E) M (FI.ok h150) (B.room.mono hk) glob at_ bI hd B.pass hdb) fun σ H Q ⟨φ, S, ρ, z, hg, hr, hf, hp⟩ => ?_
  exact new_mono (B := B) (vs := []) (ds := []) nm hpu hg .nil hf hp
end
end Pv
namespace Pv
open PySem PySem.Spec PyProof.Rows L2 PySem.Calls
def isC (ss : List (Str × Bool)) (S : Store) (d : D) : Option Bool := match d with
  | .ob c _ _ => ss.lookup c
  | d => (match tyD S d with
    | some n => if tysB.contains n then some false else none
    | none => none)
def oIsC (ss : List (Str × Bool)) (d : D) (S : Store) : Out D := match isC ss S d with
  | some b => ret (.bl b) S
  | none => none
theorem mem_lookS {α β : Type} [BEq α] [LawfulBEq α] {a : α} {b : β} : ∀ {l : List (α × β)}, l.lookup a = some b → (a, b) ∈ l
  | (c, d) :: l, h => by
    simp only [List.lookup] at h
    split at h
    · rename_i e
      cases h
      rw [eq_of_beq e]
      exact List.mem_cons_self ..
    · exact List.mem_cons_of_mem _ (mem_lookS h)
section
variable {X : Cx} {c : Ct} {k k2 : Nat} {x : Str} {ss : List (Str × Bool)} {e : Expr} {f : Env → Store → Out D} {p p2 pos : Pos}
theorem q_isC (C : KitC X.K X.mg x ss) (B : Bd X c k2) (hm : X.mg "isinstance" = none) (he : PE X e (mE c f)) (hg : Gl X "isinstance" := by rfl) (hgT : Gl X x := by rfl) (hdb : (x == ("__debug__" : Str)) = false := by decide)
    (hs : starEach (e :: [.Name x p2]) X.env = (false, eval e X.env) :: starEach [.Name x p2] X.env := by rfl) (hpl : (backTo pos (starEach [.Name x p2] X.env)).any (·.1) = false := by rfl) : PE X (.Call (.Name "isinstance" p) [e, .Name x p2] [] pos) (mE c (eUn (oIsC ss) f)) := by
  obtain ⟨C0, hC, hty, hin⟩ := C.ex
  have hT : PE X (.Name x p2) (tC (.ref C0)) := pe_glob hgT hC rfl hdb
  have ha : PA X [e, .Name x p2] (tCons (mE c f) (tCons (tC (.ref C0)) tNil)) := pa_cons he (pa_cons hT pa_nil) (hs := hs)
  refine pe_weak (pe_callB (id := "isinstance") call_isi hg hm PyProof.Rows.boot_isinstance ha (by decide) (by decide) (he := hs) (hpl := hpl)) fun σ H Q ⟨φ, S, ρ, z, hg, hr, hf, hp⟩ => ?_
  refine Wp.fst hg hr hf hp fun d S1 v φ1 H1 s1 g1 e1 r1 hf1 hp1 => ?_
  unfold oIsC at hf1
  split at hf1
  · rename_i b eb
    cases hf1
    have fin : ∀ t, TyX X.K H1 v t → PySem.W.kitOne X.K t (.ref C0) = some b → rIsi X.K [v, .ref C0] H1 Q := fun t h1 h2 => ⟨v, .ref C0, t, .ref C0, b, rfl, .own C0, h1, h2, hp1.now g1 (.bl _)⟩
    show rIsi X.K [v, .ref C0] H1 Q
    unfold isC at eb
    split at eb
    · rename_i cn ks ds
      obtain ⟨C', I, hk⟩ := hin _ (mem_lookS eb)
      have r1 : Rp c.K c.R S1.length φ1 H1 v (.ob cn ks ds) := r1
      cases r1 with
      | ob e0 h f0 c0 k0 r =>
        have eC := I.one _ (by rw [← B.K]; exact e0.1)
        subst eC
        exact fin _ (.base (.ins h I.cl I.ha I.hn I.htk I.hm)) hk
    · split at eb
      · rename_i n en
        split at eb
        · rename_i hn
          cases eb
          refine fin _ (by rw [← B.K]; exact ty_ok g1 r1 en) (hty _ (by simpa using hn))
        · cases eb
      · cases eb
  · cases hf1
end
/-- x op y by the def of x's class -/
def rOwnP (K : PySem.W.Frag) (C : Addr) (sp : Sp) (E : XK) : R2 := fun x y H Q => ∃ a dx fs, x = .ref a ∧ H a = some (.ins C dx fs) ∧ (∃ t, TyX K H y t ∧ PySem.W.notFirst K C t = true) ∧ sp [x, y] H Q E
theorem ty_looks {X : Cx} {pins : List (Addr × Obj)} {σ : L2.St} {H : Hp} {s : Shared} {M : Model} {y : V} {u t : Value} (I : Inv X pins σ H s) (ry : RelV y u) (ty : TyX X.K H y t) : PySem.W.Looks M s.heap (typeOf u) t := by
  obtain ⟨P, Z, p, _⟩ := kit_of I ry ty
  exact Z.ty M _ I.kIn p
theorem op_ownC {X : Cx} {CX : CXT} {n : Nat} {C g : Addr} {sp : Sp} {E : XK} {op : CmpOp} (hop : ∀ a b, compareOp op a b = richCompare op a b) (hs : PySem.W.findIn X.K (.ref C) (cmpInfo op).2.1 = some (some (.ref g))) (hf : PySem.W.isFn X.K (.ref g) = true) (F : FnR X.prog X.w X.K X.mg X.base CX n g sp)
    (hr : Room n X.A) (hx : Passes CX X E) : OpR X (compareOp op) (rOwnP X.K C sp E) := by
  intro pins s σ H x y v u Q I rx ry h
  obtain ⟨a, dx, fs, rfl, ha, ⟨t, ty, hn⟩, q⟩ := h
  cases (show v = Value.ref a from rx)
  obtain ⟨mA, O, _⟩ := ins_get I.hok ha
  obtain ⟨od, J, _⟩ := O.look
  obtain ⟨m, hF⟩ := I.fr
  rw [hop]
  refine PySem.W.cmp_K (op := op) (tb := t) hr.units0 hF I.ok.mod.kin J (ty_looks I ry ty) hn hs hf ?_
  refine wpAny_mono (wpAny_call (run_fnR (us := [.ref a, u]) (vs := [.ref a, y]) F hr hx I (.cons rfl (.cons ry .nil)) q)) (fun w s' z => ?_) fun _ _ x => x
  obtain ⟨z', H', I', rz, qz⟩ := z
  exact SlX.cmpback rz ⟨z', H', I', rz, qz⟩
/-- by our machine: x's class is known; y is of the same class or no object -/
def okY (x : Str) (S : Store) (y : D) : Bool := match y with
  | .ob c _ _ => decide (c = x)
  | y => (match tyD S y with
    | some n => tysB.contains n
    | none => false)
/-- the answer is a truth value -/
def blO (o : Out D) : Out D := match o with
  | some (.ok (.bl b), S) => some (.ok (.bl b), S)
  | some (.ex x, S) => some (.ex x, S)
  | _ => none
theorem notFirst_ty {K : PySem.W.Frag} {C : Addr} : ∀ T ∈ tysB, PySem.W.notFirst K C (.type T) = true := by
  intro T hT
  unfold tysB at hT
  simp only [List.mem_cons, List.not_mem_nil, or_false] at hT
  have key : ∀ T, PySem.W.subIn K (.type T) (.ref C) = some false → PySem.W.notFirst K C (.type T) = true := fun T h => by
    unfold PySem.W.notFirst
    rw [h]
    simp
  rcases hT with rfl | rfl | rfl | rfl | rfl | rfl | rfl <;> exact key _ (by kernel_rfl)
section
variable {X : Cx} {c : Ct} {k k2 : Nat} {x m : Str} {F : Fn}
theorem okY_ok {C : Addr} {S : Store} {φ : Nat → Addr} {H : Hp} {y : V} {b : D} (hK : c.K = X.K) (I : InsK X.K x C) (g : Good c.K c.R φ H S) (r : Rp c.K c.R S.length φ H y b) (h : okY x S b = true) : ∃ t, TyX X.K H y t ∧ PySem.W.notFirst X.K C t = true := by
  unfold okY at h
  split at h
  · rename_i cn ks ds
    have h := of_decide_eq_true h
    subst h
    have r : Rp c.K c.R S.length φ H y (.ob cn ks ds) := r
    cases r with
    | ob e0 h f0 c0 k0 r =>
      have eC := I.one _ (by rw [← hK]; exact e0.1)
      subst eC
      exact ⟨_, .base (.ins h I.cl I.ha I.hn I.htk I.hm), by simp [PySem.W.notFirst]⟩
  · split at h
    · rename_i n en
      exact ⟨_, by rw [← hK]; exact ty_ok g r en, notFirst_ty _ (by simpa using h)⟩
    · cases h
end
theorem okY_ty {X : Cx} {c : Ct} {x : Str} {C : Addr} {S : Store} {φ : Nat → Addr} {H : Hp} {y : V} {b : D} (hK : c.K = X.K) (I : InsK X.K x C) (g : Good c.K c.R φ H S) (r : Rp c.K c.R S.length φ H y b) (h : okY x S b = true) : ∃ t, TyX X.K H y t ∧ (t = .ref C ∨ ∃ T ∈ tysB, t = .type T) := by
  unfold okY at h
  split at h
  · rename_i cn ks ds
    have h := of_decide_eq_true h
    subst h
    have r : Rp c.K c.R S.length φ H y (.ob cn ks ds) := r
    cases r with
    | ob e0 h f0 c0 k0 r =>
      have eC := I.one _ (by rw [← hK]; exact e0.1)
      subst eC
      exact ⟨_, .base (.ins h I.cl I.ha I.hn I.htk I.hm), .inl rfl⟩
  · split at h
    · rename_i n en
      exact ⟨_, by rw [← hK]; exact ty_ok g r en, .inr ⟨n, by simpa using h, rfl⟩⟩
    · cases h
/-- the class's own facts beside a base rule -/
theorem opp_cmp {X : Cx} {c : Ct} {k k2 : Nat} {x m : Str} {F : Fn} {op : CmpOp} {o : D → D → Store → Out D} (M : OpF X.prog X.w X.K X.mg X.base c.cls k x m 2 F) (B : Bd X c k2) (P0 : OpP X c (compareOp op) o) (hop : ∀ a b, compareOp op a b = richCompare op a b := by exact fun _ _ => rfl) (hmm : (cmpInfo op).2.1 = m := by rfl) (hk : k ≤ k2 := by decide) (h150 : k < 150 := by decide) :
    OpP X c (compareOp op) (fun a b S => match a with
      | .ob cn ks ds => blO (guard' (decide (cn = x) && okY x S b) (F [.ob cn ks ds, b] S))
      | a => o a b S) := by
  obtain ⟨C, fM, fd, ps, I, hM, G, hb, _⟩ := M.ex
  obtain ⟨r0, h1, h2⟩ := P0.ex
  subst hmm
  refine ⟨_, OpR.or (op_ownC hop hM.at_ hM.fn ((FnG.ok G h150).raw hb .nil) (B.room.mono hk) B.pass) h1, ?_⟩
  intro φ S H Q u v a b z g rx ry h hp
  dsimp only at h
  split at h
  · rename_i cn ks ds
    have h9 : ∃ z', guard' (decide (cn = x) && okY x S b) (F [.ob cn ks ds, b] S) = some z' ∧ z' = z := by
      unfold blO at h
      split at h
      · rename_i e
        cases h
        exact ⟨_, e, rfl⟩
      · rename_i e
        cases h
        exact ⟨_, e, rfl⟩
      · cases h
    obtain ⟨z', h9, rfl⟩ := h9
    obtain ⟨hb1, h10⟩ := guard_ok h9
    rw [Bool.and_eq_true, decide_eq_true_eq] at hb1
    obtain ⟨e9, hb1⟩ := hb1
    subst e9
    have rx : Rp c.K c.R S.length φ H u (.ob cn ks ds) := rx
    have r0 := rx
    cases rx with
    | ob e0 hi f0 c0 k0 r =>
      have eC := I.one _ (by rw [← B.K]; exact e0.1)
      subst eC
      refine .inl ⟨_, _, _, rfl, hi, okY_ok B.K I g ry hb1, c.R, φ, S, _, _, B.hT, by rw [← B.K]; exact g, by rw [← B.K]; exact .cons r0 (.cons ry .nil), rfl, h10, ?_⟩
      obtain ⟨cK, cR, ccls, cE⟩ := c
      have e : cK = X.K := B.K
      subst e
      exact hp
  · exact .inr (h2 φ S H Q u v a b z g rx ry h hp)
end Pv
namespace PySem.W
open PySem PySem.Calls PyProof.Rows
section
variable {prog : Program} {w : World} {A : Around} {E : Value → Shared → Prop} {s : Shared} {K : Frag} {x C L f g : Addr} {h₀ : Heap} {m : Str → Option Value} {ox : Obj} {od : Option Obj} {T : String}
def tyFills (fo ro : Option Value) : Bool := (fo.isSome && !isSeqSlot fo) || (ro.isSome && !isSeqSlot ro)
theorem apart_ty {C : Addr} {T : String} : (Value.ref C == Value.type T) = false ∧ (Value.type T == Value.ref C) = false := by
  constructor <;> exact Bool.eq_false_iff.mpr fun q => by cases beq_iff_eq.mp q
/-- an instance on the left, a value of a built-in type on the right -/
theorem ob_bin {op : Operator} {b : Value} {fo ro rc : Option Value} {Q : Value → Shared → Prop} (fr : Fr h₀ L s.heap m) (k0 : K.In h₀) (inst : InstAt s.heap x ox C od) (right : Looks (model prog w) s.heap (typeOf b) (.type T)) (c : ClSay K C op.info.2 f rc) (fn : isFn K (.ref f) = true)
    (ty : TySay K T op.info.2 fo ro) (low : subIn K (.type T) (.ref C) = some false) (run : wpAny (model prog w) A (call (.ref f) [.ref x, b]) (CmpBack Q) E s) : wpAny (model prog w) A (binaryOp op (.ref x) b) Q E s := by
  have kin := k0.keeps fr.keep
  obtain ⟨cd, rest, hcd, hm⟩ := ksp_first c.one
  rcases oi : op.info with ⟨sym, o2⟩
  obtain ⟨c1, c2, c3, c4⟩ := c
  obtain ⟨t1, t2⟩ := ty
  rw [oi] at c1 c2 t1 t2
  dsimp only at c1 c2 t1 t2
  have try_ := ksp_try kin inst c1 fn run
  obtain ⟨hp, gl, di, tk, os⟩ := s
  have u1 := inst.type (M := model prog w)
  have u2 := fills_K (M := model prog w) kin hcd hm c1
  have u3 := ksp_fillsT (M := model prog w) kin t1 t2
  have u4 := looks_subIn (M := model prog w) kin low
  have u5 := ksp_inPy (M := model prog w) kin c1 c2 c3
  have u6 : Looks (model prog w) hp (numberSlotInPython (.type T) o2) false := Looks.of_pure rfl
  have u7 : Looks (model prog w) hp (typeLookup (.type T) (dunderR o2)) ro := looks_findIn kin t2
  simp only [binaryOp, oi]
  refine wpAny_holding (wpAny_bind ?_)
  unfold binaryOp1
  refine wpAny_bind (u1.at (wpAny_bind (right.at (wpAny_bind (u2.at ?_)))))
  simp only [apart_ty.1, Bool.false_eq_true, if_false]
  generalize ((fo.isSome && !isSeqSlot fo) || (ro.isSome && !isSeqSlot ro)) = r at u3
  cases r <;>
  · ksp_lk
    refine wpAny_mono try_ (fun z s' hz => ?_) fun _ _ e => e
    obtain ⟨v, rfl, hq⟩ := hz
    ksp_lk
    exact hq
/-- a value of a built-in type on the left that knows nothing of the operator, an instance on the right -/
theorem bin_ob {op : Operator} {b : Value} {fo ro : Option Value} {Q : Value → Shared → Prop} (fr : Fr h₀ L s.heap m) (k0 : K.In h₀) (inst : InstAt s.heap x ox C od) (left : Looks (model prog w) s.heap (typeOf b) (.type T)) (c : ClSay K C op.info.2 g (some (.ref f))) (fn : isFn K (.ref f) = true)
    (ty : TySay K T op.info.2 fo ro) (no : tyFills fo ro = false) (run : wpAny (model prog w) A (call (.ref f) [.ref x, b]) (CmpBack Q) E s) : wpAny (model prog w) A (binaryOp op b (.ref x)) Q E s := by
  have kin := k0.keeps fr.keep
  obtain ⟨cd, rest, hcd, hm⟩ := ksp_first c.one
  rcases oi : op.info with ⟨sym, o2⟩
  obtain ⟨c1, c2, c3, c4⟩ := c
  obtain ⟨t1, t2⟩ := ty
  rw [oi] at c1 c2 t1 t2
  dsimp only at c1 c2 t1 t2
  have try_ := ksp_try kin inst c2 fn run
  obtain ⟨hp, gl, di, tk, os⟩ := s
  have u1 := inst.type (M := model prog w)
  have u2 := fills_K (M := model prog w) kin hcd hm c1
  have u3 : Looks (model prog w) hp (fillsNumberSlot (.type T) o2) (tyFills fo ro) := ksp_fillsT kin t1 t2
  rw [no] at u3
  simp only [binaryOp, oi]
  refine wpAny_holding (wpAny_bind ?_)
  unfold binaryOp1
  refine wpAny_bind (left.at (wpAny_bind (u1.at (wpAny_bind (u3.at ?_)))))
  simp only [apart_ty.2, Bool.false_eq_true, if_false]
  ksp_lk
  refine wpAny_mono try_ (fun z s' hz => ?_) fun _ _ e => e
  obtain ⟨v, rfl, hq⟩ := hz
  ksp_lk
  exact hq
/-- the same, where the def of the type on the left declines -/
theorem bin_ob' {op : Operator} {b : Value} {fo ro : Option Value} {id : String} {Q : Value → Shared → Prop} (fr : Fr h₀ L s.heap m) (k0 : K.In h₀) (inst : InstAt s.heap x ox C od) (left : Looks (model prog w) s.heap (typeOf b) (.type T)) (lt : s.TypeIs b T) (c : ClSay K C op.info.2 g (some (.ref f))) (fn : isFn K (.ref f) = true)
    (ty : TySay K T op.info.2 fo ro) (yes : tyFills fo ro = true) (low : subIn K (.ref C) (.type T) = some false) (slot : Slot T (PySem.dunder op.info.2) id)
    (no : wpAny (model prog w) A (call (.builtin id) [b, .ref x]) (fun v s' => v = .notImplemented ∧ s' = s) E s) (run : wpAny (model prog w) A (call (.ref f) [.ref x, b]) (CmpBack Q) E s) : wpAny (model prog w) A (binaryOp op b (.ref x)) Q E s := by
  have kin := k0.keeps fr.keep
  obtain ⟨cd, rest, hcd, hm⟩ := ksp_first c.one
  rcases oi : op.info with ⟨sym, o2⟩
  obtain ⟨c1, c2, c3, c4⟩ := c
  obtain ⟨t1, t2⟩ := ty
  rw [oi] at c1 c2 t1 t2 slot
  dsimp only at c1 c2 t1 t2 slot
  have try_ := ksp_try kin inst c2 fn run
  have try0 : wpAny (model prog w) A (tryMethod b (PySem.dunder o2) (.ref x)) (fun r s' => r = none ∧ s' = s) E s := wpAny_tryMethod_declines lt slot (wpAny_mono no (fun v s' z => ⟨z.1, rfl, z.2⟩) fun _ _ e => e)
  obtain ⟨hp, gl, di, tk, os⟩ := s
  have u1 := inst.type (M := model prog w)
  have u2 := fills_K (M := model prog w) kin hcd hm c1
  have u3 : Looks (model prog w) hp (fillsNumberSlot (.type T) o2) (tyFills fo ro) := ksp_fillsT kin t1 t2
  rw [yes] at u3
  have u4 := looks_subIn (M := model prog w) kin low
  have u5 : Looks (model prog w) hp (numberSlotInPython (.type T) o2) false := Looks.of_pure rfl
  simp only [binaryOp, oi]
  refine wpAny_holding (wpAny_bind ?_)
  unfold binaryOp1
  refine wpAny_bind (left.at (wpAny_bind (u1.at (wpAny_bind (u3.at ?_)))))
  simp only [apart_ty.2, Bool.false_eq_true, if_false]
  ksp_lk
  refine wpAny_mono try0 (fun z s' hz => ?_) fun _ _ e => e
  obtain ⟨rfl, rfl⟩ := hz
  ksp_lk
  refine wpAny_mono try_ (fun z s' hz => ?_) fun _ _ e => e
  obtain ⟨v, rfl, hq⟩ := hz
  ksp_lk
  exact hq
end
/-- a number + an instance of a plain class: not by int -/
theorem int_add_plain (a : Int) (t : Tok) (l : Addr) (cls : Value) (dd : Option Addr) (sl : Array (Option Value)) :
    PySem.Meets (Builtin.«int.__add__» ⟨[.int a t, .ref l], []⟩) (fun s0 R s => s.heap.get? l = some { cls := cls, dict := dd, data := .plain, slots := sl } ∧ R (.ok (.ret Value.notImplemented)) s) :=
  .of_wp fun prog w A R s h => by obtain ⟨hp, g, d, tk, os⟩ := s; obtain ⟨hl, h⟩ := h; wp_walk using wpAny_loadPart' hl; exact ⟨_, rfl, h⟩
theorem bool_add_plain (a : Bool) (l : Addr) (cls : Value) (dd : Option Addr) (sl : Array (Option Value)) :
    PySem.Meets (Builtin.«int.__add__» ⟨[.bool a, .ref l], []⟩) (fun s0 R s => s.heap.get? l = some { cls := cls, dict := dd, data := .plain, slots := sl } ∧ R (.ok (.ret Value.notImplemented)) s) :=
  .of_wp fun prog w A R s h => by obtain ⟨hp, g, d, tk, os⟩ := s; obtain ⟨hl, h⟩ := h; wp_walk using wpAny_loadPart' hl; exact ⟨_, rfl, h⟩
section
variable {prog : Program} {w : World} {A : Around} {E : Value → Shared → Prop} {s : Shared} {K : Frag} {x C f : Addr} {ox : Obj} {od : Option Obj}
/-- bool(x) by the own def of x's class -/
theorem own_bool {Q : Value → Shared → Prop} (kin : K.In s.heap) (inst : InstAt s.heap x ox C od) (own : findIn K (.ref C) "__bool__" = some (some (.ref f))) (fn : isFn K (.ref f) = true)
    (run : wpAny (model prog w) A.in1.in1 (call (.ref f) [.ref x]) (BoolBack fun b s' => Q (.bool b) s') E s) : wpAny (model prog w) A (call (.type "bool") [.ref x]) Q E s := by
  have tru : wpAny (model prog w) A.in1.in1 (truthy (.ref x)) (fun b s' => Q (.bool b) s') E s := by
    unfold truthy
    refine wpAny_bind (m := callSpecial? (.ref x) (Str.ofString "__bool__")) (special_fn kin inst own (beq_iff_eq.mp fn) (wpAny_mono run (fun r s' hr => ?_) fun _ _ y => y))
    cases r <;> first | exact hr.elim | exact wpAny_pure hr
  refine callType_codes (T := "bool") (Bi := Builtin.«object.__init__») (Q₁ := fun r z => ∃ y, r = .bool y ∧ Q r z) PySem.F.called_bool (PySem.F.typeCall_bool_1 _) PySem.F.entry_object_init ?_ ?_
  · refine codeAny_of_tree ?_
    show wpAny _ A.in1.in1 (checkBuiltinCall "bool.__new__" ⟨[.type "bool", .ref x], []⟩ >>= fun _ => again (.builtin "bool.__new__" ⟨[.type "bool", .ref x], []⟩)) _ _ s
    refine wpAny_bind (wpAny_of_eq (PySem.F.newCall_bool_1 _) (wpAny_pure ⟨plainId_quiet (by decide +kernel) _, codeAny_builtin PySem.F.entry_bool_new ?_⟩))
    rw [Around.under_plainId (by decide +kernel) _]
    unfold Builtin.«bool.__new__»
    dsimp only
    refine wpAny_bind (wpAny_pure ?_)
    have f1 := F.conv_sub_bool
    refine wpAny_bind (wpAny_of_eq f1 ?_)
    refine wpAny_bind (wpAny_pure ?_)
    exact wpAny_bind (wpAny_mono tru (fun b z hb => wpAny_pure ⟨_, rfl, hb⟩) fun _ _ y => y)
  · rintro obj z ⟨y, rfl, hq⟩
    exact ⟨rfl, PySem.F.args_object_init_2 _ _, object_init_meets PySem.F.called_bool.init.lookup PySem.F.called_bool.made (by decide) prog w A.in1 _ z ⟨rfl, rfl, hq⟩⟩
end
end PySem.W
namespace Pv
open PySem PySem.Spec PyProof.Rows L2 PySem.Calls
/-- what the built-in types say of the operator nm -/
def saysB (nm : String) : Bool := tysB.all fun T => (PySem.W.findIn [] (.type T) (PySem.dunder nm)).isSome && (PySem.W.findIn [] (.type T) (PySem.dunderR nm)).isSome
theorem says_of {nm : String} (h : saysB nm = true) : ∀ T ∈ tysB, ∃ fo ro, ∀ K, PySem.W.TySay K T nm fo ro := by
  intro T hT
  have h := List.all_eq_true.mp h T hT
  rw [Bool.and_eq_true] at h
  obtain ⟨fo, h1⟩ := Option.isSome_iff_exists.mp h.1
  obtain ⟨ro, h2⟩ := Option.isSome_iff_exists.mp h.2
  exact ⟨fo, ro, fun K => ⟨h1, h2⟩⟩
theorem sub_ty {K : PySem.W.Frag} {C : Addr} : ∀ T ∈ tysB, PySem.W.subIn K (.type T) (.ref C) = some false := by
  intro T hT
  unfold tysB at hT
  simp only [List.mem_cons, List.not_mem_nil, or_false] at hT
  rcases hT with rfl | rfl | rfl | rfl | rfl | rfl | rfl <;> kernel_rfl
def rOwnT (K : PySem.W.Frag) (C : Addr) (sp : Sp) (E : XK) : R2 := fun x y H Q => ∃ a dx fs, x = .ref a ∧ H a = some (.ins C dx fs) ∧ (∃ t, TyX K H y t ∧ (t = .ref C ∨ ∃ T ∈ tysB, t = .type T)) ∧ sp [x, y] H Q E
theorem op_ownB {X : Cx} {CX : CXT} {n : Nat} {C g : Addr} {sp : Sp} {E : XK} {op : Operator} {rc : Option Value} (tn : saysB op.info.2 = true) (c : PySem.W.ClSay X.K C op.info.2 g rc) (hf : PySem.W.isFn X.K (.ref g) = true) (F : FnR X.prog X.w X.K X.mg X.base CX n g sp) (hr : Room n X.A) (hx : Passes CX X E) : OpR X (binaryOp op) (rOwnT X.K C sp E) := by
  intro pins s σ H x y v u Q I rx ry h
  obtain ⟨a, dx, fs, rfl, ha, ⟨t, ty, hn⟩, q⟩ := h
  cases (show v = Value.ref a from rx)
  obtain ⟨mA, O, _⟩ := ins_get I.hok ha
  obtain ⟨od, J, _⟩ := O.look
  obtain ⟨m, hF⟩ := I.fr
  have one : wpAny (model X.prog X.w) X.A (call (.ref g) [.ref a, u]) (PySem.W.CmpBack (EP X pins σ Q)) X.xe s := by
    refine wpAny_mono (wpAny_call (run_fnR (us := [.ref a, u]) (vs := [.ref a, y]) F hr hx I (.cons rfl (.cons ry .nil)) q)) (fun w s' z => ?_) fun _ _ x => x
    obtain ⟨z', H', I', rz, qz⟩ := z
    exact SlX.cmpback rz ⟨z', H', I', rz, qz⟩
  rcases hn with rfl | ⟨T, hT, rfl⟩
  · exact PySem.W.binop_K hF I.ok.mod.kin J (ty_looks I ry ty) c.one c.own hf one
  · obtain ⟨fo, ro, hh⟩ := says_of tn T hT
    exact PySem.W.ob_bin hF I.ok.mod.kin J (ty_looks I ry ty) c hf (hh _) (sub_ty T hT) one
/-- a op x, op the sum, a of a built-in type: by the reflected def at f of x's class -/
def rOwnR (K : PySem.W.Frag) (C : Addr) (sp : Sp) (E : XK) : R2 := fun x y H Q => ∃ b dx fs T, y = .ref b ∧ H b = some (.ins C dx fs) ∧ T ∈ tysB ∧ TyX K H x (.type T) ∧ sp [y, x] H Q E
theorem fills_add {T : String} {fo ro : Option Value} (hT : T ∈ tysB) (ty : PySem.W.TySay [] T "add" fo ro) : PySem.W.tyFills fo ro = (T == "int" || T == "bool") := by
  have key : tysB.all (fun T => match PySem.W.findIn [] (.type T) (PySem.dunder "add"), PySem.W.findIn [] (.type T) (PySem.dunderR "add") with
    | some fo, some ro => PySem.W.tyFills fo ro == (T == "int" || T == "bool")
    | _, _ => false) = true := by kernel_rfl
  have := List.all_eq_true.mp key T hT
  rw [ty.own, ty.ref] at this
  exact eq_of_beq this
theorem ty_int {K : PySem.W.Frag} {H : Hp} {x : V} {t : Value} (ty : TyX K H x t) (e : t = .type "int") : ∃ i, x = .int i := by
  cases ty with
  | base b => cases b <;> first | exact ⟨_, rfl⟩ | (simp at e)
  | _ => simp at e
theorem ty_bl {K : PySem.W.Frag} {H : Hp} {x : V} {t : Value} (ty : TyX K H x t) (e : t = .type "bool") : ∃ i, x = .bl i := by
  cases ty with
  | base b => cases b <;> first | exact ⟨_, rfl⟩ | (simp at e)
  | _ => simp at e
theorem op_ownR {X : Cx} {CX : CXT} {n : Nat} {C f g : Addr} {sp : Sp} {E : XK} (c : PySem.W.ClSay X.K C "add" g (some (.ref f))) (hf : PySem.W.isFn X.K (.ref f) = true) (low : PySem.W.subIn X.K (.ref C) (.type "int") = some false ∧ PySem.W.subIn X.K (.ref C) (.type "bool") = some false) (F : FnR X.prog X.w X.K X.mg X.base CX n f sp) (hr : Room n X.A) (hx : Passes CX X E) : OpR X (binaryOp .Add) (rOwnR X.K C sp E) := by
  intro pins s σ H x y v u Q I rx ry h
  obtain ⟨b, dx, fs, T, rfl, hb, hT, ty, q⟩ := h
  cases (show u = Value.ref b from ry)
  obtain ⟨mA, O, _⟩ := ins_get I.hok hb
  obtain ⟨od, J, _⟩ := O.look
  obtain ⟨m, hF⟩ := I.fr
  have one : wpAny (model X.prog X.w) X.A (call (.ref f) [.ref b, v]) (PySem.W.CmpBack (EP X pins σ Q)) X.xe s := by
    refine wpAny_mono (wpAny_call (run_fnR (us := [.ref b, v]) (vs := [.ref b, x]) F hr hx I (.cons rfl (.cons rx .nil)) q)) (fun w s' z => ?_) fun _ _ x => x
    obtain ⟨z', H', I', rz, qz⟩ := z
    exact SlX.cmpback rz ⟨z', H', I', rz, qz⟩
  obtain ⟨fo, ro, hh⟩ := says_of (nm := "add") (by kernel_rfl) T hT
  have hfl := fills_add hT (hh [])
  have lk : PySem.W.Looks (model X.prog X.w) s.heap (typeOf v) (.type T) := ty_looks I rx ty
  cases hb2 : (T == "int" || T == "bool") with
  | false =>
    rw [hb2] at hfl
    exact PySem.W.bin_ob hF I.ok.mod.kin J lk c hf (hh _) hfl one
  | true =>
    rw [hb2] at hfl
    have hob : s.heap.get? b = some (PySem.W.instObj C dx) := O.obj
    rcases Bool.or_eq_true_iff.mp hb2 with e | e
    · have e := eq_of_beq e
      subst e
      obtain ⟨i, rfl⟩ := ty_int ty rfl
      obtain ⟨t, rfl⟩ := (show ∃ t, v = Value.int i t from rx)
      refine PySem.W.bin_ob' hF I.ok.mod.kin J lk (typeIs_int s i t) c hf (hh _) hfl low.1 PySem.F.slot_int_add ?_ one
      exact call_meets PySem.F.slot_int_add (typeIs_int s i t) PySem.F.entry_int_add (PySem.F.args_int_add_2 _ _) (PySem.W.int_add_plain i t b _ _ _) ⟨hob, rfl, rfl⟩
    · have e := eq_of_beq e
      subst e
      obtain ⟨i, rfl⟩ := ty_bl ty rfl
      cases (show v = Value.bool i from rx)
      refine PySem.W.bin_ob' hF I.ok.mod.kin J lk rfl c hf (hh _) hfl low.2 PySem.F.slot_bool_add ?_ one
      exact call_meets PySem.F.slot_bool_add rfl PySem.F.entry_int_add (PySem.F.args_int_add_2 _ _) (PySem.W.bool_add_plain i b _ _ _) ⟨hob, rfl, rfl⟩
section
variable {X : Cx} {c : Ct} {k k2 : Nat} {x m : Str} {F : Fn} {o : D → D → Store → Out D}
/-- a op b by the class x of a -/
def byL (x : Str) (F : Fn) (o : D → D → Store → Out D) (a b : D) (S : Store) : Out D := match a with
  | .ob cn ks ds => guard' (decide (cn = x) && okY x S b) (F [.ob cn ks ds, b] S)
  | a => o a b S
/-- a + b by the class x of b, a being no object -/
def byR (x : Str) (F : Fn) (o : D → D → Store → Out D) (a b : D) (S : Store) : Out D := match b with
  | .ob cn ks ds => (match tyD S a with
    | some n => guard' (decide (cn = x) && tysB.contains n) (F [.ob cn ks ds, a] S)
    | none => o a b S)
  | b => o a b S
/-- a comparison by the class x of a -/
def byC (x : Str) (F : Fn) (o : D → D → Store → Out D) (a b : D) (S : Store) : Out D := match a with
  | .ob cn ks ds => blO (guard' (decide (cn = x) && okY x S b) (F [.ob cn ks ds, b] S))
  | a => o a b S
theorem opp_bin {op : Operator} (M : OpF X.prog X.w X.K X.mg X.base c.cls k x m 2 F) (N : BinK X.K x op.info.2) (B : Bd X c k2) (P0 : OpP X c (binaryOp op) o) (tn : saysB op.info.2 = true) (hmm : PySem.dunder op.info.2 = m := by rfl) (hk : k ≤ k2 := by decide) (h150 : k < 150 := by decide) : OpP X c (binaryOp op) (byL x F o) := by
  obtain ⟨C, fM, fd, ps, I, hM, G, hb, one⟩ := M.ex
  obtain ⟨r0, h1, h2⟩ := P0.ex
  subst hmm
  have hc : ∃ rc, PySem.W.ClSay X.K C op.info.2 fM rc := by
    rcases N.ref C I with h | ⟨g, h⟩
    · exact ⟨_, hM.at_, h, .inl rfl, one⟩
    · exact ⟨_, hM.at_, h, .inr ⟨g, rfl⟩, one⟩
  obtain ⟨rc, hc⟩ := hc
  refine ⟨_, OpR.or (op_ownB tn hc hM.fn ((FnG.ok G h150).raw hb .nil) (B.room.mono hk) B.pass) h1, ?_⟩
  intro φ S H Q u v a b z g rx ry h hp
  unfold byL at h
  split at h
  · rename_i cn ks ds
    obtain ⟨hb1, h10⟩ := guard_ok h
    rw [Bool.and_eq_true, decide_eq_true_eq] at hb1
    obtain ⟨e9, hb1⟩ := hb1
    subst e9
    have rx : Rp c.K c.R S.length φ H u (.ob cn ks ds) := rx
    have r0 := rx
    cases rx with
    | ob e0 hi f0 c0 k0 r =>
      have eC := I.one _ (by rw [← B.K]; exact e0.1)
      subst eC
      refine .inl ⟨_, _, _, rfl, hi, okY_ty B.K I g ry hb1, c.R, φ, S, _, _, B.hT, by rw [← B.K]; exact g, by rw [← B.K]; exact .cons r0 (.cons ry .nil), rfl, h10, ?_⟩
      obtain ⟨cK, cR, ccls, cE⟩ := c
      have e : cK = X.K := B.K
      subst e
      exact hp
  · exact .inr (h2 φ S H Q u v a b z g rx ry h hp)
theorem opp_radd {m2 : Str} {k3 : Nat} {F2 : Fn} (M : OpF X.prog X.w X.K X.mg X.base c.cls k x m 2 F) (M2 : OpF X.prog X.w X.K X.mg X.base c.cls k3 x m2 2 F2) (N : BinK X.K x "add") (B : Bd X c k2) (P0 : OpP X c (binaryOp .Add) o) (hmm : m = ("__radd__" : Str) := by rfl) (hm2 : m2 = ("__add__" : Str) := by rfl) (hk : k ≤ k2 := by decide) (h150 : k < 150 := by decide) : OpP X c (binaryOp .Add) (byR x F o) := by
  obtain ⟨C, fM, fd, ps, I, hM, G, hb, one⟩ := M.ex
  obtain ⟨C2, gM, _, _, I2, hM2, _, _, _⟩ := M2.ex
  obtain ⟨r0, h1, h2⟩ := P0.ex
  subst hmm hm2
  have eC : C2 = C := I.one _ I2.nm
  subst eC
  have hc : PySem.W.ClSay X.K C2 "add" gM (some (.ref fM)) := ⟨hM2.at_, hM.at_, .inr ⟨_, rfl⟩, one⟩
  refine ⟨_, OpR.or (op_ownR hc hM.fn (N.low _ I) ((FnG.ok G h150).raw hb .nil) (B.room.mono hk) B.pass) h1, ?_⟩
  intro φ S H Q u v a b z g rx ry h hp
  unfold byR at h
  split at h
  · rename_i cn ks ds
    split at h
    · rename_i n en
      obtain ⟨hb1, h10⟩ := guard_ok h
      rw [Bool.and_eq_true, decide_eq_true_eq] at hb1
      obtain ⟨e9, hb1⟩ := hb1
      subst e9
      have ry : Rp c.K c.R S.length φ H v (.ob cn ks ds) := ry
      have r0 := ry
      cases ry with
      | ob e0 hi f0 c0 k0 r =>
        have eC := I.one _ (by rw [← B.K]; exact e0.1)
        subst eC
        refine .inl ⟨_, _, _, n, rfl, hi, by simpa using hb1, by rw [← B.K]; exact ty_ok g rx en, c.R, φ, S, _, _, B.hT, by rw [← B.K]; exact g, by rw [← B.K]; exact .cons r0 (.cons rx .nil), rfl, h10, ?_⟩
        obtain ⟨cK, cR, ccls, cE⟩ := c
        have e : cK = X.K := B.K
        subst e
        exact hp
    · exact .inr (h2 φ S H Q u v a _ z g rx ry h hp)
  · exact .inr (h2 φ S H Q u v a b z g rx ry h hp)
section
variable {a b : Expr} {pos : Pos} {fa fb : Env → Store → Out D}
theorem m_binP {op : Operator} (P0 : OpP X c (binaryOp op) o) (ha : PE X a (mE c fa)) (hb : PE X b (mE c fb)) : PE X (.BinOp a op b pos) (mE c (eBin o fa fb)) := by
  obtain ⟨r, h1, h2⟩ := P0.ex
  exact pe_weak (pe_op h1 ha hb) fun _ _ _ h => m_bin h2 h
theorem m_cmpP {op : CmpOp} (P0 : OpP X c (compareOp op) o) (ha : PE X a (mE c fa)) (hb : PE X b (mE c fb)) (hk : behindInMarks op b = false := by exact nomark _) : PE X (.Compare a [op] [b] pos) (mE c (eBin o fa fb)) := by
  obtain ⟨r, h1, h2⟩ := P0.ex
  exact m_cmp h1 h2 ha hb hk
/-- what a comparison gives is a truth value -/
def BlD (o : D → D → Store → Out D) : Prop := ∀ x y S d S', o x y S = some (.ok d, S') → ∃ k, d = .bl k
theorem byC_bl (h : BlD o) : BlD (byC x F o) := by
  intro u v S d S' e
  unfold byC at e
  split at e
  · unfold blO at e
    split at e
    · cases e
      exact ⟨_, rfl⟩
    · cases e
    · cases e
  · exact h _ _ _ _ _ e
theorem b_cmpP {op : CmpOp} (P0 : OpP X c (compareOp op) o) (hbl : BlD o) (ha : PE X a (mE c fa)) (hb : PE X b (mE c fb)) (hk : behindInMarks op b = false := by exact nomark _) : PT X (.Compare a [op] [b] pos) (mB c (eTru (eBin o fa fb))) := by
  obtain ⟨r, h1, h2⟩ := P0.ex
  exact b_cmp h1 h2 ha hb hk hbl
end
theorem opp_cmp' {op : CmpOp} (M : OpF X.prog X.w X.K X.mg X.base c.cls k x m 2 F) (B : Bd X c k2) (P0 : OpP X c (compareOp op) o) (hop : ∀ a b, compareOp op a b = richCompare op a b := by exact fun _ _ => rfl) (hmm : (cmpInfo op).2.1 = m := by rfl) (hk : k ≤ k2 := by decide) (h150 : k < 150 := by decide) : OpP X c (compareOp op) (byC x F o) := opp_cmp M B P0 hop hmm hk h150
theorem opp_eq (hK : c.K = X.K) (hu : X.A.units + 64 < cLine) : OpP X c (compareOp .Eq) oEq := ⟨rEqM X.K, op_eqM hu, by rw [← hK]; exact opm_eq⟩
theorem opp_le : OpP X c (compareOp .LtE) oLe := ⟨_, op_leM, opm_le⟩
theorem opp_ge : OpP X c (compareOp .GtE) oGe := ⟨_, op_geM, opm_ge⟩
theorem opp_add (hK : c.K = X.K) : OpP X c (binaryOp .Add) oAdd := ⟨rAddM X.K, op_addM, by rw [← hK]; exact opm_add⟩
def oNo : D → D → Store → Out D := fun _ _ _ => none
theorem opp_no {f : Value → Value → Sem Value} : OpP X c f oNo := ⟨fun _ _ _ _ => False, (fun _ _ _ _ _ _ _ _ _ _ _ _ h => h.elim), fun _ _ _ _ _ _ _ _ _ _ _ _ h _ => nomatch h⟩
theorem blD_eq : BlD oEq := fun u v S d S' h => by
  unfold oEq at h
  split at h
  · cases h
    exact ⟨_, rfl⟩
  · cases h
theorem blD_le : BlD oLe := fun u v S d S' h => by
  unfold oLe at h
  split at h
  · cases h; exact ⟨_, rfl⟩
  · cases h; exact ⟨_, rfl⟩
  · cases h
theorem blD_ge : BlD oGe := fun u v S d S' h => by
  unfold oGe at h
  split at h
  · cases h; exact ⟨_, rfl⟩
  · cases h; exact ⟨_, rfl⟩
  · cases h
end
/-- one instance, by the def of its class; want: what the def must give -/
def by1 (x : Str) (F : Fn) (want : D → Bool) (o : List D → Store → Out D) (ds : List D) (S : Store) : Out D := match ds with
  | [.ob cn ks es] => guard' (decide (cn = x)) (match F [.ob cn ks es] S with
    | some (.ok d, S') => guard' (want d) (some (.ok d, S'))
    | some (.ex y, S') => some (.ex y, S')
    | none => none)
  | ds => o ds S
def wBl : D → Bool
  | .bl _ => true
  | _ => false
def wStr : D → Bool
  | .str _ => true
  | _ => false
def rOwn1 (C : Addr) (sp : Sp) (E : XK) (W : V → Prop) : List V → Hp → VK → Prop := fun xs H Q => ∃ a dx fs, xs = [V.ref a] ∧ H a = some (.ins C dx fs) ∧ sp [.ref a] H (fun z H' => W z ∧ Q z H') E
section
variable {X : Cx} {c : Ct} {k k2 : Nat} {x m : Str} {F : Fn} {o : List D → Store → Out D}
theorem call_boolO {CX : CXT} {n : Nat} {C g : Addr} {sp : Sp} {E : XK} (hs : PySem.W.findIn X.K (.ref C) "__bool__" = some (some (.ref g))) (hf : PySem.W.isFn X.K (.ref g) = true) (F : FnR X.prog X.w X.K X.mg X.base CX n g sp) (hr : Room (n + 2) X.A) (hx : Passes CX X E) : CallR X (.type "bool") (rOwn1 C sp E fun z => ∃ b, z = .bl b) := by
  intro pins s σ H xs us Q I r h
  obtain ⟨a, dx, fs, rfl, ha, q⟩ := h
  obtain ⟨u, rfl, ru⟩ := vals1 r
  cases (show u = Value.ref a from ru)
  obtain ⟨mA, O, _⟩ := ins_get I.hok ha
  obtain ⟨od, J, _⟩ := O.look
  have hr2 : Room n X.A.in1.in1 := (show Room (n + 1) X.A.in1 from Room.in1 hr).in1
  refine PySem.W.own_bool I.kIn J hs hf (wpAny_mono (wpAny_call (SlX.run_at (us := [.ref a]) (ws := [.ref a]) F hr2 I.env0.in1.in1 hx I (.cons rfl .nil) q)) (fun w s' z => ?_) fun _ _ x => x)
  obtain ⟨z', H', I', rz, ⟨b, eb⟩, qz⟩ := z
  subst eb
  cases (show w = Value.bool b from rz)
  exact ⟨.bl b, H', I', rfl, qz⟩
theorem call_strO {CX : CXT} {n : Nat} {C g : Addr} {sp : Sp} {E : XK} (hs : PySem.W.findIn X.K (.ref C) "__str__" = some (some (.ref g))) (hf : PySem.W.isFn X.K (.ref g) = true) (F : FnR X.prog X.w X.K X.mg X.base CX n g sp) (hr : Room (n + 2) X.A) (hx : Passes CX X E) : CallR X (.type "str") (rOwn1 C sp E fun z => ∃ b, z = .str b) := by
  intro pins s σ H xs us Q I r h
  obtain ⟨a, dx, fs, rfl, ha, q⟩ := h
  obtain ⟨u, rfl, ru⟩ := vals1 r
  cases (show u = Value.ref a from ru)
  obtain ⟨mA, O, _⟩ := ins_get I.hok ha
  obtain ⟨od, J, _⟩ := O.look
  have hr2 : Room n X.A.in1.in1 := (show Room (n + 1) X.A.in1 from Room.in1 hr).in1
  refine PySem.W.kso_call hr2.units0 I.kIn J hs hf (wpAny_mono (wpAny_call (SlX.run_at (us := [.ref a]) (ws := [.ref a]) F hr2 I.env0.in1.in1 hx I (.cons rfl .nil) q)) (fun w s' z => ?_) fun _ _ x => x)
  obtain ⟨z', H', I', rz, ⟨b, eb⟩, qz⟩ := z
  subst eb
  obtain ⟨t, e⟩ := (show ∃ t, w = Value.str b t from rz)
  subst e
  exact ⟨.str b, H', I', ⟨t, rfl⟩, qz⟩
theorem blm_own {C : Addr} {W : V → Prop} {want : D → Bool} {f : Value} {r0 : List V → Hp → VK → Prop} (B : Bd X c k2) (I : InsK X.K x C) (hw : ∀ n φ H v d, Rp X.K c.R n φ H v d → want d = true → W v) (h1 : CallR X f (rOwn1 C (fun vs H Q E => spM X.K c.cls 1 F (vs ++ []) H Q E) c.E W)) (h0 : CallR X f r0) (h2 : BlM c r0 o) : CbP X c f (by1 x F want o) := by
  refine ⟨_, CallR.or h1 h0, ?_⟩
  intro φ S H Q xs ds z g r h hp
  unfold by1 at h
  split at h
  · rename_i cn ks es
    obtain ⟨hb, h7⟩ := guard_ok h
    have hb := of_decide_eq_true hb
    subst hb
    obtain ⟨v, rfl, rv⟩ := r.one
    have rv : Rp c.K c.R S.length φ H v (.ob cn ks es) := rv
    have r0 := rv
    cases rv with
    | ob e0 hi f0 c0 k0 r =>
      have eC := I.one _ (by rw [← B.K]; exact e0.1)
      subst eC
      cases hF : F [.ob cn ks es] S with
      | none => rw [hF] at h7; cases h7
      | some z1 =>
        rw [hF] at h7
        refine .inl ⟨_, _, _, rfl, hi, c.R, φ, S, _, _, B.hT, by rw [← B.K]; exact g, by rw [← B.K]; exact .cons r0 .nil, rfl, hF, ?_⟩
        obtain ⟨cK, cR, ccls, cE⟩ := c
        have e : cK = X.K := B.K
        subst e
        obtain ⟨r1, S1⟩ := z1
        cases r1 with
        | ok d =>
          obtain ⟨hwd, h8⟩ := guard_ok h7
          cases h8
          exact fun b φ' H' s g' rv => ⟨hw _ _ _ _ _ rv hwd, hp b φ' H' s g' rv⟩
        | ex y => cases h7; exact hp
  · exact .inr (h2 φ S H Q xs ds z g r h hp)
theorem cbp_bool (M : OpF X.prog X.w X.K X.mg X.base c.cls k x m 1 F) (B : Bd X c k2) (P0 : CbP X c (.type "bool") o) (hmm : m = ("__bool__" : Str) := by rfl) (hk : k + 2 ≤ k2 := by decide) (h150 : k < 150 := by decide) : CbP X c (.type "bool") (by1 x F wBl o) := by
  obtain ⟨C, fM, fd, ps, I, hM, G, hb, one⟩ := M.ex
  obtain ⟨r0, h1, h2⟩ := P0.ex
  subst hmm
  exact blm_own B I (fun n φ H v d r h => by cases r <;> first | exact ⟨_, rfl⟩ | cases h) (call_boolO hM.at_ hM.fn ((FnG.ok G h150).raw hb .nil) (B.room.mono hk) B.pass) h1 h2
theorem cbp_str (M : OpF X.prog X.w X.K X.mg X.base c.cls k x m 1 F) (B : Bd X c k2) (P0 : CbP X c (.type "str") o) (hmm : m = ("__str__" : Str) := by rfl) (hk : k + 2 ≤ k2 := by decide) (h150 : k < 150 := by decide) : CbP X c (.type "str") (by1 x F wStr o) := by
  obtain ⟨C, fM, fd, ps, I, hM, G, hb, one⟩ := M.ex
  obtain ⟨r0, h1, h2⟩ := P0.ex
  subst hmm
  exact blm_own B I (fun n φ H v d r h => by cases r <;> first | exact ⟨_, rfl⟩ | cases h) (call_strO hM.at_ hM.fn ((FnG.ok G h150).raw hb .nil) (B.room.mono hk) B.pass) h1 h2
theorem cbp_str0 : CbP X c (.type "str") oStr := ⟨_, call_strM, blm_str⟩
def oBool (ds : List D) (S : Store) : Out D := match ds with
  | [.int i] => ret (.bl (i != 0)) S
  | [.bl b] => ret (.bl b) S
  | _ => none
theorem cbp_bool0 : CbP X c (.type "bool") oBool := by
  refine ⟨_, call_bool1, ?_⟩
  intro φ S H Q xs ds z g r h hp
  unfold oBool at h
  split at h
  · obtain ⟨v, rfl, rv⟩ := r.one
    cases rv
    cases h
    exact .inl ⟨_, rfl, hp.now g (.bl _)⟩
  · obtain ⟨v, rfl, rv⟩ := r.one
    cases rv
    cases h
    exact .inr ⟨_, rfl, hp.now g (.bl _)⟩
  · cases h
section
variable {T : String} {y : Str} {e : Expr} {es : List Expr} {p pos : Pos} {fs : Env → Store → Out (List D)}
theorem m_callTyP (P0 : CbP X c (.type T) o) (hm : X.mg y = none) (hv : bootBuiltins y = some (.type T)) (ha : PA X (e :: es) (mA c fs)) (hg : Gl X y := by rfl) (hn : y ≠ "__name__" := by decide) (hdb : (y == ("__debug__" : Str)) = false := by decide)
    (he : starEach (e :: es) X.env = (false, eval e X.env) :: starEach es X.env := by rfl) (hpl : (backTo pos (starEach es X.env)).any (·.1) = false := by rfl) : PE X (.Call (.Name y p) (e :: es) [] pos) (mE c (eBl o fs)) := by
  obtain ⟨r, h1, h2⟩ := P0.ex
  exact m_callTy h2 h1 hg hm hv ha hn hdb he hpl
end
end
end Pv
namespace Pv
open PySem PySem.Spec PyProof.Rows L2 PySem.Calls
theorem kbind1 {K : PySem.W.Frag} {x qual : Str} {params : Arguments} {body : List Stmt} {scope : Scope} {dvs : List V} {kws : List (Str × V)} {f : Addr} {fd : FuncData} {ps : List Str} (F : FunD K x qual params body scope dvs kws f fd) (n : Nat) (ks : List Str) (hd : dvs ≠ [])
    (h : ∀ (T : Addr) (kV doc pm : Value) (an : Option Addr) (cdv ct : Value) (us its ws : List Value), us.length = n → its.length = dvs.length → ws.length = ks.length →
      ∃ k, bindArgs (PySem.W.fnOf x qual params body scope (.ref T) kV doc pm an cdv ct) ⟨us, ks.zip ws⟩ = seqItems? (.ref T) >>= k ∧ k (some its.toArray) = pure (ps.zip (us ++ ws))) : KBn K fd ps n ks (fun us ws => us ++ ws) (fun vs zs => vs ++ zs) := by
  obtain ⟨oc, od, dV, kV, doc, pm, an, cdv, ct, osl, rfl, lk, hcd, hD, _⟩ := F.ex
  rcases hD with ⟨e, _⟩ | ⟨_, T, o, its, m, rfl, lT, oT, rT⟩
  · exact absurd e hd
  · refine ⟨fun s us ws kin l1 l2 => BindsTo.of_looks fun M => ?_, fun r1 r2 => r1.append r2⟩
    obtain ⟨k, e1, e2⟩ := h T kV doc pm an cdv ct us its ws l1 rT.length.symm l2
    rw [e1]
    exact looks_items kin lT oT (.of_pure e2)
def eNewO (x : Str) (m n1 n2 : Nat) (G : List D → Store → Out (List (Str × D))) (fs fk : Env → Store → Out (List D)) (ρ : Env) (S : Store) : Out D := bnd (fs ρ S) fun ds S1 => bnd (fk ρ S1) fun es S2 => guard' (ds.length == n1 && es.length == n2) (guard' ((ds ++ es ++ []).length == m) (bnd (G (ds ++ es ++ []) S2) (obK x)))
section
variable {X : Cx} {c : Ct} {k k2 m n : Nat} {G : List D → Store → Out (List (Str × D))} {x : Str} {ks : List Str} {p pos : Pos} {e : Expr} {es : List Expr} {kws : List Keyword} {fs fk : Env → Store → Out (List D)}
theorem q_newK0 (C : ObjK X.prog X.w X.K X.mg X.base c.cls k x m G 0 ks) (B : Bd X c k2) (kargs : PK X kws (mA c fk)) (hk : k + 1 ≤ k2 := by decide) (h150 : k < 150 := by decide) (glob : Gl X x := by rfl) (hdb : (x == ("__debug__" : Str)) = false := by decide)
    (hall : (backToKw pos (keywordEach kws X.env)).all (·.1.isSome) = true := by rfl) (hks : (backToKw pos (keywordEach kws X.env)).filterMap (·.1) = ks := by rfl)
    (hpl : ((backTo pos (starEach [] X.env)).any (·.1) || (backToKw pos (keywordEach kws X.env)).any (·.1.isNone)) = false := by rfl) :
    PE X (.Call (.Name x p) [] kws pos) (mE c (eNewO x m 0 ks.length G eNil fk)) := by
  obtain ⟨C0, fI, fdI, psI, M, at_, nm, FI, bI⟩ := C.ex
  refine pe_weak (pe_makeK0 (E := c.E) M (FI.ok h150) (B.room.mono hk) glob at_ bI B.pass kargs hall hks hdb hpl) fun σ H Q ⟨φ, S, ρ, z, hg, hr, hf, hp⟩ => ?_
  refine Wp.fst (rel := RL c) hg hr hf hp fun es S1 zs φ1 H1 s1 g1 e1 r1 hf1 hp1 => ?_
  obtain ⟨hl, hf1⟩ := guard_ok hf1
  rw [Bool.and_eq_true] at hl
  refine ⟨rfl, by rw [r1.length]; simpa using hl.2, ?_⟩
  have q := new_mono (B := B) (C := C0) (dvs := []) nm (fun _ _ _ _ => .nil) g1 r1 hf1 hp1
  intro y dx a1 a2 a3
  have q := q y dx a1 a2 a3
  rw [List.append_nil] at q
  exact q
end
def noEx (o : Out D) : Out D := match o with
  | some (.ok d, S) => some (.ok d, S)
  | _ => none
def eProp (x : Str) (F : Fn) (f : Env → Store → Out D) (ρ : Env) (S : Store) : Out D := bnd (f ρ S) fun d S1 => match d with
  | .ob c ks ds => guard' (decide (c = x)) (noEx (F [.ob c ks ds] S1))
  | _ => none
section
variable {X : Cx} {c : Ct} {k k2 : Nat} {x fm n : Str} {F : Fn} {pos : Pos} {e : Expr} {f : Env → Store → Out D}
theorem q_prop (G : PrpC X.prog X.w X.K X.mg X.base c.cls k x fm F) (B : Bd X c k2) (he : PE X e (mE c f)) (hk : k + 1 ≤ k2 := by decide) (h150 : k < 150 := by decide) (hab : attributeBase e fm X.env (eval e X.env) = eval e X.env := by rfl) : PE X (.Attribute e fm pos) (mE c (eProp x F f)) := by
  obtain ⟨C0, fG, pp, fdG, psG, I, hP, FG, bG⟩ := G.ex
  refine pe_weak (pe_prop (dvs := []) (E := fun _ _ _ => False) he I.cl hP (FG.ok h150) (B.room.mono hk) bG .nil (fun _ _ _ _ _ _ _ z => by obtain ⟨_, _, _, _, _, _, _, _, _, _, _, _, z⟩ := z; exact z.elim) hab) fun σ H Q ⟨φ, S, ρ, z, hg, hr, hf, hp⟩ => ?_
  refine Wp.fst (rel := RV c) hg hr hf hp fun d S1 v φ1 H1 s1 g1 e1 r1 hf1 hp1 => ?_
  split at hf1
  · rename_i cn ks ds
    obtain ⟨hb, hf2⟩ := guard_ok hf1
    have hb := of_decide_eq_true hb
    subst hb
    have r1 : Rp c.K c.R S1.length φ1 H1 v (.ob cn ks ds) := r1
    have r0 := r1
    cases r1 with
    | ob e0 h f0 c0 k0 r =>
      rename_i y dx C fs
      have eC : C = C0 := I.one C (by rw [← B.K]; exact e0.1)
      subst eC
      unfold noEx at hf2
      split at hf2
      · rename_i d2 S2 eF
        cases hf2
        refine ⟨y, dx, _, rfl, h, c.R, φ1, S1, [.ob cn ks ds], _, B.hT, by rw [← B.K]; exact g1, by rw [← B.K]; exact .cons r0 .nil, rfl, eF, ?_⟩
        obtain ⟨cK, cR, ccls, cE⟩ := c
        have e : cK = X.K := B.K
        subst e
        exact hp1
      · cases hf2
  · cases hf1
/-- an attribute read, by the class's facts -/
theorem FldC.of {K : PySem.W.Frag} {x n : Str} {C : Addr} (I : InsK K x C) (h : NoAttr K C n) : FldC K x n := ⟨C, I.cl, I.one, h⟩
end
theorem insB_ok {K : PySem.W.Frag} {x : Str} (c : Cls K (He.ga K x)) (h : insB K x = true) : InsK K x (He.ga K x) ∧ PySem.W.selfFirst K (He.ga K x) = true := by
  obtain ⟨h1, h⟩ := He.ba h
  obtain ⟨h2, h⟩ := He.ba h
  obtain ⟨h3, h⟩ := He.ba h
  obtain ⟨h4, h⟩ := He.ba h
  obtain ⟨h5, h6⟩ := He.ba h
  have n := clsOneB_ok h1
  exact ⟨⟨n.1, n.2, c, He.eqO_ok h2, He.eqO_ok h3, of_decide_eq_true h4, of_decide_eq_true h5⟩, h6⟩
theorem kitB2_ok {K : PySem.W.Frag} {mg : Str → Option Value} {x : Str} {ss : List (Str × Bool)} (h : kitB2 K x ss = true) (hm : mg x = some (.ref (He.ga K x))) (hi : ∀ q ∈ ss, InsK K q.1 (He.ga K q.1)) : KitC K mg x ss := by
  obtain ⟨h1, h2⟩ := He.ba h
  rw [List.all_eq_true] at h1 h2
  exact ⟨_, hm, fun T hT => of_decide_eq_true (h1 T hT), fun q hq => ⟨_, hi q hq, of_decide_eq_true (h2 q hq)⟩⟩
theorem binB_ok {K : PySem.W.Frag} {x : Str} {nm : String} (I0 : InsK K x (He.ga K x)) (h : binB K x nm = true) : BinK K x nm := by
  obtain ⟨h1, h⟩ := He.ba h
  obtain ⟨h2, h3⟩ := He.ba h
  refine ⟨fun C I => ?_, fun C I => ?_⟩
  · rw [I0.one C I.nm]
    unfold refB at h1
    split at h1
    · rename_i e
      exact .inl e
    · rename_i g e
      exact .inr ⟨g, e⟩
    · cases h1
  · rw [I0.one C I.nm]
    exact ⟨of_decide_eq_true h2, of_decide_eq_true h3⟩
end Pv
namespace K23
open PySem PySem.Spec L2 Pv
abbrev fl_ : Str → Option (List Str) := fldOf fldL
def B_law_refusal : SemS := (sSeq (sSet 1 (eLst (eCons (eIsE sb "InvalidPaper" (eVar 0)) (eCons (eIsE sb "NotUsable" (eVar 0)) (eCons (eIsE sb "NeverEnough" (eVar 0)) eNil)))))
    (sSeq (sSet 1 (eBin oAdd (eVar 1) (eLst (eCons (eIsE sb "InvalidEvent" (eVar 0)) (eCons (eIsE sb "NothingToUndo" (eVar 0)) eNil)))))
    (sSeq (sSet 1 (eBin oAdd (eVar 1) (eLst (eCons (eIsE sb "InvalidText" (eVar 0)) (eCons (eIsE sb "InvalidRow" (eVar 0)) eNil)))))
    (sSeq (sSet 2 (eLst (eCons (eIsE sb "PaperError" (eVar 0)) (eCons (eIsE sb "ProgramError" (eVar 0)) eNil))))
    (sSeq (sSet 2 (eBin oAdd (eVar 2) (eLst (eCons (eIsE sb "MachineError" (eVar 0)) (eCons (eIsE sb "TextError" (eVar 0)) eNil)))))
    (sSeq (sSet 3 (eIf (eTru (eBin oEq (eMl oCount (eVar 1) (eCons (eC (.bl true)) eNil)) (eC (.int 1)))) (eMl oIndex (eVar 1) (eCons (eC (.bl true)) eNil)) (eC (.int 7))))
    (sSeq (sIf (bOr (eTru (eBin oEq (eVar 3) (eC (.int 7)))) (bOr (eTru (eBin oNe (eVar 2) (eLst (eCons (eBin oEq (eVar 3) (eC (.int 0))) (eCons (eBin (oIn false) (eVar 3) (eTup (eCons (eC (.int 1)) (eCons (eC (.int 2)) eNil)))) (eCons (eBin (oIn false) (eVar 3) (eTup (eCons (eC (.int 3)) (eCons (eC (.int 4)) eNil)))) (eCons (eBin oGt (eVar 3) (eC (.int 4))) eNil))))))) (bNot (eTru (eIsE sb "ValueError" (eVar 0)))))) (sSeq (sRet (eTup (eCons (eC (.str "no")) (eCons (eC (.str "other")) eNil))))
    sNil) sNil)
    (sSeq (sIf (eTru (eBin oLt (eVar 3) (eC (.int 2)))) (sSeq (sRet (eTup (eCons (eC (.str "no")) (eCons (eBin oIx (eLst (eCons (eC (.str "paper")) (eCons (eC (.str "usable")) eNil))) (eVar 3)) (eCons (eFld fl_ "word" (eVar 0)) (eCons (eFld fl_ "at" (eVar 0)) eNil))))))
    sNil) sNil)
    (sSeq (sIf (eTru (eBin oEq (eVar 3) (eC (.int 4)))) (sSeq (sRet (eTup (eCons (eC (.str "no")) (eCons (eC (.str "undo")) (eCons (eFld fl_ "steps" (eVar 0)) eNil)))))
    sNil) sNil)
    (sSeq (sRet (eIf (eTru (eBin oEq (eVar 3) (eC (.int 5)))) (eTup (eCons (eC (.str "no")) (eCons (eC (.str "text")) (eCons (eFld fl_ "line" (eVar 0)) (eCons (eFld fl_ "field" (eVar 0)) eNil))))) (eTup (eCons (eC (.str "no")) (eCons (eC (.str "far")) eNil)))))
    sNil))))))))))
def F_law_refusal : Fn := defF false 4 B_law_refusal
def B_Width___bool__ : SemS := (sSeq (sRet (eBl oBool (eCons (eBin oNe (eGet1 "Width" "_number" (eVar 0)) (eC (.int 0))) eNil)))
    sNil)
def F_Width___bool__ : Fn := defF false 1 B_Width___bool__
abbrev L_number_text_0 : SemS := (sSeq (sDrop (eApp (eVar 2) (eCons (eM1 oZfill (eBl oStr (eCons (eBin oMod (eVar 1) (eC (.int 1000000000000000000000000000000000000000000000000000000000000))) eNil)) (eC (.int 60))) eNil)))
    (sSeq (sSet 1 (eBin oDiv (eVar 1) (eC (.int 1000000000000000000000000000000000000000000000000000000000000))))
    sNil))
def B_number_text : SemS := (sSeq (sSet 1 (eVar 0))
    (sSeq (sSet 2 (eMk (eLst eNil)))
    (sSeq (whileL (eTru (eBin oGe (eVar 1) (eC (.int 1000000000000000000000000000000000000000000000000000000000000)))) (L_number_text_0) 1000000)
    (sSeq (sDrop (eApp (eVar 2) (eCons (eBl oStr (eCons (eVar 1) eNil)) eNil)))
    (sSeq (sRet (eM1 oJoin (eC (.str "")) (eUn oRev (eVar 2))))
    sNil)))))
def F_number_text : Fn := defF false 3 B_number_text
def B_Width___str__ : SemS := (sSeq (sIf (eTru (eBin (oIs false) (eGet1 "Width" "_number" (eVar 0)) (eC .non))) (sSeq (sRet (eC (.str "endless")))
    sNil) sNil)
    (sSeq (sRet (eBl oStr (eCons (eCall (ar 1 F_number_text) [] (eCons (eGet1 "Width" "_number" (eVar 0)) eNil)) eNil)))
    sNil))
def F_Width___str__ : Fn := defF false 1 B_Width___str__
def B_Width_number : SemS := (sSeq (sRet (eGet1 "Width" "_number" (eVar 0)))
    sNil)
def F_Width_number : Fn := defF false 1 B_Width_number
def B_law_fits : SemS := (sSeq (sSet 2 (eIf (eTru (eBin (oIs false) (eVar 1) (eC .non))) (eC (.str "endless")) (eBl oStr (eCons (eVar 1) eNil))))
    (sSeq (sRet (eBin oEq (eBl oRepr (eCons (eLst (eCons (eProp "Width" F_Width_number (eVar 0)) (eCons (eBl (by1 "Width" F_Width___str__ wStr oStr) (eCons (eVar 0) eNil)) (eCons (eBl (by1 "Width" F_Width___bool__ wBl oBool) (eCons (eVar 0) eNil)) eNil)))) eNil)) (eBl oRepr (eCons (eLst (eCons (eVar 1) (eCons (eVar 2) (eCons (eBin oNe (eVar 1) (eC (.int 0))) eNil)))) eNil))))
    sNil))
def F_law_fits : Fn := defF false 3 B_law_fits
def B_is_integer : SemS := (sSeq (sRet (eAnd (eUn (oIsi "int") (eVar 0)) (eNot (eUn (oIsi "bool") (eVar 0)))))
    sNil)
def F_is_integer : Fn := defF false 1 B_is_integer
def B_is_number : SemS := (sSeq (sRet (eAnd (eCall (ar 1 F_is_integer) [] (eCons (eVar 0) eNil)) (eBin oGe (eVar 0) (eC (.int 0)))))
    sNil)
def F_is_number : Fn := defF false 1 B_is_number
def B_Width___init__ : Ini := (nIf (bAnd (eTru (eBin (oIs true) (eVar 1) (eC .non))) (bNot (eTru (eCall (ar 1 F_is_number) [] (eCons (eVar 1) eNil))))) (sSeq (sRaise "NotUsable" ["word", "at"] (eCons (eC (.str "number")) (eCons (eUn oNeg (eC (.int 1))) eNil)))
    sNil)
    (nFld "_number" (eVar 1)
    nEnd))
def F_Width___init__ : List D → Store → Out (List (Str × D)) := iniF 2 B_Width___init__
def B_Width___add__ : SemS := (sSeq (sIf (bNot (eTru (eCall (ar 1 F_is_number) [] (eCons (eVar 1) eNil)))) (sSeq (sRaise "NotUsable" ["word", "at"] (eCons (eC (.str "other")) (eCons (eUn oNeg (eC (.int 1))) eNil)))
    sNil) sNil)
    (sSeq (sRet (eIf (eTru (eBin (oIs false) (eGet1 "Width" "_number" (eVar 0)) (eC .non))) (eNew "Width" 1 F_Width___init__ [.non] eNil) (eNew "Width" 1 F_Width___init__ [] (eCons (eBin oAdd (eGet1 "Width" "_number" (eVar 0)) (eVar 1)) eNil))))
    sNil))
def F_Width___add__ : Fn := defF false 2 B_Width___add__
def B_Width___radd__ : SemS := (sSeq (sRet (eBin (byL "Width" F_Width___add__ oAdd) (eVar 0) (eVar 1)))
    sNil)
def F_Width___radd__ : Fn := defF false 2 B_Width___radd__
def B_law_sum_right : SemS := (sSeq (sSet 3 (eIf (eTru (eBin (oIs false) (eVar 1) (eC .non))) (eC .non) (eBin oAdd (eVar 1) (eVar 2))))
    (sSeq (sRet (eAnd (eCall (ar 2 F_law_fits) [] (eCons (eBin (byL "Width" F_Width___add__ oAdd) (eVar 0) (eVar 2)) (eCons (eVar 3) eNil))) (eAnd (eCall (ar 2 F_law_fits) [] (eCons (eBin (byR "Width" F_Width___radd__ oAdd) (eVar 2) (eVar 0)) (eCons (eVar 3) eNil))) (eCall (ar 2 F_law_fits) [] (eCons (eVar 0) (eCons (eVar 1) eNil))))))
    sNil))
def F_law_sum_right : Fn := defF false 4 B_law_sum_right
def B_Width___ge__ : SemS := (sSeq (sIf (bNot (eTru (eUn (oIsC ss_Width) (eVar 1)))) (sSeq sBad
    sNil) sNil)
    (sSeq (sRet (eOr (eBin (oIs false) (eGet1 "Width" "_number" (eVar 0)) (eC .non)) (eAnd (eBin (oIs true) (eGet1 "Width" "_number" (eVar 1)) (eC .non)) (eBin oGe (eGet1 "Width" "_number" (eVar 0)) (eGet1 "Width" "_number" (eVar 1))))))
    sNil))
def F_Width___ge__ : Fn := defF false 2 B_Width___ge__
def B_Width___or__ : SemS := (sSeq (sIf (bNot (eTru (eUn (oIsC ss_Width) (eVar 1)))) (sSeq (sRaise "NotUsable" ["word", "at"] (eCons (eC (.str "other")) (eCons (eUn oNeg (eC (.int 1))) eNil)))
    sNil) sNil)
    (sSeq (sRet (eNew "Width" 1 F_Width___init__ [] (eCons (eIf (eTru (eBin (byC "Width" F_Width___ge__ oGe) (eVar 0) (eVar 1))) (eGet1 "Width" "_number" (eVar 0)) (eGet1 "Width" "_number" (eVar 1))) eNil)))
    sNil))
def F_Width___or__ : Fn := defF false 2 B_Width___or__
def B_Width___le__ : SemS := (sSeq (sIf (bNot (eTru (eUn (oIsC ss_Width) (eVar 1)))) (sSeq sBad
    sNil) sNil)
    (sSeq (sRet (eOr (eBin (oIs false) (eGet1 "Width" "_number" (eVar 1)) (eC .non)) (eAnd (eBin (oIs true) (eGet1 "Width" "_number" (eVar 0)) (eC .non)) (eBin oLe (eGet1 "Width" "_number" (eVar 0)) (eGet1 "Width" "_number" (eVar 1))))))
    sNil))
def F_Width___le__ : Fn := defF false 2 B_Width___le__
def B_Width___and__ : SemS := (sSeq (sIf (bNot (eTru (eUn (oIsC ss_Width) (eVar 1)))) (sSeq (sRaise "NotUsable" ["word", "at"] (eCons (eC (.str "other")) (eCons (eUn oNeg (eC (.int 1))) eNil)))
    sNil) sNil)
    (sSeq (sRet (eNew "Width" 1 F_Width___init__ [] (eCons (eIf (eTru (eBin (byC "Width" F_Width___le__ oLe) (eVar 0) (eVar 1))) (eGet1 "Width" "_number" (eVar 0)) (eGet1 "Width" "_number" (eVar 1))) eNil)))
    sNil))
def F_Width___and__ : Fn := defF false 2 B_Width___and__
def B_Width___eq__ : SemS := (sSeq (sRet (eAnd (eUn (oIsC ss_Width) (eVar 1)) (eBin oEq (eGet1 "Width" "_number" (eVar 0)) (eGet1 "Width" "_number" (eVar 1)))))
    sNil)
def F_Width___eq__ : Fn := defF false 2 B_Width___eq__
def B_law_refused_right : SemS := (sSeq (sSet 3 (eTup (eCons (eC (.str "no")) (eCons (eC (.str "usable")) (eCons (eC (.str "other")) (eCons (eUn oNeg (eC (.int 1))) eNil))))))
    (sSeq (sIf (bOr (eTru (eBin oNe (eSaid sb "ChargeError" "told" F_law_refusal (eBin (byL "Width" F_Width___and__ oNo) (eVar 0) (eVar 2))) (eVar 3))) (eTru (eBin (byC "Width" F_Width___eq__ oEq) (eVar 0) (eVar 2)))) (sSeq (sRet (eC (.bl false)))
    sNil) sNil)
    (sSeq (sIf (eTru (eBin oNe (eSaid sb "ChargeError" "told" F_law_refusal (eBin (byL "Width" F_Width___or__ oNo) (eVar 0) (eVar 2))) (eVar 3))) (sSeq (sRet (eC (.bl false)))
    sNil) sNil)
    (sSeq (sSet 4 (eAnd (eUn (oIsi "int") (eVar 2)) (eAnd (eNot (eUn (oIsi "bool") (eVar 2))) (eBin oGe (eVar 2) (eC (.int 0))))))
    (sSeq (sIf (eTru (eVar 4)) (sSeq (sRet (eCall (ar 3 F_law_sum_right) [] (eCons (eVar 0) (eCons (eVar 1) (eCons (eVar 2) eNil)))))
    sNil) sNil)
    (sSeq (sIf (eTru (eBin oNe (eSaid sb "ChargeError" "told" F_law_refusal (eBin (byL "Width" F_Width___add__ oAdd) (eVar 0) (eVar 2))) (eVar 3))) (sSeq (sRet (eC (.bl false)))
    sNil) sNil)
    (sSeq (sRet (eBin oEq (eSaid sb "ChargeError" "told" F_law_refusal (eBin (byR "Width" F_Width___radd__ oAdd) (eVar 2) (eVar 0))) (eVar 3)))
    sNil)))))))
def F_law_refused_right : Fn := defF false 5 B_law_refused_right
def B_law_draw : SemS := (sSeq (sPut (eVar 0) (eC (.int 3)) (eBin oAdd (eBin oIx (eVar 0) (eC (.int 3))) (eC (.int 1))))
    (sSeq (sIf (eTru (eBin oGt (eBin oIx (eVar 0) (eC (.int 2))) (eC (.int 0)))) (sSeq (sSet 2 (eBin oMod (eBl oInt (eCons (eBin oIx (eVar 0) (eC (.int 2))) eNil)) (eVar 1)))
    (sSeq (sPut (eVar 0) (eC (.int 2)) (eBin oDiv (eBin oIx (eVar 0) (eC (.int 2))) (eVar 1)))
    (sSeq (sRet (eVar 2))
    sNil))) sNil)
    (sSeq (sSet 3 (eBin oIx (eVar 0) (eC (.int 1))))
    (sSeq (sPut (eVar 0) (eC (.int 1)) (eBin oAdd (eVar 3) (eC (.int 1))))
    (sSeq (sSet 4 (eIf (eTru (eBin oNe (eBin oIx (eVar 0) (eC (.int 0))) (eLst eNil))) (eBin oIx (eBin oIx (eVar 0) (eC (.int 0))) (eBin oMod (eBl oInt (eCons (eVar 3) eNil)) (eBl oLen (eCons (eBin oIx (eVar 0) (eC (.int 0))) eNil)))) (eC (.int 53))))
    (sSeq (sIf (bAnd (eTru (eBin oGe (eVar 4) (eBin oPow (eC (.int 10)) (eC (.int 18))))) (eTru (eBin oLt (eVar 3) (eBl oLen (eCons (eBin oIx (eVar 0) (eC (.int 0))) eNil))))) (sSeq (sPut (eVar 0) (eC (.int 2)) (eBin oDiv (eVar 4) (eVar 1)))
    (sSeq (sRet (eBin oMod (eBl oInt (eCons (eVar 4) eNil)) (eVar 1)))
    sNil)) sNil)
    (sSeq (sSet 5 (eBin oMod (eBl oInt (eCons (eBin oPow (eBin oAdd (eBin oAdd (eBin oMod (eBl oInt (eCons (eVar 4) eNil)) (eC (.int 1999999927))) (eBin oMul (eC (.int 48017)) (eBin oIx (eVar 0) (eC (.int 3))))) (eC (.int 173))) (eC (.int 3))) eNil)) (eC (.int 2147483423))))
    (sSeq (sSet 5 (eBin oMod (eBl oInt (eCons (eBin oPow (eBin oAdd (eBin oAdd (eVar 5) (eBin oMul (eBin oMul (eC (.int 8111)) (eBin oIx (eVar 0) (eC (.int 3)))) (eBin oIx (eVar 0) (eC (.int 3))))) (eC (.int 67))) (eC (.int 5))) eNil)) (eC (.int 2147483477))))
    (sSeq (sRet (eBin oMod (eBl oInt (eCons (eBin oDiv (eVar 5) (eC (.int 64))) eNil)) (eVar 1)))
    sNil)))))))))
def F_law_draw : Fn := defF false 6 B_law_draw
def B_law_pair_right : SemS := (sSeq (sSet 4 (eBin oEq (eVar 2) (eVar 3)))
    (sSeq (sSet 5 (eOr (eBin (oIs false) (eVar 3) (eC .non)) (eAnd (eBin (oIs true) (eVar 2) (eC .non)) (eBin oLe (eVar 2) (eVar 3)))))
    (sSeq (sSet 6 (eOr (eBin (oIs false) (eVar 2) (eC .non)) (eAnd (eBin (oIs true) (eVar 3) (eC .non)) (eBin oGe (eVar 2) (eVar 3)))))
    (sSeq (sSet 7 (eLst (eCons (eBin (byC "Width" F_Width___eq__ oEq) (eVar 0) (eVar 1)) (eCons (eBin (byC "Width" F_Width___le__ oLe) (eVar 0) (eVar 1)) (eCons (eBin (byC "Width" F_Width___ge__ oGe) (eVar 0) (eVar 1)) (eCons (eBin (byC "Width" F_Width___le__ oLe) (eVar 1) (eVar 0)) (eCons (eBin (byC "Width" F_Width___ge__ oGe) (eVar 1) (eVar 0)) eNil)))))))
    (sSeq (sIf (eTru (eBin oNe (eBl oRepr (eCons (eVar 7) eNil)) (eBl oRepr (eCons (eLst (eCons (eVar 4) (eCons (eVar 5) (eCons (eVar 6) (eCons (eVar 6) (eCons (eVar 5) eNil)))))) eNil)))) (sSeq (sRet (eC (.bl false)))
    sNil) sNil)
    (sSeq (sUnp [8, 9] (eIf (eTru (eVar 5)) (eTup (eCons (eVar 2) (eCons (eVar 3) eNil))) (eTup (eCons (eVar 3) (eCons (eVar 2) eNil)))))
    (sSeq (sIf (bOr (bNot (eTru (eCall (ar 2 F_law_fits) [] (eCons (eBin (byL "Width" F_Width___and__ oNo) (eVar 0) (eVar 1)) (eCons (eVar 8) eNil))))) (bNot (eTru (eCall (ar 2 F_law_fits) [] (eCons (eBin (byL "Width" F_Width___or__ oNo) (eVar 0) (eVar 1)) (eCons (eVar 9) eNil)))))) (sSeq (sRet (eC (.bl false)))
    sNil) sNil)
    (sSeq (sRet (eAnd (eCall (ar 2 F_law_fits) [] (eCons (eVar 0) (eCons (eVar 2) eNil))) (eCall (ar 2 F_law_fits) [] (eCons (eVar 1) (eCons (eVar 3) eNil)))))
    sNil))))))))
def F_law_pair_right : Fn := defF false 10 B_law_pair_right
def B_law_amount : SemS := (sSeq (sSet 1 (eCall (ar 2 F_law_draw) [] (eCons (eVar 0) (eCons (eC (.int 5)) eNil))))
    (sSeq (sIf (eTru (eBin oLt (eVar 1) (eC (.int 3)))) (sSeq (sRet (eCall (ar 2 F_law_draw) [] (eCons (eVar 0) (eCons (eBin oIx (eLst (eCons (eC (.int 4)) (eCons (eC (.int 10)) (eCons (eC (.int 120)) eNil)))) (eVar 1)) eNil))))
    sNil) sNil)
    (sSeq (sSet 2 (eIf (eTru (eBin oEq (eVar 1) (eC (.int 3)))) (eBin oPow (eC (.int 10)) (eC (.int 18))) (eBin oPow (eC (.int 10)) (eC (.int 59)))))
    (sSeq (sRet (eBin oAdd (eBin oSub (eVar 2) (eC (.int 2))) (eCall (ar 2 F_law_draw) [] (eCons (eVar 0) (eCons (eC (.int 4)) eNil)))))
    sNil))))
def F_law_amount : Fn := defF false 3 B_law_amount
def B_law_tape : SemS := (sSeq (sRet (eMk (eLst (eCons (eSl (eVar 0) none (some (eC (.int 63)))) (eCons (eC (.int 0)) (eCons (eC (.int 0)) (eCons (eC (.int 0)) eNil)))))))
    sNil)
def F_law_tape : Fn := defF true 1 B_law_tape
abbrev L_law_0 : SemS := (sSeq (sIf (eTru (eBin oNe (eSaid sb "ChargeError" "told" F_law_refusal (eNew "Width" 1 F_Width___init__ [] (eCons (eVar 10) eNil))) (eTup (eCons (eC (.str "no")) (eCons (eC (.str "usable")) (eCons (eC (.str "number")) (eCons (eUn oNeg (eC (.int 1))) eNil))))))) (sSeq (sRet (eC (.bl false)))
    sNil) sNil)
    sNil)
abbrev L_law_1 : SemS := (sSeq (sSet 9 (eCall (ar 2 F_law_draw) [] (eCons (eVar 1) (eCons (eBl oLen (eCons (eVar 4) eNil)) eNil))))
    (sSeq (sIf (bNot (eTru (eCall (ar 3 F_law_refused_right) [] (eCons (eBin oIx (eVar 4) (eVar 9)) (eCons (eBin oIx (eVar 2) (eVar 9)) (eCons (eBin oIx (eVar 8) (eVar 3)) eNil)))))) (sSeq (sRet (eC (.bl false)))
    sNil) sNil)
    sNil))
abbrev L_law_2 : SemS := (sSeq (sIf (bNot (eTru (eCall (ar 4 F_law_pair_right) [] (eCons (eBin oIx (eVar 4) (eVar 6)) (eCons (eBin oIx (eVar 4) (eVar 7)) (eCons (eBin oIx (eVar 2) (eVar 6)) (eCons (eBin oIx (eVar 2) (eVar 7)) eNil))))))) (sSeq (sRet (eC (.bl false)))
    sNil) sNil)
    (sSeq (sIf (bAnd (eTru (eBin (oIs true) (eBin oIx (eVar 2) (eVar 7)) (eC .non))) (bNot (eTru (eCall (ar 3 F_law_sum_right) [] (eCons (eBin oIx (eVar 4) (eVar 6)) (eCons (eBin oIx (eVar 2) (eVar 6)) (eCons (eBin oIx (eVar 2) (eVar 7)) eNil))))))) (sSeq (sRet (eC (.bl false)))
    sNil) sNil)
    sNil))
abbrev L_law_3 : SemS := (sSeq (sFor (.nm 7) (iRg1 (eCons (eBl oLen (eCons (eVar 2) eNil)) eNil)) (L_law_2) 1000000)
    sNil)
def B_law : SemS := (sSeq (sSet 1 (eCall (ar 1 F_law_tape) [] (eCons (eVar 0) eNil)))
    (sSeq (sSet 2 (eMk (eBin oAdd (eComp (.nm 3) (iRg1 (eCons (eC (.int 5)) eNil)) none (eCall (ar 1 F_law_amount) [] (eCons (eVar 1) eNil)) [3] 1000000) (eLst (eCons (eC (.int 0)) (eCons (eC .non) eNil))))))
    (sSeq (sDrop (eApp (eVar 2) (eCons (eIf (bOr (eTru (eBin oEq (eCall (ar 2 F_law_draw) [] (eCons (eVar 1) (eCons (eC (.int 2)) eNil))) (eC (.int 0)))) (eTru (eBin (oIs false) (eBin oIx (eVar 2) (eC (.int 0))) (eC .non)))) (eBin oIx (eVar 2) (eC (.int 0))) (eBin oAdd (eBin oIx (eVar 2) (eC (.int 0))) (eC (.int 1)))) eNil)))
    (sSeq (sSet 4 (eComp (.nm 5) (iSeq (eVar 2)) none (eIf (eTru (eBin (oIs true) (eVar 5) (eC .non))) (eNew "Width" 1 F_Width___init__ [] (eCons (eVar 5) eNil)) (eNew "Width" 1 F_Width___init__ [.non] eNil)) [5] 1000000))
    (sSeq (sFor (.nm 6) (iRg1 (eCons (eBl oLen (eCons (eVar 2) eNil)) eNil)) (L_law_3) 1000000)
    (sSeq (sSet 8 (eLst (eCons (eC .non) (eCons (eC (.bl true)) (eCons (eC (.bl false)) (eCons (eUn oNeg (eC (.int 1))) (eCons (eC (.str "endless")) (eCons (eC (.str "3")) (eCons (eTup eNil) (eCons (eLst eNil) (eCons (eTup (eCons (eC (.int 3)) eNil)) (eCons (eBin oIx (eVar 2) (eC (.int 0))) (eCons (eBl oStr (eCons (eBin oIx (eVar 2) (eC (.int 0))) eNil)) (eCons (eBin oSub (eUn oNeg (eC (.int 1))) (eBin oIx (eVar 2) (eC (.int 1)))) eNil))))))))))))))
    (sSeq (sFor (.nm 3) (iRg1 (eCons (eBl oLen (eCons (eVar 8) eNil)) eNil)) (L_law_1) 1000000)
    (sSeq (sFor (.nm 10) (iSeq (eTup (eCons (eC (.bl true)) (eCons (eC (.bl false)) (eCons (eUn oNeg (eC (.int 1))) (eCons (eC (.str "3")) (eCons (eTup eNil) (eCons (eLst eNil) (eCons (eC (.str "endless")) (eCons (eTup (eCons (eC (.int 0)) eNil)) (eCons (eBin oSub (eUn oNeg (eC (.int 1))) (eBin oIx (eVar 2) (eC (.int 2)))) eNil))))))))))) (L_law_0) 1000000)
    (sSeq (sRet (eAnd (eCall (ar 2 F_law_fits) [] (eCons (eNewO "Width" 1 0 1 F_Width___init__ eNil (eCons (eBin oIx (eVar 2) (eC (.int 3))) eNil)) (eCons (eBin oIx (eVar 2) (eC (.int 3))) eNil))) (eCall (ar 2 F_law_fits) [] (eCons (eNew "Width" 1 F_Width___init__ [] (eCons (eC .non) eNil)) (eCons (eC .non) eNil)))))
    sNil)))))))))
def F_law : Fn := defF false 11 B_law
end K23
namespace K23
open PySem PySem.Spec PyProof.Rows L2 PySem.Calls Pv
theorem seen_eq (t : PySem.W.SharedT) : seen t = theHook.obs t.abs := Pv.obsZ_eq fun a => HandSHeadRun.getT_eq t a
section
open PySem PySem.W PySem.Calls PyProof.Rows
theorem both {α β γ δ : Type} {o : Option α} {f : α → β × γ} {g : α → δ} {b : β} {c : γ} {d : δ} (h : o.map f = some (b, c)) (k : o.map g = some d) : o.map (fun s => ((f s).1, (f s).2, g s)) = some (b, c, d) := by
  cases o with
  | none => cases h
  | some s =>
    have h : f s = (b, c) := Option.some.inj h
    have k : g s = d := Option.some.inj k
    show some ((f s).1, (f s).2, g s) = _
    rw [h, k]
end
end K23
namespace K23
open PySem PySem.Spec PyProof.Rows L2 PySem.Calls Pv
/-- the names that stand for what they always stand for, and the constants -/
structure Gm (K : PySem.W.Frag) (w : World) (mg : Str → Option Value) : Prop where
  ValueError : mg "ValueError" = Option.none
  abs : mg "abs" = Option.none
  all : mg "all" = Option.none
  bool : mg "bool" = Option.none
  dict : mg "dict" = Option.none
  enumerate : mg "enumerate" = Option.none
  int : mg "int" = Option.none
  isinstance : mg "isinstance" = Option.none
  len : mg "len" = Option.none
  list : mg "list" = Option.none
  max : mg "max" = Option.none
  min : mg "min" = Option.none
  range : mg "range" = Option.none
  repr : mg "repr" = Option.none
  set : mg "set" = Option.none
  sorted : mg "sorted" = Option.none
  str : mg "str" = Option.none
  sum : mg "sum" = Option.none
  tuple : mg "tuple" = Option.none
  zip : mg "zip" = Option.none
  x_TextError : ∃ a, mg "TextError" = some (.ref a)
  x_MachineError : ∃ a, mg "MachineError" = some (.ref a)
  x_ProgramError : ∃ a, mg "ProgramError" = some (.ref a)
  x_PaperError : ∃ a, mg "PaperError" = some (.ref a)
  x_InvalidRow : ∃ a, mg "InvalidRow" = some (.ref a)
  x_InvalidText : ∃ a, mg "InvalidText" = some (.ref a)
  x_NothingToUndo : ∃ a, mg "NothingToUndo" = some (.ref a)
  x_InvalidEvent : ∃ a, mg "InvalidEvent" = some (.ref a)
  x_NeverEnough : ∃ a, mg "NeverEnough" = some (.ref a)
  x_NotUsable : ∃ a, mg "NotUsable" = some (.ref a)
  x_InvalidPaper : ∃ a, mg "InvalidPaper" = some (.ref a)
  x_ChargeError : ∃ a, mg "ChargeError" = some (.ref a)
  c_BLOCK_DIGITS : ∃ t, mg "BLOCK_DIGITS" = some (.int 60 t)
  c_BLOCK : ∃ t, mg "BLOCK" = some (.int 1000000000000000000000000000000000000000000000000000000000000 t)
  kit_Width : KitC K mg "Width" ss_Width
  fld_Width__number : FldC K "Width" "_number"
  bin_Width_add : BinK K "Width" "add"
  bin_Width_or : BinK K "Width" "or"
  bin_Width_and : BinK K "Width" "and"
variable {P : Program} {w : World} {K : PySem.W.Frag} {mg : Str → Option Value} {base : Heap} {cls : CL} {f : Addr} {fd : FuncData}
def N_law_refusal : List Str := ["_law_error", "_law_sorts", "_law_families", "_law_at"]
theorem sc_law_refusal : FnScope N_law_refusal ["_law_error"] (defScope (top 26)) := ⟨rfl, rfl, rfl, by decide +kernel, rfl, by decide +kernel, by decide +kernel⟩
theorem bdE_law_refusal (Mg : Gm K w mg) (Mx : Mxs K mg cls sb fl_) (cdv : Value) (A : Around) (outer : List PySem.Env) (s : Shared) (H : Hp) (R : RT) (E : XK) (p : Addr × Obj) (B : Be (L2H.cxH (L2.CX P w) P w K mg base N_law_refusal "_law_refusal" (defScope (top 26)) f cdv A outer s H E p) ⟨K, R, cls, E⟩) :
    PSs (L2H.cxH (L2.CX P w) P w K mg base N_law_refusal "_law_refusal" (defScope (top 26)) f cdv A outer s H E p) (defBody (top 26)) (mT ⟨K, R, cls, E⟩ B_law_refusal) := by
  have nd := (sc_law_refusal).nd
  exact (t_cons (zSet 1 nd (m_lst (qC (q_isX B Mx.kit Mg.isinstance Mg.x_InvalidPaper (qV 0)) (qC (q_isX B Mx.kit Mg.isinstance Mg.x_NotUsable (qV 0)) (qC (q_isX B Mx.kit Mg.isinstance Mg.x_NeverEnough (qV 0)) m_nil)))))
    (t_cons (zSet 1 nd (qAdd B.K (qV 1) (m_lst (qC (q_isX B Mx.kit Mg.isinstance Mg.x_InvalidEvent (qV 0)) (qC (q_isX B Mx.kit Mg.isinstance Mg.x_NothingToUndo (qV 0)) m_nil)))))
    (t_cons (zSet 1 nd (qAdd B.K (qV 1) (m_lst (qC (q_isX B Mx.kit Mg.isinstance Mg.x_InvalidText (qV 0)) (qC (q_isX B Mx.kit Mg.isinstance Mg.x_InvalidRow (qV 0)) m_nil)))))
    (t_cons (zSet 2 nd (m_lst (qC (q_isX B Mx.kit Mg.isinstance Mg.x_PaperError (qV 0)) (qC (q_isX B Mx.kit Mg.isinstance Mg.x_ProgramError (qV 0)) m_nil))))
    (t_cons (zSet 2 nd (qAdd B.K (qV 2) (m_lst (qC (q_isX B Mx.kit Mg.isinstance Mg.x_MachineError (qV 0)) (qC (q_isX B Mx.kit Mg.isinstance Mg.x_TextError (qV 0)) m_nil)))))
    (t_cons (zSet 3 nd (m_if (tEq B.K B.u (qCount B.K (qV 1) (qC m_bl m_nil)) m_int) (qIndex B.K (qV 1) (qC m_bl m_nil)) m_int))
    (t_cons (t_if (PW.pt (b_or (tEq B.K B.u (qV 3) m_int) (b_or (tNe B.K B.u (qV 2) (m_lst (qC (qEq B.K B.u (qV 3) m_int) (qC (qIn B.K B.u65 (qV 3) (m_tup (qC m_int (qC m_int m_nil)))) (qC (qIn B.K B.u65 (qV 3) (m_tup (qC m_int (qC m_int m_nil)))) (qC (qGt (qV 3) m_int) m_nil)))))) (pw_or1 (b_not (tV B.K (q_isVE B Mx.kit Mg.isinstance Mg.ValueError (qV 0)))))))) (t_cons (t_ret (m_tup (qC m_str (qC m_str m_nil))))
    t_nil) t_nil)
    (t_cons (t_if (tLt (qV 3) m_int) (t_cons (t_ret (m_tup (qC m_str (qC (qIx B.K B.u (m_lst (qC m_str (qC m_str m_nil))) (qV 3)) (qC (q_fld B Mx.fld (qV 0)) (qC (q_fld B Mx.fld (qV 0)) m_nil))))))
    t_nil) t_nil)
    (t_cons (t_if (tEq B.K B.u (qV 3) m_int) (t_cons (t_ret (m_tup (qC m_str (qC m_str (qC (q_fld B Mx.fld (qV 0)) m_nil)))))
    t_nil) t_nil)
    (t_cons (t_ret (m_if (tEq B.K B.u (qV 3) m_int) (m_tup (qC m_str (qC m_str (qC (q_fld B Mx.fld (qV 0)) (qC (q_fld B Mx.fld (qV 0)) m_nil))))) (m_tup (qC m_str (qC m_str m_nil)))))
    t_nil))))))))))
theorem okE_law_refusal (D : FunD K "_law_refusal" "_law_refusal" (defArgs (top 26)) (defBody (top 26)) (defScope (top 26)) [] [] f fd) (Mg : Gm K w mg) (Mx : Mxs K mg cls sb fl_) : FnE P w K mg base 1 f fd ["_law_error"] (spE K cls F_law_refusal) := FnE.ofM (b := false) D sc_law_refusal (bdE_law_refusal Mg Mx)
def N_Width___bool__ : List Str := ["self"]
theorem sc_Width___bool__ : FnScope N_Width___bool__ ["self"] (defScope (clsDef (top 21) 9)) := ⟨rfl, rfl, rfl, by decide +kernel, rfl, by decide +kernel, by decide +kernel⟩
theorem bd_Width___bool__ (Mg : Gm K w mg)   (cdv : Value) (A : Around) (outer : List PySem.Env) (s : Shared) (H : Hp) (R : RT) (E : XK) (hT : RtOk R cls.T) (room : Room 0 (A.deeper (envOfC "Width.__bool__" (defScope (clsDef (top 21) 9)) s.heap.objs.size f cdv))) (gd : Gds 0 A) :
    PSs (cxOf (L2.CX P w) P w K mg base N_Width___bool__ "Width.__bool__" (defScope (clsDef (top 21) 9)) f cdv A outer s H E) (defBody (clsDef (top 21) 9)) (mT ⟨K, R, cls, E⟩ B_Width___bool__) := by
  have B : Bd (cxOf (L2.CX P w) P w K mg base N_Width___bool__ "Width.__bool__" (defScope (clsDef (top 21) 9)) f cdv A outer s H E) ⟨K, R, cls, E⟩ 0 := ⟨rfl, room, gd, hT, pass_def, tk_def, rfl⟩
  have nd := (sc_Width___bool__).nd
  exact (t_cons (t_ret (m_callTyP cbp_bool0 Mg.bool PyProof.Rows.boot_bool (qC (qNe B.K B.u (q_fldO Mg.fld_Width__number B (qV 0)) m_int) m_nil)))
    t_nil)
theorem ok_Width___bool__ {C : Addr} (I : InsK K "Width" C) (one : PySem.W.selfFirst K C = true) (Mt : Meth K C "__bool__" f) (D : FunD K "__bool__" "Width.__bool__" (defArgs (clsDef (top 21) 9)) (defBody (clsDef (top 21) 9)) (defScope (clsDef (top 21) 9)) [] [] f fd) (Mg : Gm K w mg)   : OpF P w K mg base cls 1 "Width" "__bool__" 1 F_Width___bool__ := ⟨C, f, fd, ["self"], I, Mt, FnG.ofM (b := false) D sc_Width___bool__ (bd_Width___bool__ Mg  ), D.bindsN fun _ _ _ _ _ _ us hl => match us, hl with | [_], _ => rfl, one⟩
def N_number_text : List Str := ["number", "rest", "blocks"]
theorem sc_number_text : FnScope N_number_text ["number"] (defScope (top 19)) := ⟨rfl, rfl, rfl, by decide +kernel, rfl, by decide +kernel, by decide +kernel⟩
theorem bd_number_text (Mg : Gm K w mg)   (cdv : Value) (A : Around) (outer : List PySem.Env) (s : Shared) (H : Hp) (R : RT) (E : XK) (hT : RtOk R cls.T) (room : Room 0 (A.deeper (envOfC "number_text" (defScope (top 19)) s.heap.objs.size f cdv))) (gd : Gds 0 A) :
    PSs (cxOf (L2.CX P w) P w K mg base N_number_text "number_text" (defScope (top 19)) f cdv A outer s H E) (defBody (top 19)) (mT ⟨K, R, cls, E⟩ (B_number_text)) := by
  have B : Bd (cxOf (L2.CX P w) P w K mg base N_number_text "number_text" (defScope (top 19)) f cdv A outer s H E) ⟨K, R, cls, E⟩ 0 := ⟨rfl, room, gd, hT, pass_def, tk_def, rfl⟩
  have nd := (sc_number_text).nd
  exact (t_cons (zSet 1 nd (qV 0))
    (t_cons (zSet 2 nd (m_mk (s_lst m_nil)))
    (t_cons (t_while (passes_of rfl) (tGe (qV 1) (qGI Mg.c_BLOCK)) (t_cons (zDrop (qApp B.K (qV 2) (qC (qZfill (qStr Mg.str (qC (qMod (qV 1) (qGI Mg.c_BLOCK)) m_nil)) (qGI Mg.c_BLOCK_DIGITS)) m_nil)))
    (t_cons (zSet 1 nd (qDiv (qV 1) (qGI Mg.c_BLOCK)))
    t_nil)))
    (t_cons (zDrop (qApp B.K (qV 2) (qC (qStr Mg.str (qC (qV 1) m_nil)) m_nil)))
    (t_cons (t_ret (qJoin B.K m_str (m_rev B.K (qV 2))))
    t_nil)))))
theorem ok_number_text (D : FunD K "number_text" "number_text" (defArgs (top 19)) (defBody (top 19)) (defScope (top 19)) [] [] f fd) (at_ : mg "number_text" = some (.ref f)) (Mg : Gm K w mg)   : FnC P w K mg base cls 1 "number_text" 1 F_number_text [] :=
  ⟨f, fd, ["number"], [], [], FnG.ofM (b := false) D sc_number_text (bd_number_text Mg  ), at_, D.kp, D.bindsN fun _ _ _ _ _ _ us hl => match us, hl with | [_], _ => rfl, .nil, .nil⟩
def N_Width___str__ : List Str := ["self"]
theorem sc_Width___str__ : FnScope N_Width___str__ ["self"] (defScope (clsDef (top 21) 10)) := ⟨rfl, rfl, rfl, by decide +kernel, rfl, by decide +kernel, by decide +kernel⟩
theorem bd_Width___str__ (Mg : Gm K w mg)  (C_number_text : FnC P w K mg base cls 1 "number_text" 1 F_number_text []) (cdv : Value) (A : Around) (outer : List PySem.Env) (s : Shared) (H : Hp) (R : RT) (E : XK) (hT : RtOk R cls.T) (room : Room 1 (A.deeper (envOfC "Width.__str__" (defScope (clsDef (top 21) 10)) s.heap.objs.size f cdv))) (gd : Gds 1 A) :
    PSs (cxOf (L2.CX P w) P w K mg base N_Width___str__ "Width.__str__" (defScope (clsDef (top 21) 10)) f cdv A outer s H E) (defBody (clsDef (top 21) 10)) (mT ⟨K, R, cls, E⟩ B_Width___str__) := by
  have B : Bd (cxOf (L2.CX P w) P w K mg base N_Width___str__ "Width.__str__" (defScope (clsDef (top 21) 10)) f cdv A outer s H E) ⟨K, R, cls, E⟩ 1 := ⟨rfl, room, gd, hT, pass_def, tk_def, rfl⟩
  have nd := (sc_Width___str__).nd
  exact (t_cons (t_if (tIs (q_fldO Mg.fld_Width__number B (qV 0)) m_non) (t_cons (t_ret m_str)
    t_nil) t_nil)
    (t_cons (t_ret (qStr Mg.str (qC (qCall C_number_text B (qC (q_fldO Mg.fld_Width__number B (qV 0)) m_nil) ) m_nil)))
    t_nil))
theorem ok_Width___str__ {C : Addr} (I : InsK K "Width" C) (one : PySem.W.selfFirst K C = true) (Mt : Meth K C "__str__" f) (D : FunD K "__str__" "Width.__str__" (defArgs (clsDef (top 21) 10)) (defBody (clsDef (top 21) 10)) (defScope (clsDef (top 21) 10)) [] [] f fd) (Mg : Gm K w mg)  (C_number_text : FnC P w K mg base cls 1 "number_text" 1 F_number_text []) : OpF P w K mg base cls 2 "Width" "__str__" 1 F_Width___str__ := ⟨C, f, fd, ["self"], I, Mt, FnG.ofM (b := false) D sc_Width___str__ (bd_Width___str__ Mg  C_number_text), D.bindsN fun _ _ _ _ _ _ us hl => match us, hl with | [_], _ => rfl, one⟩
def N_Width_number : List Str := ["self"]
theorem sc_Width_number : FnScope N_Width_number ["self"] (defScope (clsDef (top 21) 1)) := ⟨rfl, rfl, rfl, by decide +kernel, rfl, by decide +kernel, by decide +kernel⟩
theorem bd_Width_number (Mg : Gm K w mg)   (cdv : Value) (A : Around) (outer : List PySem.Env) (s : Shared) (H : Hp) (R : RT) (E : XK) (hT : RtOk R cls.T) (room : Room 0 (A.deeper (envOfC "Width.number" (defScope (clsDef (top 21) 1)) s.heap.objs.size f cdv))) (gd : Gds 0 A) :
    PSs (cxOf (L2.CX P w) P w K mg base N_Width_number "Width.number" (defScope (clsDef (top 21) 1)) f cdv A outer s H E) (defBody (clsDef (top 21) 1)) (mT ⟨K, R, cls, E⟩ B_Width_number) := by
  have B : Bd (cxOf (L2.CX P w) P w K mg base N_Width_number "Width.number" (defScope (clsDef (top 21) 1)) f cdv A outer s H E) ⟨K, R, cls, E⟩ 0 := ⟨rfl, room, gd, hT, pass_def, tk_def, rfl⟩
  have nd := (sc_Width_number).nd
  exact (t_cons (t_ret (q_fldO Mg.fld_Width__number B (qV 0)))
    t_nil)
theorem ok_Width_number {C p : Addr} (I : InsK K "Width" C) (hP : PropOf K C "number" p f) (D : FunD K "number" "Width.number" (defArgs (clsDef (top 21) 1)) (defBody (clsDef (top 21) 1)) (defScope (clsDef (top 21) 1)) [] [] f fd) (Mg : Gm K w mg)   : PrpC P w K mg base cls 1 "Width" "number" F_Width_number := ⟨C, f, p, fd, ["self"], I, hP, FnG.ofM (b := false) D sc_Width_number (bd_Width_number Mg  ), D.bindsN fun _ _ _ _ _ _ us hl => match us, hl with | [_], _ => rfl⟩
def N_law_fits : List Str := ["_law_one", "_law_amount_here", "_law_due"]
theorem sc_law_fits : FnScope N_law_fits ["_law_one", "_law_amount_here"] (defScope (top 29)) := ⟨rfl, rfl, rfl, by decide +kernel, rfl, by decide +kernel, by decide +kernel⟩
theorem bd_law_fits (Mg : Gm K w mg) (C_Width___bool__ : OpF P w K mg base cls 1 "Width" "__bool__" 1 F_Width___bool__) (C_Width___str__ : OpF P w K mg base cls 2 "Width" "__str__" 1 F_Width___str__) (P_Width_number : PrpC P w K mg base cls 1 "Width" "number" F_Width_number)  (cdv : Value) (A : Around) (outer : List PySem.Env) (s : Shared) (H : Hp) (R : RT) (E : XK) (hT : RtOk R cls.T) (room : Room 150 (A.deeper (envOfC "_law_fits" (defScope (top 29)) s.heap.objs.size f cdv))) (gd : Gds 150 A) :
    PSs (cxOf (L2.CX P w) P w K mg base N_law_fits "_law_fits" (defScope (top 29)) f cdv A outer s H E) (defBody (top 29)) (mT ⟨K, R, cls, E⟩ (B_law_fits)) := by
  have B : Bd (cxOf (L2.CX P w) P w K mg base N_law_fits "_law_fits" (defScope (top 29)) f cdv A outer s H E) ⟨K, R, cls, E⟩ 150 := ⟨rfl, room, gd, hT, pass_def, tk_def, rfl⟩
  have nd := (sc_law_fits).nd
  exact (t_cons (zSet 2 nd (m_if (tIs (qV 1) m_non) m_str (qStr Mg.str (qC (qV 1) m_nil))))
    (t_cons (t_ret (qEq B.K B.u (qRepr B.K (B.gd (by decide)) B.u66 Mg.repr (qC (m_lst (qC (q_prop P_Width_number B (qV 0)) (qC (m_callTyP (cbp_str C_Width___str__ B cbp_str0) Mg.str PyProof.Rows.boot_str (qC (qV 0) m_nil)) (qC (m_callTyP (cbp_bool C_Width___bool__ B cbp_bool0) Mg.bool PyProof.Rows.boot_bool (qC (qV 0) m_nil)) m_nil)))) m_nil)) (qRepr B.K (B.gd (by decide)) B.u66 Mg.repr (qC (m_lst (qC (qV 1) (qC (qV 2) (qC (qNe B.K B.u (qV 1) m_int) m_nil)))) m_nil))))
    t_nil))
theorem ok_law_fits (D : FunD K "_law_fits" "_law_fits" (defArgs (top 29)) (defBody (top 29)) (defScope (top 29)) [] [] f fd) (at_ : mg "_law_fits" = some (.ref f)) (Mg : Gm K w mg) (C_Width___bool__ : OpF P w K mg base cls 1 "Width" "__bool__" 1 F_Width___bool__) (C_Width___str__ : OpF P w K mg base cls 2 "Width" "__str__" 1 F_Width___str__) (P_Width_number : PrpC P w K mg base cls 1 "Width" "number" F_Width_number)  : FnC P w K mg base cls 151 "_law_fits" 2 F_law_fits [] :=
  ⟨f, fd, ["_law_one", "_law_amount_here"], [], [], FnG.ofM (b := false) D sc_law_fits (bd_law_fits Mg C_Width___bool__ C_Width___str__ P_Width_number ), at_, D.kp, D.bindsN fun _ _ _ _ _ _ us hl => match us, hl with | [_, _], _ => rfl, .nil, .nil⟩
def N_is_integer : List Str := ["thing"]
theorem sc_is_integer : FnScope N_is_integer ["thing"] (defScope (top 14)) := ⟨rfl, rfl, rfl, by decide +kernel, rfl, by decide +kernel, by decide +kernel⟩
theorem bd_is_integer (Mg : Gm K w mg)   (cdv : Value) (A : Around) (outer : List PySem.Env) (s : Shared) (H : Hp) (R : RT) (E : XK) (hT : RtOk R cls.T) (room : Room 0 (A.deeper (envOfC "is_integer" (defScope (top 14)) s.heap.objs.size f cdv))) (gd : Gds 0 A) :
    PSs (cxOf (L2.CX P w) P w K mg base N_is_integer "is_integer" (defScope (top 14)) f cdv A outer s H E) (defBody (top 14)) (mT ⟨K, R, cls, E⟩ (B_is_integer)) := by
  have B : Bd (cxOf (L2.CX P w) P w K mg base N_is_integer "is_integer" (defScope (top 14)) f cdv A outer s H E) ⟨K, R, cls, E⟩ 0 := ⟨rfl, room, gd, hT, pass_def, tk_def, rfl⟩
  have nd := (sc_is_integer).nd
  exact (t_cons (t_ret (m_and B.K (qIsi B.K Mg.isinstance Mg.int PyProof.Rows.boot_int (qV 0)) (pe_one (m_not B.K (qIsi B.K Mg.isinstance Mg.bool PyProof.Rows.boot_bool (qV 0))))))
    t_nil)
theorem ok_is_integer (D : FunD K "is_integer" "is_integer" (defArgs (top 14)) (defBody (top 14)) (defScope (top 14)) [] [] f fd) (at_ : mg "is_integer" = some (.ref f)) (Mg : Gm K w mg)   : FnC P w K mg base cls 1 "is_integer" 1 F_is_integer [] :=
  ⟨f, fd, ["thing"], [], [], FnG.ofM (b := false) D sc_is_integer (bd_is_integer Mg  ), at_, D.kp, D.bindsN fun _ _ _ _ _ _ us hl => match us, hl with | [_], _ => rfl, .nil, .nil⟩
def N_is_number : List Str := ["thing"]
theorem sc_is_number : FnScope N_is_number ["thing"] (defScope (top 15)) := ⟨rfl, rfl, rfl, by decide +kernel, rfl, by decide +kernel, by decide +kernel⟩
theorem bd_is_number (Mg : Gm K w mg)  (C_is_integer : FnC P w K mg base cls 1 "is_integer" 1 F_is_integer []) (cdv : Value) (A : Around) (outer : List PySem.Env) (s : Shared) (H : Hp) (R : RT) (E : XK) (hT : RtOk R cls.T) (room : Room 1 (A.deeper (envOfC "is_number" (defScope (top 15)) s.heap.objs.size f cdv))) (gd : Gds 1 A) :
    PSs (cxOf (L2.CX P w) P w K mg base N_is_number "is_number" (defScope (top 15)) f cdv A outer s H E) (defBody (top 15)) (mT ⟨K, R, cls, E⟩ (B_is_number)) := by
  have B : Bd (cxOf (L2.CX P w) P w K mg base N_is_number "is_number" (defScope (top 15)) f cdv A outer s H E) ⟨K, R, cls, E⟩ 1 := ⟨rfl, room, gd, hT, pass_def, tk_def, rfl⟩
  have nd := (sc_is_number).nd
  exact (t_cons (t_ret (m_and B.K (qCall C_is_integer B (qC (qV 0) m_nil) ) (pe_one (qGe (qV 0) m_int))))
    t_nil)
theorem ok_is_number (D : FunD K "is_number" "is_number" (defArgs (top 15)) (defBody (top 15)) (defScope (top 15)) [] [] f fd) (at_ : mg "is_number" = some (.ref f)) (Mg : Gm K w mg)  (C_is_integer : FnC P w K mg base cls 1 "is_integer" 1 F_is_integer []) : FnC P w K mg base cls 2 "is_number" 1 F_is_number [] :=
  ⟨f, fd, ["thing"], [], [], FnG.ofM (b := false) D sc_is_number (bd_is_number Mg  C_is_integer), at_, D.kp, D.bindsN fun _ _ _ _ _ _ us hl => match us, hl with | [_], _ => rfl, .nil, .nil⟩
def N_Width___init__ : List Str := ["self", "number"]
theorem sc_Width___init__ : FnScope N_Width___init__ ["self", "number"] (defScope (clsDef (top 21) 0)) := ⟨rfl, rfl, rfl, by decide +kernel, rfl, by decide +kernel, by decide +kernel⟩
theorem bd_Width___init__ {C : Addr} (hC : Cls K C) (a__number : NoAttr K C "_number") (Mg : Gm K w mg) (W_NotUsable : Xc P w K mg base cls "NotUsable" ["word", "at"]) (C_is_number : FnC P w K mg base cls 2 "is_number" 1 F_is_number []) (cdv : Value) (A : Around) (outer : List PySem.Env) (s : Shared) (H : Hp) (R : RT) (E : XK) (y dy : Addr) (hT : RtOk R cls.T) (room : Room 2 (A.deeper (envOfC "Width.__init__" (defScope (clsDef (top 21) 0)) s.heap.objs.size f cdv))) (gd : Gds 2 A) :
    PSs (cxOf (L2.CX P w) P w K mg base N_Width___init__ "Width.__init__" (defScope (clsDef (top 21) 0)) f cdv A outer s H E) (defBody (clsDef (top 21) 0)) (mN ⟨K, R, cls, E⟩ y C dy B_Width___init__) := by
  have B : Bd (cxOf (L2.CX P w) P w K mg base N_Width___init__ "Width.__init__" (defScope (clsDef (top 21) 0)) f cdv A outer s H E) ⟨K, R, cls, E⟩ 2 := ⟨rfl, room, gd, hT, pass_def, tk_def, rfl⟩
  have nd := (sc_Width___init__).nd
  exact (n_if (PW.pt (b_and (tIsNot (qV 1) m_non) (pw_and1 (b_not (tV B.K (qCall C_is_number B (qC (qV 1) m_nil) )))))) (t_cons (t_raise B W_NotUsable (qC m_str (qC (qNeg m_int) m_nil)) )
    t_nil)
    (n_fld (pe_var rfl (by first | exact Or.inl rfl | exact Or.inr (Or.inl rfl) | exact Or.inr (Or.inr rfl))) (qV 1) n_end rfl hC a__number))
theorem okNK_Width_number {C : Addr} (M : Mk K C f) (at_ : mg "Width" = some (.ref C)) (I : InsK K "Width" C) (a__number : NoAttr K C "_number") (D : FunD K "__init__" "Width.__init__" (defArgs (clsDef (top 21) 0)) (defBody (clsDef (top 21) 0)) (defScope (clsDef (top 21) 0)) [V.non] [] f fd) (Mg : Gm K w mg) (W_NotUsable : Xc P w K mg base cls "NotUsable" ["word", "at"]) (C_is_number : FnC P w K mg base cls 2 "is_number" 1 F_is_number []) : ObjK P w K mg base cls 3 "Width" 1 F_Width___init__ 0 ["number"] := by
  exact ⟨C, f, fd, _, M, at_, I.nm, iniN_fn D sc_Width___init__ (fun cdv A outer s H R E y dy hT room gd => bd_Width___init__ I.cl a__number Mg W_NotUsable C_is_number cdv A outer s H R E y dy hT room gd), kbind1 (ps := ["self", "number"]) D 1 ["number"] (by simp) fun _ _ _ _ _ _ _ us its ws h1 h2 h3 => match us, its, ws, h1, h2, h3 with | [_], [_], [_], _, _, _ => ⟨_, rfl, rfl⟩⟩
theorem okN_Width_1 {C : Addr} (M : Mk K C f) (at_ : mg "Width" = some (.ref C)) (I : InsK K "Width" C) (a__number : NoAttr K C "_number") (D : FunD K "__init__" "Width.__init__" (defArgs (clsDef (top 21) 0)) (defBody (clsDef (top 21) 0)) (defScope (clsDef (top 21) 0)) [V.non] [] f fd) (Mg : Gm K w mg) (W_NotUsable : Xc P w K mg base cls "NotUsable" ["word", "at"]) (C_is_number : FnC P w K mg base cls 2 "is_number" 1 F_is_number []) : ObjG P w K mg base cls 3 "Width" 1 F_Width___init__ [] := by
  obtain ⟨ds, hv, hb⟩ := D.binds1 (ps := ["self", "number"]) 2 1 (by simp) rfl fun _ _ _ _ _ _ _ us its h1 h2 => match us, its, h1, h2 with | [_, _], [_], _, _ => ⟨_, rfl, rfl⟩
  exact ⟨C, f, fd, _, _, ds, M, at_, I.nm, iniN_fn D sc_Width___init__ (fun cdv A outer s H R E y dy hT room gd => bd_Width___init__ I.cl a__number Mg W_NotUsable C_is_number cdv A outer s H R E y dy hT room gd), hb, hv, fun _ _ _ _ => .nil⟩
theorem okN_Width_0 {C : Addr} (M : Mk K C f) (at_ : mg "Width" = some (.ref C)) (I : InsK K "Width" C) (a__number : NoAttr K C "_number") (D : FunD K "__init__" "Width.__init__" (defArgs (clsDef (top 21) 0)) (defBody (clsDef (top 21) 0)) (defScope (clsDef (top 21) 0)) [V.non] [] f fd) (Mg : Gm K w mg) (W_NotUsable : Xc P w K mg base cls "NotUsable" ["word", "at"]) (C_is_number : FnC P w K mg base cls 2 "is_number" 1 F_is_number []) : ObjG P w K mg base cls 3 "Width" 1 F_Width___init__ [.non] := by
  obtain ⟨ds, hv, hb⟩ := D.binds1 (ps := ["self", "number"]) 1 0 (by simp) rfl fun _ _ _ _ _ _ _ us its h1 h2 => match us, its, h1, h2 with | [_], [_], _, _ => ⟨_, rfl, rfl⟩
  exact ⟨C, f, fd, _, _, ds, M, at_, I.nm, iniN_fn D sc_Width___init__ (fun cdv A outer s H R E y dy hT room gd => bd_Width___init__ I.cl a__number Mg W_NotUsable C_is_number cdv A outer s H R E y dy hT room gd), hb, hv, fun _ _ _ _ => .cons .non (.nil)⟩
def N_Width___add__ : List Str := ["self", "other"]
theorem sc_Width___add__ : FnScope N_Width___add__ ["self", "other"] (defScope (clsDef (top 21) 5)) := ⟨rfl, rfl, rfl, by decide +kernel, rfl, by decide +kernel, by decide +kernel⟩
theorem bd_Width___add__ (Mg : Gm K w mg) (W_NotUsable : Xc P w K mg base cls "NotUsable" ["word", "at"]) (N_Width_0 : ObjG P w K mg base cls 3 "Width" 1 F_Width___init__ [.non]) (N_Width_1 : ObjG P w K mg base cls 3 "Width" 1 F_Width___init__ []) (C_is_number : FnC P w K mg base cls 2 "is_number" 1 F_is_number []) (cdv : Value) (A : Around) (outer : List PySem.Env) (s : Shared) (H : Hp) (R : RT) (E : XK) (hT : RtOk R cls.T) (room : Room 4 (A.deeper (envOfC "Width.__add__" (defScope (clsDef (top 21) 5)) s.heap.objs.size f cdv))) (gd : Gds 4 A) :
    PSs (cxOf (L2.CX P w) P w K mg base N_Width___add__ "Width.__add__" (defScope (clsDef (top 21) 5)) f cdv A outer s H E) (defBody (clsDef (top 21) 5)) (mT ⟨K, R, cls, E⟩ B_Width___add__) := by
  have B : Bd (cxOf (L2.CX P w) P w K mg base N_Width___add__ "Width.__add__" (defScope (clsDef (top 21) 5)) f cdv A outer s H E) ⟨K, R, cls, E⟩ 4 := ⟨rfl, room, gd, hT, pass_def, tk_def, rfl⟩
  have nd := (sc_Width___add__).nd
  exact (t_cons (t_if (b_not (tV B.K (qCall C_is_number B (qC (qV 1) m_nil) ))) (t_cons (t_raise B W_NotUsable (qC m_str (qC (qNeg m_int) m_nil)) )
    t_nil) t_nil)
    (t_cons (t_ret (m_if (tIs (q_fldO Mg.fld_Width__number B (qV 0)) m_non) (q_new0 N_Width_0 B) (q_new N_Width_1 B (qC (qAdd B.K (q_fldO Mg.fld_Width__number B (qV 0)) (qV 1)) m_nil))))
    t_nil))
theorem ok_Width___add__ {C : Addr} (I : InsK K "Width" C) (one : PySem.W.selfFirst K C = true) (Mt : Meth K C "__add__" f) (D : FunD K "__add__" "Width.__add__" (defArgs (clsDef (top 21) 5)) (defBody (clsDef (top 21) 5)) (defScope (clsDef (top 21) 5)) [] [] f fd) (Mg : Gm K w mg) (W_NotUsable : Xc P w K mg base cls "NotUsable" ["word", "at"]) (N_Width_0 : ObjG P w K mg base cls 3 "Width" 1 F_Width___init__ [.non]) (N_Width_1 : ObjG P w K mg base cls 3 "Width" 1 F_Width___init__ []) (C_is_number : FnC P w K mg base cls 2 "is_number" 1 F_is_number []) : OpF P w K mg base cls 5 "Width" "__add__" 2 F_Width___add__ := ⟨C, f, fd, ["self", "other"], I, Mt, FnG.ofM (b := false) D sc_Width___add__ (bd_Width___add__ Mg W_NotUsable N_Width_0 N_Width_1 C_is_number), D.bindsN fun _ _ _ _ _ _ us hl => match us, hl with | [_, _], _ => rfl, one⟩
def N_Width___radd__ : List Str := ["self", "other"]
theorem sc_Width___radd__ : FnScope N_Width___radd__ ["self", "other"] (defScope (clsDef (top 21) 6)) := ⟨rfl, rfl, rfl, by decide +kernel, rfl, by decide +kernel, by decide +kernel⟩
theorem bd_Width___radd__ (Mg : Gm K w mg) (C_Width___add__ : OpF P w K mg base cls 5 "Width" "__add__" 2 F_Width___add__)  (cdv : Value) (A : Around) (outer : List PySem.Env) (s : Shared) (H : Hp) (R : RT) (E : XK) (hT : RtOk R cls.T) (room : Room 5 (A.deeper (envOfC "Width.__radd__" (defScope (clsDef (top 21) 6)) s.heap.objs.size f cdv))) (gd : Gds 5 A) :
    PSs (cxOf (L2.CX P w) P w K mg base N_Width___radd__ "Width.__radd__" (defScope (clsDef (top 21) 6)) f cdv A outer s H E) (defBody (clsDef (top 21) 6)) (mT ⟨K, R, cls, E⟩ B_Width___radd__) := by
  have B : Bd (cxOf (L2.CX P w) P w K mg base N_Width___radd__ "Width.__radd__" (defScope (clsDef (top 21) 6)) f cdv A outer s H E) ⟨K, R, cls, E⟩ 5 := ⟨rfl, room, gd, hT, pass_def, tk_def, rfl⟩
  have nd := (sc_Width___radd__).nd
  exact (t_cons (t_ret (m_binP (opp_bin C_Width___add__ Mg.bin_Width_add B (opp_add B.K) (by kernel_rfl)) (qV 0) (qV 1)))
    t_nil)
theorem ok_Width___radd__ {C : Addr} (I : InsK K "Width" C) (one : PySem.W.selfFirst K C = true) (Mt : Meth K C "__radd__" f) (D : FunD K "__radd__" "Width.__radd__" (defArgs (clsDef (top 21) 6)) (defBody (clsDef (top 21) 6)) (defScope (clsDef (top 21) 6)) [] [] f fd) (Mg : Gm K w mg) (C_Width___add__ : OpF P w K mg base cls 5 "Width" "__add__" 2 F_Width___add__)  : OpF P w K mg base cls 6 "Width" "__radd__" 2 F_Width___radd__ := ⟨C, f, fd, ["self", "other"], I, Mt, FnG.ofM (b := false) D sc_Width___radd__ (bd_Width___radd__ Mg C_Width___add__ ), D.bindsN fun _ _ _ _ _ _ us hl => match us, hl with | [_, _], _ => rfl, one⟩
def N_law_sum_right : List Str := ["_law_one", "_law_left", "_law_amount_here", "_law_due"]
theorem sc_law_sum_right : FnScope N_law_sum_right ["_law_one", "_law_left", "_law_amount_here"] (defScope (top 31)) := ⟨rfl, rfl, rfl, by decide +kernel, rfl, by decide +kernel, by decide +kernel⟩
theorem bd_law_sum_right (Mg : Gm K w mg) (C_Width___add__ : OpF P w K mg base cls 5 "Width" "__add__" 2 F_Width___add__) (C_Width___radd__ : OpF P w K mg base cls 6 "Width" "__radd__" 2 F_Width___radd__) (C_law_fits : FnC P w K mg base cls 151 "_law_fits" 2 F_law_fits []) (cdv : Value) (A : Around) (outer : List PySem.Env) (s : Shared) (H : Hp) (R : RT) (E : XK) (hT : RtOk R cls.T) (room : Room 151 (A.deeper (envOfC "_law_sum_right" (defScope (top 31)) s.heap.objs.size f cdv))) (gd : Gds 151 A) :
    PSs (cxOf (L2.CX P w) P w K mg base N_law_sum_right "_law_sum_right" (defScope (top 31)) f cdv A outer s H E) (defBody (top 31)) (mT ⟨K, R, cls, E⟩ (B_law_sum_right)) := by
  have B : Bd (cxOf (L2.CX P w) P w K mg base N_law_sum_right "_law_sum_right" (defScope (top 31)) f cdv A outer s H E) ⟨K, R, cls, E⟩ 151 := ⟨rfl, room, gd, hT, pass_def, tk_def, rfl⟩
  have nd := (sc_law_sum_right).nd
  exact (t_cons (zSet 3 nd (m_if (tIs (qV 1) m_non) m_non (qAdd B.K (qV 1) (qV 2))))
    (t_cons (t_ret (m_and B.K (qCall C_law_fits B (qC (m_binP (opp_bin C_Width___add__ Mg.bin_Width_add B (opp_add B.K) (by kernel_rfl)) (qV 0) (qV 2)) (qC (qV 3) m_nil)) ) (m_and B.K (qCall C_law_fits B (qC (m_binP (opp_radd C_Width___radd__ C_Width___add__ Mg.bin_Width_add B (opp_add B.K)) (qV 2) (qV 0)) (qC (qV 3) m_nil)) ) (pe_one (qCall C_law_fits B (qC (qV 0) (qC (qV 1) m_nil)) )))))
    t_nil))
theorem ok_law_sum_right (D : FunD K "_law_sum_right" "_law_sum_right" (defArgs (top 31)) (defBody (top 31)) (defScope (top 31)) [] [] f fd) (at_ : mg "_law_sum_right" = some (.ref f)) (Mg : Gm K w mg) (C_Width___add__ : OpF P w K mg base cls 5 "Width" "__add__" 2 F_Width___add__) (C_Width___radd__ : OpF P w K mg base cls 6 "Width" "__radd__" 2 F_Width___radd__) (C_law_fits : FnC P w K mg base cls 151 "_law_fits" 2 F_law_fits []) : FnC P w K mg base cls 152 "_law_sum_right" 3 F_law_sum_right [] :=
  ⟨f, fd, ["_law_one", "_law_left", "_law_amount_here"], [], [], FnG.ofM (b := false) D sc_law_sum_right (bd_law_sum_right Mg C_Width___add__ C_Width___radd__ C_law_fits), at_, D.kp, D.bindsN fun _ _ _ _ _ _ us hl => match us, hl with | [_, _, _], _ => rfl, .nil, .nil⟩
def N_Width___ge__ : List Str := ["self", "other"]
theorem sc_Width___ge__ : FnScope N_Width___ge__ ["self", "other"] (defScope (clsDef (top 21) 4)) := ⟨rfl, rfl, rfl, by decide +kernel, rfl, by decide +kernel, by decide +kernel⟩
theorem bd_Width___ge__ (Mg : Gm K w mg)   (cdv : Value) (A : Around) (outer : List PySem.Env) (s : Shared) (H : Hp) (R : RT) (E : XK) (hT : RtOk R cls.T) (room : Room 0 (A.deeper (envOfC "Width.__ge__" (defScope (clsDef (top 21) 4)) s.heap.objs.size f cdv))) (gd : Gds 0 A) :
    PSs (cxOf (L2.CX P w) P w K mg base N_Width___ge__ "Width.__ge__" (defScope (clsDef (top 21) 4)) f cdv A outer s H E) (defBody (clsDef (top 21) 4)) (mT ⟨K, R, cls, E⟩ B_Width___ge__) := by
  have B : Bd (cxOf (L2.CX P w) P w K mg base N_Width___ge__ "Width.__ge__" (defScope (clsDef (top 21) 4)) f cdv A outer s H E) ⟨K, R, cls, E⟩ 0 := ⟨rfl, room, gd, hT, pass_def, tk_def, rfl⟩
  have nd := (sc_Width___ge__).nd
  exact (t_cons (t_if (b_not (tV B.K (q_isC Mg.kit_Width B Mg.isinstance (qV 1)))) (t_cons t_bad
    t_nil) t_nil)
    (t_cons (t_ret (m_or B.K (qIs (q_fldO Mg.fld_Width__number B (qV 0)) m_non) (pe_one (m_and B.K (qIsNot (q_fldO Mg.fld_Width__number B (qV 1)) m_non) (pe_one (qGe (q_fldO Mg.fld_Width__number B (qV 0)) (q_fldO Mg.fld_Width__number B (qV 1))))))))
    t_nil))
theorem ok_Width___ge__ {C : Addr} (I : InsK K "Width" C) (one : PySem.W.selfFirst K C = true) (Mt : Meth K C "__ge__" f) (D : FunD K "__ge__" "Width.__ge__" (defArgs (clsDef (top 21) 4)) (defBody (clsDef (top 21) 4)) (defScope (clsDef (top 21) 4)) [] [] f fd) (Mg : Gm K w mg)   : OpF P w K mg base cls 1 "Width" "__ge__" 2 F_Width___ge__ := ⟨C, f, fd, ["self", "other"], I, Mt, FnG.ofM (b := false) D sc_Width___ge__ (bd_Width___ge__ Mg  ), D.bindsN fun _ _ _ _ _ _ us hl => match us, hl with | [_, _], _ => rfl, one⟩
def N_Width___or__ : List Str := ["self", "other"]
theorem sc_Width___or__ : FnScope N_Width___or__ ["self", "other"] (defScope (clsDef (top 21) 8)) := ⟨rfl, rfl, rfl, by decide +kernel, rfl, by decide +kernel, by decide +kernel⟩
theorem bd_Width___or__ (Mg : Gm K w mg) (W_NotUsable : Xc P w K mg base cls "NotUsable" ["word", "at"]) (C_Width___ge__ : OpF P w K mg base cls 1 "Width" "__ge__" 2 F_Width___ge__) (N_Width_1 : ObjG P w K mg base cls 3 "Width" 1 F_Width___init__ [])  (cdv : Value) (A : Around) (outer : List PySem.Env) (s : Shared) (H : Hp) (R : RT) (E : XK) (hT : RtOk R cls.T) (room : Room 4 (A.deeper (envOfC "Width.__or__" (defScope (clsDef (top 21) 8)) s.heap.objs.size f cdv))) (gd : Gds 4 A) :
    PSs (cxOf (L2.CX P w) P w K mg base N_Width___or__ "Width.__or__" (defScope (clsDef (top 21) 8)) f cdv A outer s H E) (defBody (clsDef (top 21) 8)) (mT ⟨K, R, cls, E⟩ B_Width___or__) := by
  have B : Bd (cxOf (L2.CX P w) P w K mg base N_Width___or__ "Width.__or__" (defScope (clsDef (top 21) 8)) f cdv A outer s H E) ⟨K, R, cls, E⟩ 4 := ⟨rfl, room, gd, hT, pass_def, tk_def, rfl⟩
  have nd := (sc_Width___or__).nd
  exact (t_cons (t_if (b_not (tV B.K (q_isC Mg.kit_Width B Mg.isinstance (qV 1)))) (t_cons (t_raise B W_NotUsable (qC m_str (qC (qNeg m_int) m_nil)) )
    t_nil) t_nil)
    (t_cons (t_ret (q_new N_Width_1 B (qC (m_if (b_cmpP (opp_cmp' C_Width___ge__ B opp_ge) (byC_bl blD_ge) (qV 0) (qV 1)) (q_fldO Mg.fld_Width__number B (qV 0)) (q_fldO Mg.fld_Width__number B (qV 1))) m_nil)))
    t_nil))
theorem ok_Width___or__ {C : Addr} (I : InsK K "Width" C) (one : PySem.W.selfFirst K C = true) (Mt : Meth K C "__or__" f) (D : FunD K "__or__" "Width.__or__" (defArgs (clsDef (top 21) 8)) (defBody (clsDef (top 21) 8)) (defScope (clsDef (top 21) 8)) [] [] f fd) (Mg : Gm K w mg) (W_NotUsable : Xc P w K mg base cls "NotUsable" ["word", "at"]) (C_Width___ge__ : OpF P w K mg base cls 1 "Width" "__ge__" 2 F_Width___ge__) (N_Width_1 : ObjG P w K mg base cls 3 "Width" 1 F_Width___init__ [])  : OpF P w K mg base cls 5 "Width" "__or__" 2 F_Width___or__ := ⟨C, f, fd, ["self", "other"], I, Mt, FnG.ofM (b := false) D sc_Width___or__ (bd_Width___or__ Mg W_NotUsable C_Width___ge__ N_Width_1 ), D.bindsN fun _ _ _ _ _ _ us hl => match us, hl with | [_, _], _ => rfl, one⟩
def N_Width___le__ : List Str := ["self", "other"]
theorem sc_Width___le__ : FnScope N_Width___le__ ["self", "other"] (defScope (clsDef (top 21) 3)) := ⟨rfl, rfl, rfl, by decide +kernel, rfl, by decide +kernel, by decide +kernel⟩
theorem bd_Width___le__ (Mg : Gm K w mg)   (cdv : Value) (A : Around) (outer : List PySem.Env) (s : Shared) (H : Hp) (R : RT) (E : XK) (hT : RtOk R cls.T) (room : Room 0 (A.deeper (envOfC "Width.__le__" (defScope (clsDef (top 21) 3)) s.heap.objs.size f cdv))) (gd : Gds 0 A) :
    PSs (cxOf (L2.CX P w) P w K mg base N_Width___le__ "Width.__le__" (defScope (clsDef (top 21) 3)) f cdv A outer s H E) (defBody (clsDef (top 21) 3)) (mT ⟨K, R, cls, E⟩ B_Width___le__) := by
  have B : Bd (cxOf (L2.CX P w) P w K mg base N_Width___le__ "Width.__le__" (defScope (clsDef (top 21) 3)) f cdv A outer s H E) ⟨K, R, cls, E⟩ 0 := ⟨rfl, room, gd, hT, pass_def, tk_def, rfl⟩
  have nd := (sc_Width___le__).nd
  exact (t_cons (t_if (b_not (tV B.K (q_isC Mg.kit_Width B Mg.isinstance (qV 1)))) (t_cons t_bad
    t_nil) t_nil)
    (t_cons (t_ret (m_or B.K (qIs (q_fldO Mg.fld_Width__number B (qV 1)) m_non) (pe_one (m_and B.K (qIsNot (q_fldO Mg.fld_Width__number B (qV 0)) m_non) (pe_one (qLe (q_fldO Mg.fld_Width__number B (qV 0)) (q_fldO Mg.fld_Width__number B (qV 1))))))))
    t_nil))
theorem ok_Width___le__ {C : Addr} (I : InsK K "Width" C) (one : PySem.W.selfFirst K C = true) (Mt : Meth K C "__le__" f) (D : FunD K "__le__" "Width.__le__" (defArgs (clsDef (top 21) 3)) (defBody (clsDef (top 21) 3)) (defScope (clsDef (top 21) 3)) [] [] f fd) (Mg : Gm K w mg)   : OpF P w K mg base cls 1 "Width" "__le__" 2 F_Width___le__ := ⟨C, f, fd, ["self", "other"], I, Mt, FnG.ofM (b := false) D sc_Width___le__ (bd_Width___le__ Mg  ), D.bindsN fun _ _ _ _ _ _ us hl => match us, hl with | [_, _], _ => rfl, one⟩
def N_Width___and__ : List Str := ["self", "other"]
theorem sc_Width___and__ : FnScope N_Width___and__ ["self", "other"] (defScope (clsDef (top 21) 7)) := ⟨rfl, rfl, rfl, by decide +kernel, rfl, by decide +kernel, by decide +kernel⟩
theorem bd_Width___and__ (Mg : Gm K w mg) (W_NotUsable : Xc P w K mg base cls "NotUsable" ["word", "at"]) (C_Width___le__ : OpF P w K mg base cls 1 "Width" "__le__" 2 F_Width___le__) (N_Width_1 : ObjG P w K mg base cls 3 "Width" 1 F_Width___init__ [])  (cdv : Value) (A : Around) (outer : List PySem.Env) (s : Shared) (H : Hp) (R : RT) (E : XK) (hT : RtOk R cls.T) (room : Room 4 (A.deeper (envOfC "Width.__and__" (defScope (clsDef (top 21) 7)) s.heap.objs.size f cdv))) (gd : Gds 4 A) :
    PSs (cxOf (L2.CX P w) P w K mg base N_Width___and__ "Width.__and__" (defScope (clsDef (top 21) 7)) f cdv A outer s H E) (defBody (clsDef (top 21) 7)) (mT ⟨K, R, cls, E⟩ B_Width___and__) := by
  have B : Bd (cxOf (L2.CX P w) P w K mg base N_Width___and__ "Width.__and__" (defScope (clsDef (top 21) 7)) f cdv A outer s H E) ⟨K, R, cls, E⟩ 4 := ⟨rfl, room, gd, hT, pass_def, tk_def, rfl⟩
  have nd := (sc_Width___and__).nd
  exact (t_cons (t_if (b_not (tV B.K (q_isC Mg.kit_Width B Mg.isinstance (qV 1)))) (t_cons (t_raise B W_NotUsable (qC m_str (qC (qNeg m_int) m_nil)) )
    t_nil) t_nil)
    (t_cons (t_ret (q_new N_Width_1 B (qC (m_if (b_cmpP (opp_cmp' C_Width___le__ B opp_le) (byC_bl blD_le) (qV 0) (qV 1)) (q_fldO Mg.fld_Width__number B (qV 0)) (q_fldO Mg.fld_Width__number B (qV 1))) m_nil)))
    t_nil))
theorem ok_Width___and__ {C : Addr} (I : InsK K "Width" C) (one : PySem.W.selfFirst K C = true) (Mt : Meth K C "__and__" f) (D : FunD K "__and__" "Width.__and__" (defArgs (clsDef (top 21) 7)) (defBody (clsDef (top 21) 7)) (defScope (clsDef (top 21) 7)) [] [] f fd) (Mg : Gm K w mg) (W_NotUsable : Xc P w K mg base cls "NotUsable" ["word", "at"]) (C_Width___le__ : OpF P w K mg base cls 1 "Width" "__le__" 2 F_Width___le__) (N_Width_1 : ObjG P w K mg base cls 3 "Width" 1 F_Width___init__ [])  : OpF P w K mg base cls 5 "Width" "__and__" 2 F_Width___and__ := ⟨C, f, fd, ["self", "other"], I, Mt, FnG.ofM (b := false) D sc_Width___and__ (bd_Width___and__ Mg W_NotUsable C_Width___le__ N_Width_1 ), D.bindsN fun _ _ _ _ _ _ us hl => match us, hl with | [_, _], _ => rfl, one⟩
def N_Width___eq__ : List Str := ["self", "other"]
theorem sc_Width___eq__ : FnScope N_Width___eq__ ["self", "other"] (defScope (clsDef (top 21) 2)) := ⟨rfl, rfl, rfl, by decide +kernel, rfl, by decide +kernel, by decide +kernel⟩
theorem bd_Width___eq__ (Mg : Gm K w mg)   (cdv : Value) (A : Around) (outer : List PySem.Env) (s : Shared) (H : Hp) (R : RT) (E : XK) (hT : RtOk R cls.T) (room : Room 0 (A.deeper (envOfC "Width.__eq__" (defScope (clsDef (top 21) 2)) s.heap.objs.size f cdv))) (gd : Gds 0 A) :
    PSs (cxOf (L2.CX P w) P w K mg base N_Width___eq__ "Width.__eq__" (defScope (clsDef (top 21) 2)) f cdv A outer s H E) (defBody (clsDef (top 21) 2)) (mT ⟨K, R, cls, E⟩ B_Width___eq__) := by
  have B : Bd (cxOf (L2.CX P w) P w K mg base N_Width___eq__ "Width.__eq__" (defScope (clsDef (top 21) 2)) f cdv A outer s H E) ⟨K, R, cls, E⟩ 0 := ⟨rfl, room, gd, hT, pass_def, tk_def, rfl⟩
  have nd := (sc_Width___eq__).nd
  exact (t_cons (t_ret (m_and B.K (q_isC Mg.kit_Width B Mg.isinstance (qV 1)) (pe_one (qEq B.K B.u (q_fldO Mg.fld_Width__number B (qV 0)) (q_fldO Mg.fld_Width__number B (qV 1))))))
    t_nil)
theorem ok_Width___eq__ {C : Addr} (I : InsK K "Width" C) (one : PySem.W.selfFirst K C = true) (Mt : Meth K C "__eq__" f) (D : FunD K "__eq__" "Width.__eq__" (defArgs (clsDef (top 21) 2)) (defBody (clsDef (top 21) 2)) (defScope (clsDef (top 21) 2)) [] [] f fd) (Mg : Gm K w mg)   : OpF P w K mg base cls 1 "Width" "__eq__" 2 F_Width___eq__ := ⟨C, f, fd, ["self", "other"], I, Mt, FnG.ofM (b := false) D sc_Width___eq__ (bd_Width___eq__ Mg  ), D.bindsN fun _ _ _ _ _ _ us hl => match us, hl with | [_, _], _ => rfl, one⟩
def N_law_refused_right : List Str := ["_law_one", "_law_left", "_law_odd", "_law_no", "_law_is_amount"]
theorem sc_law_refused_right : FnScope N_law_refused_right ["_law_one", "_law_left", "_law_odd"] (defScope (top 32)) := ⟨rfl, rfl, rfl, by decide +kernel, rfl, by decide +kernel, by decide +kernel⟩
theorem bd_law_refused_right (Mg : Gm K w mg) (Mx : Mxs K mg cls sb fl_) (C_Width___radd__ : OpF P w K mg base cls 6 "Width" "__radd__" 2 F_Width___radd__) (C_Width___add__ : OpF P w K mg base cls 5 "Width" "__add__" 2 F_Width___add__) (C_Width___or__ : OpF P w K mg base cls 5 "Width" "__or__" 2 F_Width___or__) (C_Width___and__ : OpF P w K mg base cls 5 "Width" "__and__" 2 F_Width___and__) (C_Width___eq__ : OpF P w K mg base cls 1 "Width" "__eq__" 2 F_Width___eq__) (C_law_said : SaidC P w K mg base cls 2 "_law_said" "ChargeError" "told" F_law_refusal) (T_law_refused_right : LamH K mg base cls "_law_refused_right" "_law_refused_right.<locals>.<lambda>") (C_law_sum_right : FnC P w K mg base cls 152 "_law_sum_right" 3 F_law_sum_right []) (A : Around) (outer : List PySem.Env) (s : Shared) (H : Hp) (R : RT) (E : XK) (hT : RtOk R cls.T) (room : Room 152 (A.deeper (envOfC "_law_refused_right" (defScope (top 32)) s.heap.objs.size f (.ref (He.codeOf K ("_law_refused_right", Option.none)))))) (gd : Gds 152 A) :
    PSs (cxOf (L2.CX P w) P w K mg base N_law_refused_right "_law_refused_right" (defScope (top 32)) f (.ref (He.codeOf K ("_law_refused_right", Option.none))) A outer s H E) (defBody (top 32)) (mT ⟨K, R, cls, E⟩ (B_law_refused_right)) := by
  have B : Bd (cxOf (L2.CX P w) P w K mg base N_law_refused_right "_law_refused_right" (defScope (top 32)) f (.ref (He.codeOf K ("_law_refused_right", Option.none))) A outer s H E) ⟨K, R, cls, E⟩ 152 := ⟨rfl, room, gd, hT, pass_def, tk_def, rfl⟩
  have nd := (sc_law_refused_right).nd
  exact (t_cons (zSet 3 nd (m_tup (qC m_str (qC m_str (qC m_str (qC (qNeg m_int) m_nil))))))
    (t_cons (t_if (PW.pt (b_or (tNe B.K B.u (qSaid (kb := 5) C_law_said B Mx.sb (Mx.xf _) T_law_refused_right.tb rfl T_law_refused_right.mem T_law_refused_right.one (fun _ _ _ _ _ _ _ B1 => (m_binP (opp_bin C_Width___and__ Mg.bin_Width_and B1 opp_no (by kernel_rfl)) (qV 0) (qV 2))) (L := LamX.lamS_by (sc := defScope (top 32)) (by decide +kernel))) (qV 3)) (pw_or1 (b_cmpP (opp_cmp' C_Width___eq__ B (opp_eq B.K B.u)) (byC_bl blD_eq) (qV 0) (qV 2))))) (t_cons (t_ret m_bl)
    t_nil) t_nil)
    (t_cons (t_if (tNe B.K B.u (qSaid (kb := 5) C_law_said B Mx.sb (Mx.xf _) T_law_refused_right.tb rfl T_law_refused_right.mem T_law_refused_right.one (fun _ _ _ _ _ _ _ B1 => (m_binP (opp_bin C_Width___or__ Mg.bin_Width_or B1 opp_no (by kernel_rfl)) (qV 0) (qV 2))) (L := LamX.lamS_by (sc := defScope (top 32)) (by decide +kernel))) (qV 3)) (t_cons (t_ret m_bl)
    t_nil) t_nil)
    (t_cons (zSet 4 nd (m_and B.K (qIsi B.K Mg.isinstance Mg.int PyProof.Rows.boot_int (qV 2)) (m_and B.K (m_not B.K (qIsi B.K Mg.isinstance Mg.bool PyProof.Rows.boot_bool (qV 2))) (pe_one (qGe (qV 2) m_int)))))
    (t_cons (t_if (tV B.K (qV 4)) (t_cons (t_ret (qCall C_law_sum_right B (qC (qV 0) (qC (qV 1) (qC (qV 2) m_nil))) ))
    t_nil) t_nil)
    (t_cons (t_if (tNe B.K B.u (qSaid (kb := 5) C_law_said B Mx.sb (Mx.xf _) T_law_refused_right.tb rfl T_law_refused_right.mem T_law_refused_right.one (fun _ _ _ _ _ _ _ B1 => (m_binP (opp_bin C_Width___add__ Mg.bin_Width_add B1 (opp_add B1.K) (by kernel_rfl)) (qV 0) (qV 2))) (L := LamX.lamS_by (sc := defScope (top 32)) (by decide +kernel))) (qV 3)) (t_cons (t_ret m_bl)
    t_nil) t_nil)
    (t_cons (t_ret (qEq B.K B.u (qSaid (kb := 6) C_law_said B Mx.sb (Mx.xf _) T_law_refused_right.tb rfl T_law_refused_right.mem T_law_refused_right.one (fun _ _ _ _ _ _ _ B1 => (m_binP (opp_radd C_Width___radd__ C_Width___add__ Mg.bin_Width_add B1 (opp_add B1.K)) (qV 2) (qV 0))) (L := LamX.lamS_by (sc := defScope (top 32)) (by decide +kernel))) (qV 3)))
    t_nil)))))))
theorem ok_law_refused_right (D : FunD K "_law_refused_right" "_law_refused_right" (defArgs (top 32)) (defBody (top 32)) (defScope (top 32)) [] [] f fd) (at_ : mg "_law_refused_right" = some (.ref f)) (ef : He.fAd K ("_law_refused_right", Option.none) = f) (Mg : Gm K w mg) (Mx : Mxs K mg cls sb fl_) (C_Width___radd__ : OpF P w K mg base cls 6 "Width" "__radd__" 2 F_Width___radd__) (C_Width___add__ : OpF P w K mg base cls 5 "Width" "__add__" 2 F_Width___add__) (C_Width___or__ : OpF P w K mg base cls 5 "Width" "__or__" 2 F_Width___or__) (C_Width___and__ : OpF P w K mg base cls 5 "Width" "__and__" 2 F_Width___and__) (C_Width___eq__ : OpF P w K mg base cls 1 "Width" "__eq__" 2 F_Width___eq__) (C_law_said : SaidC P w K mg base cls 2 "_law_said" "ChargeError" "told" F_law_refusal) (T_law_refused_right : LamH K mg base cls "_law_refused_right" "_law_refused_right.<locals>.<lambda>") (C_law_sum_right : FnC P w K mg base cls 152 "_law_sum_right" 3 F_law_sum_right []) : FnC P w K mg base cls 153 "_law_refused_right" 3 F_law_refused_right [] :=
  ⟨f, fd, ["_law_one", "_law_left", "_law_odd"], [], [], FnG.ofMc (b := false) D sc_law_refused_right (p := ("_law_refused_right", Option.none)) ef (bd_law_refused_right Mg Mx C_Width___radd__ C_Width___add__ C_Width___or__ C_Width___and__ C_Width___eq__ C_law_said T_law_refused_right C_law_sum_right), at_, D.kp, D.bindsN fun _ _ _ _ _ _ us hl => match us, hl with | [_, _, _], _ => rfl, .nil, .nil⟩
def N_law_draw : List Str := ["_law_tape_here", "_law_size", "_law_found", "_law_spot", "_law_cell", "_law_mixed"]
theorem sc_law_draw : FnScope N_law_draw ["_law_tape_here", "_law_size"] (defScope (top 24)) := ⟨rfl, rfl, rfl, by decide +kernel, rfl, by decide +kernel, by decide +kernel⟩
theorem bd_law_draw (Mg : Gm K w mg)   (cdv : Value) (A : Around) (outer : List PySem.Env) (s : Shared) (H : Hp) (R : RT) (E : XK) (hT : RtOk R cls.T) (room : Room 0 (A.deeper (envOfC "_law_draw" (defScope (top 24)) s.heap.objs.size f cdv))) (gd : Gds 0 A) :
    PSs (cxOf (L2.CX P w) P w K mg base N_law_draw "_law_draw" (defScope (top 24)) f cdv A outer s H E) (defBody (top 24)) (mT ⟨K, R, cls, E⟩ (B_law_draw)) := by
  have B : Bd (cxOf (L2.CX P w) P w K mg base N_law_draw "_law_draw" (defScope (top 24)) f cdv A outer s H E) ⟨K, R, cls, E⟩ 0 := ⟨rfl, room, gd, hT, pass_def, tk_def, rfl⟩
  have nd := (sc_law_draw).nd
  exact (t_cons (zPut B (qV 0) m_int (qAdd B.K (qIx B.K B.u (qV 0) m_int) m_int))
    (t_cons (t_if (tGt (qIx B.K B.u (qV 0) m_int) m_int) (t_cons (zSet 2 nd (qMod (qInt Mg.int (qC (qIx B.K B.u (qV 0) m_int) m_nil)) (qV 1)))
    (t_cons (zPut B (qV 0) m_int (qDiv (qIx B.K B.u (qV 0) m_int) (qV 1)))
    (t_cons (t_ret (qV 2))
    t_nil))) t_nil)
    (t_cons (zSet 3 nd (qIx B.K B.u (qV 0) m_int))
    (t_cons (zPut B (qV 0) m_int (qAdd B.K (qV 3) m_int))
    (t_cons (zSet 4 nd (m_if (tNe B.K B.u (qIx B.K B.u (qV 0) m_int) (m_lst m_nil)) (qIx B.K B.u (qIx B.K B.u (qV 0) m_int) (qMod (qInt Mg.int (qC (qV 3) m_nil)) (qLen B.K Mg.len (qC (qIx B.K B.u (qV 0) m_int) m_nil)))) m_int))
    (t_cons (t_if (PW.pt (b_and (tGe (qV 4) (qPow m_int m_int)) (pw_and1 (tLt (qV 3) (qLen B.K Mg.len (qC (qIx B.K B.u (qV 0) m_int) m_nil)))))) (t_cons (zPut B (qV 0) m_int (qDiv (qV 4) (qV 1)))
    (t_cons (t_ret (qMod (qInt Mg.int (qC (qV 4) m_nil)) (qV 1)))
    t_nil)) t_nil)
    (t_cons (zSet 5 nd (qMod (qInt Mg.int (qC (qPow (qAdd B.K (qAdd B.K (qMod (qInt Mg.int (qC (qV 4) m_nil)) m_int) (qMul B.K m_int (qIx B.K B.u (qV 0) m_int))) m_int) m_int) m_nil)) m_int))
    (t_cons (zSet 5 nd (qMod (qInt Mg.int (qC (qPow (qAdd B.K (qAdd B.K (qV 5) (qMul B.K (qMul B.K m_int (qIx B.K B.u (qV 0) m_int)) (qIx B.K B.u (qV 0) m_int))) m_int) m_int) m_nil)) m_int))
    (t_cons (t_ret (qMod (qInt Mg.int (qC (qDiv (qV 5) m_int) m_nil)) (qV 1)))
    t_nil)))))))))
theorem ok_law_draw (D : FunD K "_law_draw" "_law_draw" (defArgs (top 24)) (defBody (top 24)) (defScope (top 24)) [] [] f fd) (at_ : mg "_law_draw" = some (.ref f)) (Mg : Gm K w mg)   : FnC P w K mg base cls 1 "_law_draw" 2 F_law_draw [] :=
  ⟨f, fd, ["_law_tape_here", "_law_size"], [], [], FnG.ofM (b := false) D sc_law_draw (bd_law_draw Mg  ), at_, D.kp, D.bindsN fun _ _ _ _ _ _ us hl => match us, hl with | [_, _], _ => rfl, .nil, .nil⟩
def N_law_pair_right : List Str := ["_law_one", "_law_other", "_law_left", "_law_right", "_law_same", "_law_under", "_law_over", "_law_told", "_law_least", "_law_most"]
theorem sc_law_pair_right : FnScope N_law_pair_right ["_law_one", "_law_other", "_law_left", "_law_right"] (defScope (top 30)) := ⟨rfl, rfl, rfl, by decide +kernel, rfl, by decide +kernel, by decide +kernel⟩
theorem bd_law_pair_right (Mg : Gm K w mg) (C_Width___and__ : OpF P w K mg base cls 5 "Width" "__and__" 2 F_Width___and__) (C_Width___or__ : OpF P w K mg base cls 5 "Width" "__or__" 2 F_Width___or__) (C_Width___ge__ : OpF P w K mg base cls 1 "Width" "__ge__" 2 F_Width___ge__) (C_Width___le__ : OpF P w K mg base cls 1 "Width" "__le__" 2 F_Width___le__) (C_Width___eq__ : OpF P w K mg base cls 1 "Width" "__eq__" 2 F_Width___eq__) (C_law_fits : FnC P w K mg base cls 151 "_law_fits" 2 F_law_fits []) (cdv : Value) (A : Around) (outer : List PySem.Env) (s : Shared) (H : Hp) (R : RT) (E : XK) (hT : RtOk R cls.T) (room : Room 151 (A.deeper (envOfC "_law_pair_right" (defScope (top 30)) s.heap.objs.size f cdv))) (gd : Gds 151 A) :
    PSs (cxOf (L2.CX P w) P w K mg base N_law_pair_right "_law_pair_right" (defScope (top 30)) f cdv A outer s H E) (defBody (top 30)) (mT ⟨K, R, cls, E⟩ (B_law_pair_right)) := by
  have B : Bd (cxOf (L2.CX P w) P w K mg base N_law_pair_right "_law_pair_right" (defScope (top 30)) f cdv A outer s H E) ⟨K, R, cls, E⟩ 151 := ⟨rfl, room, gd, hT, pass_def, tk_def, rfl⟩
  have nd := (sc_law_pair_right).nd
  exact (t_cons (zSet 4 nd (qEq B.K B.u (qV 2) (qV 3)))
    (t_cons (zSet 5 nd (m_or B.K (qIs (qV 3) m_non) (pe_one (m_and B.K (qIsNot (qV 2) m_non) (pe_one (qLe (qV 2) (qV 3)))))))
    (t_cons (zSet 6 nd (m_or B.K (qIs (qV 2) m_non) (pe_one (m_and B.K (qIsNot (qV 3) m_non) (pe_one (qGe (qV 2) (qV 3)))))))
    (t_cons (zSet 7 nd (m_lst (qC (m_cmpP (opp_cmp' C_Width___eq__ B (opp_eq B.K B.u)) (qV 0) (qV 1)) (qC (m_cmpP (opp_cmp' C_Width___le__ B opp_le) (qV 0) (qV 1)) (qC (m_cmpP (opp_cmp' C_Width___ge__ B opp_ge) (qV 0) (qV 1)) (qC (m_cmpP (opp_cmp' C_Width___le__ B opp_le) (qV 1) (qV 0)) (qC (m_cmpP (opp_cmp' C_Width___ge__ B opp_ge) (qV 1) (qV 0)) m_nil)))))))
    (t_cons (t_if (tNe B.K B.u (qRepr B.K (B.gd (by decide)) B.u66 Mg.repr (qC (qV 7) m_nil)) (qRepr B.K (B.gd (by decide)) B.u66 Mg.repr (qC (m_lst (qC (qV 4) (qC (qV 5) (qC (qV 6) (qC (qV 6) (qC (qV 5) m_nil)))))) m_nil))) (t_cons (t_ret m_bl)
    t_nil) t_nil)
    (t_cons (zUnp B (m_if (tV B.K (qV 5)) (m_tup (qC (qV 2) (qC (qV 3) m_nil))) (m_tup (qC (qV 3) (qC (qV 2) m_nil)))) (gsCons (gNm _ nd) (gsCons (gNm _ nd) gsNil)))
    (t_cons (t_if (PW.pt (b_or (b_not (tV B.K (qCall C_law_fits B (qC (m_binP (opp_bin C_Width___and__ Mg.bin_Width_and B opp_no (by kernel_rfl)) (qV 0) (qV 1)) (qC (qV 8) m_nil)) ))) (pw_or1 (b_not (tV B.K (qCall C_law_fits B (qC (m_binP (opp_bin C_Width___or__ Mg.bin_Width_or B opp_no (by kernel_rfl)) (qV 0) (qV 1)) (qC (qV 9) m_nil)) )))))) (t_cons (t_ret m_bl)
    t_nil) t_nil)
    (t_cons (t_ret (m_and B.K (qCall C_law_fits B (qC (qV 0) (qC (qV 2) m_nil)) ) (pe_one (qCall C_law_fits B (qC (qV 1) (qC (qV 3) m_nil)) ))))
    t_nil))))))))
theorem ok_law_pair_right (D : FunD K "_law_pair_right" "_law_pair_right" (defArgs (top 30)) (defBody (top 30)) (defScope (top 30)) [] [] f fd) (at_ : mg "_law_pair_right" = some (.ref f)) (Mg : Gm K w mg) (C_Width___and__ : OpF P w K mg base cls 5 "Width" "__and__" 2 F_Width___and__) (C_Width___or__ : OpF P w K mg base cls 5 "Width" "__or__" 2 F_Width___or__) (C_Width___ge__ : OpF P w K mg base cls 1 "Width" "__ge__" 2 F_Width___ge__) (C_Width___le__ : OpF P w K mg base cls 1 "Width" "__le__" 2 F_Width___le__) (C_Width___eq__ : OpF P w K mg base cls 1 "Width" "__eq__" 2 F_Width___eq__) (C_law_fits : FnC P w K mg base cls 151 "_law_fits" 2 F_law_fits []) : FnC P w K mg base cls 152 "_law_pair_right" 4 F_law_pair_right [] :=
  ⟨f, fd, ["_law_one", "_law_other", "_law_left", "_law_right"], [], [], FnG.ofM (b := false) D sc_law_pair_right (bd_law_pair_right Mg C_Width___and__ C_Width___or__ C_Width___ge__ C_Width___le__ C_Width___eq__ C_law_fits), at_, D.kp, D.bindsN fun _ _ _ _ _ _ us hl => match us, hl with | [_, _, _, _], _ => rfl, .nil, .nil⟩
def N_law_amount : List Str := ["_law_tape_here", "_law_way", "_law_power"]
theorem sc_law_amount : FnScope N_law_amount ["_law_tape_here"] (defScope (top 28)) := ⟨rfl, rfl, rfl, by decide +kernel, rfl, by decide +kernel, by decide +kernel⟩
theorem bd_law_amount (Mg : Gm K w mg)  (C_law_draw : FnC P w K mg base cls 1 "_law_draw" 2 F_law_draw []) (cdv : Value) (A : Around) (outer : List PySem.Env) (s : Shared) (H : Hp) (R : RT) (E : XK) (hT : RtOk R cls.T) (room : Room 1 (A.deeper (envOfC "_law_amount" (defScope (top 28)) s.heap.objs.size f cdv))) (gd : Gds 1 A) :
    PSs (cxOf (L2.CX P w) P w K mg base N_law_amount "_law_amount" (defScope (top 28)) f cdv A outer s H E) (defBody (top 28)) (mT ⟨K, R, cls, E⟩ (B_law_amount)) := by
  have B : Bd (cxOf (L2.CX P w) P w K mg base N_law_amount "_law_amount" (defScope (top 28)) f cdv A outer s H E) ⟨K, R, cls, E⟩ 1 := ⟨rfl, room, gd, hT, pass_def, tk_def, rfl⟩
  have nd := (sc_law_amount).nd
  exact (t_cons (zSet 1 nd (qCall C_law_draw B (qC (qV 0) (qC m_int m_nil)) ))
    (t_cons (t_if (tLt (qV 1) m_int) (t_cons (t_ret (qCall C_law_draw B (qC (qV 0) (qC (qIx B.K B.u (m_lst (qC m_int (qC m_int (qC m_int m_nil)))) (qV 1)) m_nil)) ))
    t_nil) t_nil)
    (t_cons (zSet 2 nd (m_if (tEq B.K B.u (qV 1) m_int) (qPow m_int m_int) (qPow m_int m_int)))
    (t_cons (t_ret (qAdd B.K (qSub (qV 2) m_int) (qCall C_law_draw B (qC (qV 0) (qC m_int m_nil)) )))
    t_nil))))
theorem ok_law_amount (D : FunD K "_law_amount" "_law_amount" (defArgs (top 28)) (defBody (top 28)) (defScope (top 28)) [] [] f fd) (at_ : mg "_law_amount" = some (.ref f)) (Mg : Gm K w mg)  (C_law_draw : FnC P w K mg base cls 1 "_law_draw" 2 F_law_draw []) : FnC P w K mg base cls 2 "_law_amount" 1 F_law_amount [] :=
  ⟨f, fd, ["_law_tape_here"], [], [], FnG.ofM (b := false) D sc_law_amount (bd_law_amount Mg  C_law_draw), at_, D.kp, D.bindsN fun _ _ _ _ _ _ us hl => match us, hl with | [_], _ => rfl, .nil, .nil⟩
def N_law_tape : List Str := ["_law_script"]
theorem sc_law_tape : FnScope N_law_tape ["_law_script"] (defScope (top 23)) := ⟨rfl, rfl, rfl, by decide +kernel, rfl, by decide +kernel, by decide +kernel⟩
theorem bd_law_tape (Mg : Gm K w mg)   (cdv : Value) (A : Around) (outer : List PySem.Env) (s : Shared) (H : Hp) (R : RT) (E : XK) (hT : RtOk R cls.T) (room : Room 0 (A.deeper (envOfC "_law_tape" (defScope (top 23)) s.heap.objs.size f cdv))) (gd : Gds 0 A) :
    PSs (cxOf (L2.CX P w) P w K mg base N_law_tape "_law_tape" (defScope (top 23)) f cdv A outer s H E) (defBody (top 23)) (mT ⟨K, R, cls, E⟩ (B_law_tape)) := by
  have B : Bd (cxOf (L2.CX P w) P w K mg base N_law_tape "_law_tape" (defScope (top 23)) f cdv A outer s H E) ⟨K, R, cls, E⟩ 0 := ⟨rfl, room, gd, hT, pass_def, tk_def, rfl⟩
  have nd := (sc_law_tape).nd
  exact (t_cons (t_ret (m_mk (s_lst (qC (m_sl B.K (qV 0) True.intro m_int) (qC m_int (qC m_int (qC m_int m_nil)))))))
    t_nil)
theorem ok_law_tape (D : FunD K "_law_tape" "_law_tape" (defArgs (top 23)) (defBody (top 23)) (defScope (top 23)) [] [] f fd) (at_ : mg "_law_tape" = some (.ref f)) (Mg : Gm K w mg)   : FnC P w K mg base cls 1 "_law_tape" 1 F_law_tape [] :=
  ⟨f, fd, ["_law_script"], [], [], FnG.ofM (b := true) D sc_law_tape (bd_law_tape Mg  ), at_, D.kp, D.bindsN fun _ _ _ _ _ _ us hl => match us, hl with | [_], _ => rfl, .nil, .nil⟩
def N_law : List Str := ["_law_script", "_law_tape_here", "_law_amounts", "_law_k", "_law_widths", "_law_amount_here", "_law_i", "_law_j", "_law_odds", "_law_at", "_law_odd"]
theorem sc_law : FnScope N_law ["_law_script"] (defScope (top 33)) := ⟨rfl, rfl, rfl, by decide +kernel, rfl, by decide +kernel, by decide +kernel⟩
theorem bd_law (Mg : Gm K w mg) (Mx : Mxs K mg cls sb fl_) (NK_Width_number : ObjK P w K mg base cls 3 "Width" 1 F_Width___init__ 0 ["number"]) (N_Width_1 : ObjG P w K mg base cls 3 "Width" 1 F_Width___init__ []) (N_Width_0 : ObjG P w K mg base cls 3 "Width" 1 F_Width___init__ [.non]) (C_law_said : SaidC P w K mg base cls 2 "_law_said" "ChargeError" "told" F_law_refusal) (T_law : LamH K mg base cls "law" "law.<locals>.<lambda>") (C_law_fits : FnC P w K mg base cls 151 "_law_fits" 2 F_law_fits []) (C_law_refused_right : FnC P w K mg base cls 153 "_law_refused_right" 3 F_law_refused_right []) (C_law_draw : FnC P w K mg base cls 1 "_law_draw" 2 F_law_draw []) (C_law_sum_right : FnC P w K mg base cls 152 "_law_sum_right" 3 F_law_sum_right []) (C_law_pair_right : FnC P w K mg base cls 152 "_law_pair_right" 4 F_law_pair_right []) (C_law_amount : FnC P w K mg base cls 2 "_law_amount" 1 F_law_amount []) (C_law_tape : FnC P w K mg base cls 1 "_law_tape" 1 F_law_tape []) (A : Around) (outer : List PySem.Env) (s : Shared) (H : Hp) (R : RT) (E : XK) (hT : RtOk R cls.T) (room : Room 153 (A.deeper (envOfC "law" (defScope (top 33)) s.heap.objs.size f (.ref (He.codeOf K ("law", Option.none)))))) (gd : Gds 153 A) :
    PSs (cxOf (L2.CX P w) P w K mg base N_law "law" (defScope (top 33)) f (.ref (He.codeOf K ("law", Option.none))) A outer s H E) (defBody (top 33)) (mT ⟨K, R, cls, E⟩ (B_law)) := by
  have B : Bd (cxOf (L2.CX P w) P w K mg base N_law "law" (defScope (top 33)) f (.ref (He.codeOf K ("law", Option.none))) A outer s H E) ⟨K, R, cls, E⟩ 153 := ⟨rfl, room, gd, hT, pass_def, tk_def, rfl⟩
  have nd := (sc_law).nd
  exact (t_cons (zSet 1 nd (qCall C_law_tape B (qC (qV 0) m_nil) ))
    (t_cons (zSet 2 nd (m_mk (s_add B.K (m_weak (sComp B nd [("_law_k", 3)] (.nm 3) (iRange1 Mg.range (qC m_int m_nil)) (fun _ _ _ _ _ => (gNm _ nd)) (fun _ _ _ _ _ => pts_nil) (fun _ _ _ _ _ => x_e fun _ hR => (qCall C_law_amount (B.inn hR) (qC (qV 1) m_nil) )))) (m_lst (qC m_int (qC m_non m_nil))))))
    (t_cons (zDrop (qApp B.K (qV 2) (qC (m_if (PW.pt (b_or (tEq B.K B.u (qCall C_law_draw B (qC (qV 1) (qC m_int m_nil)) ) m_int) (pw_or1 (tIs (qIx B.K B.u (qV 2) m_int) m_non)))) (qIx B.K B.u (qV 2) m_int) (qAdd B.K (qIx B.K B.u (qV 2) m_int) m_int)) m_nil)))
    (t_cons (zSetC 4 B nd [("_law_amount_here", 5)] (.nm 5) (i_seq B.K (qV 2)) (fun _ _ _ _ _ => (gNm _ nd)) (fun _ _ _ _ _ => pts_nil) (fun _ _ _ _ _ => x_e fun _ hR => (m_if (tIsNot (qV 5) m_non) (q_new N_Width_1 (B.inn hR) (qC (qV 5) m_nil)) (q_new0 N_Width_0 (B.inn hR)))))
    (t_cons (zFor B (.nm 6) (passes_of rfl) (iRange1 Mg.range (qC (qLen B.K Mg.len (qC (qV 2) m_nil)) m_nil)) (gNm _ nd) (t_cons (zFor B (.nm 7) (passes_of rfl) (iRange1 Mg.range (qC (qLen B.K Mg.len (qC (qV 2) m_nil)) m_nil)) (gNm _ nd) (t_cons (t_if (b_not (tV B.K (qCall C_law_pair_right B (qC (qIx B.K B.u (qV 4) (qV 6)) (qC (qIx B.K B.u (qV 4) (qV 7)) (qC (qIx B.K B.u (qV 2) (qV 6)) (qC (qIx B.K B.u (qV 2) (qV 7)) m_nil)))) ))) (t_cons (t_ret m_bl)
    t_nil) t_nil)
    (t_cons (t_if (PW.pt (b_and (tIsNot (qIx B.K B.u (qV 2) (qV 7)) m_non) (pw_and1 (b_not (tV B.K (qCall C_law_sum_right B (qC (qIx B.K B.u (qV 4) (qV 6)) (qC (qIx B.K B.u (qV 2) (qV 6)) (qC (qIx B.K B.u (qV 2) (qV 7)) m_nil))) )))))) (t_cons (t_ret m_bl)
    t_nil) t_nil)
    t_nil)))
    t_nil))
    (t_cons (zSet 8 nd (m_lst (qC m_non (qC m_bl (qC m_bl (qC (qNeg m_int) (qC m_str (qC m_str (qC (m_tup m_nil) (qC (m_lst m_nil) (qC (m_tup (qC m_int m_nil)) (qC (qIx B.K B.u (qV 2) m_int) (qC (qStr Mg.str (qC (qIx B.K B.u (qV 2) m_int) m_nil)) (qC (qSub (qNeg m_int) (qIx B.K B.u (qV 2) m_int)) m_nil))))))))))))))
    (t_cons (zFor B (.nm 3) (passes_of rfl) (iRange1 Mg.range (qC (qLen B.K Mg.len (qC (qV 8) m_nil)) m_nil)) (gNm _ nd) (t_cons (zSet 9 nd (qCall C_law_draw B (qC (qV 1) (qC (qLen B.K Mg.len (qC (qV 4) m_nil)) m_nil)) ))
    (t_cons (t_if (b_not (tV B.K (qCall C_law_refused_right B (qC (qIx B.K B.u (qV 4) (qV 9)) (qC (qIx B.K B.u (qV 2) (qV 9)) (qC (qIx B.K B.u (qV 8) (qV 3)) m_nil))) ))) (t_cons (t_ret m_bl)
    t_nil) t_nil)
    t_nil)))
    (t_cons (zFor B (.nm 10) (passes_of rfl) (i_seq B.K (m_tup (qC m_bl (qC m_bl (qC (qNeg m_int) (qC m_str (qC (m_tup m_nil) (qC (m_lst m_nil) (qC m_str (qC (m_tup (qC m_int m_nil)) (qC (qSub (qNeg m_int) (qIx B.K B.u (qV 2) m_int)) m_nil))))))))))) (gNm _ nd) (t_cons (t_if (tNe B.K B.u (qSaid (kb := 4) C_law_said B Mx.sb (Mx.xf _) T_law.tb rfl T_law.mem T_law.one (fun _ _ _ _ _ _ _ B1 => (q_new N_Width_1 B1 (qC (qV 10) m_nil))) (L := LamX.lamS_by (sc := defScope (top 33)) (by decide +kernel))) (m_tup (qC m_str (qC m_str (qC m_str (qC (qNeg m_int) m_nil)))))) (t_cons (t_ret m_bl)
    t_nil) t_nil)
    t_nil))
    (t_cons (t_ret (m_and B.K (qCall C_law_fits B (qC (q_newK0 NK_Width_number B (k_cons (qIx B.K B.u (qV 2) m_int) k_nil)) (qC (qIx B.K B.u (qV 2) m_int) m_nil)) ) (pe_one (qCall C_law_fits B (qC (q_new N_Width_1 B (qC m_non m_nil)) (qC m_non m_nil)) ))))
    t_nil)))))))))
theorem get (w : World) (mg : Str → Option Value) (fa : Addr) (h : Heap) (Y : theHook.says w h) (G : h.Ns mainGlobals mg) (hfa : mg ("law" : Str) = some (.ref fa)) : ∃ (K : PySem.W.Frag) (fd : FuncData) (cls : CL) (cs : List (Addr × Addr)), K.In h ∧ (∀ q ∈ cs, h.get? q.2 = some { cls := .none, data := .fields #[] }) ∧ (∀ q ∈ cs, K.lookup q.2 = Option.none) ∧ (∀ q ∈ cs, PySem.W.CodeHd h q.1 q.2) ∧ cls.T.map (·.1) = cs.map (·.2) ∧
    (∀ (s : Shared) (u : Value), BindsTo s fd ⟨[u], []⟩ [("_law_script", u)]) ∧ ∀ base : Heap, K.In base → base.Ns mainGlobals mg → (∀ q ∈ cs, LamX.TabB base mg q.1 q.2) → FnG PySem.Challenge.pw_enoughcharge_k23_width_values w K mg base (L2.CX PySem.Challenge.pw_enoughcharge_k23_width_values w) 154 fa fd ["_law_script"] (spM K cls 1 F_law) := by
  obtain ⟨K, inK, c0, cF⟩ := Y
  have c := c0.t.d
  have tb := (He.ba c0.more).1
  have fmk := (He.ba (He.ba c0.more).2).1
  have xc := (He.ba (He.ba c0.more).2).2
  have xo := (He.ba xc).2
  replace xc := (He.ba xc).1
  have g_number_text := He.glo_ok inK G (c.fact 0 (f := .glo "number_text") rfl)
  have g_law_fits := He.glo_ok inK G (c.fact 1 (f := .glo "_law_fits") rfl)
  have g_is_integer := He.glo_ok inK G (c.fact 2 (f := .glo "is_integer") rfl)
  have g_is_number := He.glo_ok inK G (c.fact 3 (f := .glo "is_number") rfl)
  have g_law_sum_right := He.glo_ok inK G (c.fact 4 (f := .glo "_law_sum_right") rfl)
  have g_law_refused_right := He.glo_ok inK G (c.fact 5 (f := .glo "_law_refused_right") rfl)
  have g_law_draw := He.glo_ok inK G (c.fact 6 (f := .glo "_law_draw") rfl)
  have g_law_pair_right := He.glo_ok inK G (c.fact 7 (f := .glo "_law_pair_right") rfl)
  have g_law_amount := He.glo_ok inK G (c.fact 8 (f := .glo "_law_amount") rfl)
  have g_law_tape := He.glo_ok inK G (c.fact 9 (f := .glo "_law_tape") rfl)
  have g_law := He.glo_ok inK G (c.fact 10 (f := .glo "law") rfl)
  have g_law_refusal := He.glo_ok inK G (c.fact 11 (f := .glo "_law_refusal") rfl)
  have g_law_said := He.glo_ok inK G (c.fact 12 (f := .glo "_law_said") rfl)
  have T_P_Width_number0 := (He.ba xo).2
  replace xo := (He.ba xo).1
  have T_B_Width_and0 := (He.ba xo).2
  replace xo := (He.ba xo).1
  have T_B_Width_or0 := (He.ba xo).2
  replace xo := (He.ba xo).1
  have T_B_Width_add0 := (He.ba xo).2
  replace xo := (He.ba xo).1
  have T_K_Width0 := (He.ba xo).2
  replace xo := (He.ba xo).1
  have T_I_Width0 := xo
  have I_Width := insB_ok (He.cls_ok (c.fact 49 (f := .cls "Width") rfl)) T_I_Width0
  have gV_Width := He.glo_ok inK G (c.fact 47 (f := .glo "Width") rfl)
  have a_Width__number := He.noat_ok (c.fact 50 (f := .noat "Width" "_number") rfl)
  have Mk_Width := He.mkr_ok (c.fact 48 (f := .mkr "Width") rfl)
  have gx_TextError := He.glo_ok inK G (c.fact 33 (f := .glo "TextError") rfl)
  have gx_MachineError := He.glo_ok inK G (c.fact 34 (f := .glo "MachineError") rfl)
  have gx_ProgramError := He.glo_ok inK G (c.fact 35 (f := .glo "ProgramError") rfl)
  have gx_PaperError := He.glo_ok inK G (c.fact 36 (f := .glo "PaperError") rfl)
  have gx_InvalidRow := He.glo_ok inK G (c.fact 37 (f := .glo "InvalidRow") rfl)
  have gx_InvalidText := He.glo_ok inK G (c.fact 38 (f := .glo "InvalidText") rfl)
  have gx_NothingToUndo := He.glo_ok inK G (c.fact 39 (f := .glo "NothingToUndo") rfl)
  have gx_InvalidEvent := He.glo_ok inK G (c.fact 40 (f := .glo "InvalidEvent") rfl)
  have gx_NeverEnough := He.glo_ok inK G (c.fact 41 (f := .glo "NeverEnough") rfl)
  have gx_NotUsable := He.glo_ok inK G (c.fact 42 (f := .glo "NotUsable") rfl)
  have gx_InvalidPaper := He.glo_ok inK G (c.fact 43 (f := .glo "InvalidPaper") rfl)
  have gx_ChargeError := He.glo_ok inK G (c.fact 44 (f := .glo "ChargeError") rfl)
  have Mg : Gm K w mg := ⟨He.free_ok inK G (c.fact 13 (f := .free "ValueError") rfl), He.free_ok inK G (c.fact 14 (f := .free "abs") rfl), He.free_ok inK G (c.fact 15 (f := .free "all") rfl), He.free_ok inK G (c.fact 16 (f := .free "bool") rfl), He.free_ok inK G (c.fact 17 (f := .free "dict") rfl), He.free_ok inK G (c.fact 18 (f := .free "enumerate") rfl), He.free_ok inK G (c.fact 19 (f := .free "int") rfl), He.free_ok inK G (c.fact 20 (f := .free "isinstance") rfl), He.free_ok inK G (c.fact 21 (f := .free "len") rfl), He.free_ok inK G (c.fact 22 (f := .free "list") rfl), He.free_ok inK G (c.fact 23 (f := .free "max") rfl), He.free_ok inK G (c.fact 24 (f := .free "min") rfl), He.free_ok inK G (c.fact 25 (f := .free "range") rfl), He.free_ok inK G (c.fact 26 (f := .free "repr") rfl), He.free_ok inK G (c.fact 27 (f := .free "set") rfl), He.free_ok inK G (c.fact 28 (f := .free "sorted") rfl), He.free_ok inK G (c.fact 29 (f := .free "str") rfl), He.free_ok inK G (c.fact 30 (f := .free "sum") rfl), He.free_ok inK G (c.fact 31 (f := .free "tuple") rfl), He.free_ok inK G (c.fact 32 (f := .free "zip") rfl), ⟨_, He.glo_ok inK G (c.fact 33 (f := .glo "TextError") rfl)⟩, ⟨_, He.glo_ok inK G (c.fact 34 (f := .glo "MachineError") rfl)⟩, ⟨_, He.glo_ok inK G (c.fact 35 (f := .glo "ProgramError") rfl)⟩, ⟨_, He.glo_ok inK G (c.fact 36 (f := .glo "PaperError") rfl)⟩, ⟨_, He.glo_ok inK G (c.fact 37 (f := .glo "InvalidRow") rfl)⟩, ⟨_, He.glo_ok inK G (c.fact 38 (f := .glo "InvalidText") rfl)⟩, ⟨_, He.glo_ok inK G (c.fact 39 (f := .glo "NothingToUndo") rfl)⟩, ⟨_, He.glo_ok inK G (c.fact 40 (f := .glo "InvalidEvent") rfl)⟩, ⟨_, He.glo_ok inK G (c.fact 41 (f := .glo "NeverEnough") rfl)⟩, ⟨_, He.glo_ok inK G (c.fact 42 (f := .glo "NotUsable") rfl)⟩, ⟨_, He.glo_ok inK G (c.fact 43 (f := .glo "InvalidPaper") rfl)⟩, ⟨_, He.glo_ok inK G (c.fact 44 (f := .glo "ChargeError") rfl)⟩, He.int_ok inK G (c.fact 45 rfl), He.int_ok inK G (c.fact 46 rfl), kitB2_ok T_K_Width0 gV_Width ((List.forall_mem_cons.mpr ⟨I_Width.1, (fun _ h => absurd h List.not_mem_nil)⟩)), FldC.of I_Width.1 a_Width__number, binB_ok I_Width.1 T_B_Width_add0, binB_ok I_Width.1 T_B_Width_or0, binB_ok I_Width.1 T_B_Width_and0⟩
  obtain ⟨fd_number_text, D_number_text⟩ := c.def_ 0 (d := dfn "number_text" 19) rfl
  obtain ⟨fd_law_fits, D_law_fits⟩ := c.def_ 1 (d := dfn "_law_fits" 29) rfl
  obtain ⟨fd_is_integer, D_is_integer⟩ := c.def_ 2 (d := dfn "is_integer" 14) rfl
  obtain ⟨fd_is_number, D_is_number⟩ := c.def_ 3 (d := dfn "is_number" 15) rfl
  obtain ⟨fd_law_sum_right, D_law_sum_right⟩ := c.def_ 4 (d := dfn "_law_sum_right" 31) rfl
  obtain ⟨fd_law_refused_right, D_law_refused_right⟩ := c.def_ 5 (d := dfn "_law_refused_right" 32) rfl
  obtain ⟨fd_law_draw, D_law_draw⟩ := c.def_ 6 (d := dfn "_law_draw" 24) rfl
  obtain ⟨fd_law_pair_right, D_law_pair_right⟩ := c.def_ 7 (d := dfn "_law_pair_right" 30) rfl
  obtain ⟨fd_law_amount, D_law_amount⟩ := c.def_ 8 (d := dfn "_law_amount" 28) rfl
  obtain ⟨fd_law_tape, D_law_tape⟩ := c.def_ 9 (d := dfn "_law_tape" 23) rfl
  obtain ⟨fd_law, D_law⟩ := c.def_ 10 (d := dfn "law" 33) rfl
  obtain ⟨fd_law_refusal, D_law_refusal⟩ := c.def_ 11 (d := dfn "_law_refusal" 26) rfl
  obtain ⟨fd_law_said, D_law_said⟩ := c.def_ 12 (d := dfn "_law_said" 27) rfl
  obtain ⟨fdm_Width___bool__, DM_Width___bool__⟩ := c.def_ 14 (d := dfm "Width" "__bool__" 21 9 []) rfl
  obtain ⟨fdm_Width___str__, DM_Width___str__⟩ := c.def_ 15 (d := dfm "Width" "__str__" 21 10 []) rfl
  obtain ⟨fdm_Width___init__, DM_Width___init__⟩ := c.def_ 16 (d := dfm "Width" "__init__" 21 0 [.non]) rfl
  obtain ⟨fdm_Width___add__, DM_Width___add__⟩ := c.def_ 17 (d := dfm "Width" "__add__" 21 5 []) rfl
  obtain ⟨fdm_Width___radd__, DM_Width___radd__⟩ := c.def_ 18 (d := dfm "Width" "__radd__" 21 6 []) rfl
  obtain ⟨fdm_Width___ge__, DM_Width___ge__⟩ := c.def_ 19 (d := dfm "Width" "__ge__" 21 4 []) rfl
  obtain ⟨fdm_Width___or__, DM_Width___or__⟩ := c.def_ 20 (d := dfm "Width" "__or__" 21 8 []) rfl
  obtain ⟨fdm_Width___le__, DM_Width___le__⟩ := c.def_ 21 (d := dfm "Width" "__le__" 21 3 []) rfl
  obtain ⟨fdm_Width___and__, DM_Width___and__⟩ := c.def_ 22 (d := dfm "Width" "__and__" 21 7 []) rfl
  obtain ⟨fdm_Width___eq__, DM_Width___eq__⟩ := c.def_ 23 (d := dfm "Width" "__eq__" 21 2 []) rfl
  obtain ⟨fdx_NotUsable, Dx_NotUsable⟩ := c.def_ 13 (d := dfi "NotUsable" 7 0) rfl
  obtain ⟨fdf_Width_number, DF_Width_number⟩ := cF 0 (dff "Width" "number" 21 1 "property") rfl
  cases hfa.symm.trans g_law
  have bi := FunD.bindsA (ps := ["_law_script"]) D_law fun _ _ _ _ _ _ us hl => match us, hl with | [_], _ => rfl
  refine ⟨K, fd_law, clOf K tfq, tfs.map (He.cT K), inK, fun q hq => ?_, fun q hq => ?_, fun q hq => ?_, by simp [clOf, tfs], fun s v => bi s [v] rfl, fun base _ _ TBs => ?_⟩
  · obtain ⟨p, hp, rfl⟩ := List.mem_map.mp hq
    exact c0.empty p hp
  · obtain ⟨p, hp, rfl⟩ := List.mem_map.mp hq
    exact c0.out p hp
  · obtain ⟨p, hp, rfl⟩ := List.mem_map.mp hq
    exact PySem.W.codeHd_of_K inK (c0.hd p hp)
  have xk := xcsT_ok xc
  have gl : ∀ y ∈ (["TextError", "MachineError", "ProgramError", "PaperError", "InvalidRow", "InvalidText", "NothingToUndo", "InvalidEvent", "NeverEnough", "NotUsable", "InvalidPaper", "ChargeError"] : List PySem.Str), mg y = some (.ref (He.ga K y)) := (alls gx_TextError (alls gx_MachineError (alls gx_ProgramError (alls gx_PaperError (alls gx_InvalidRow (alls gx_InvalidText (alls gx_NothingToUndo (alls gx_InvalidEvent (alls gx_NeverEnough (alls gx_NotUsable (alls gx_InvalidPaper (alls gx_ChargeError alln))))))))))))
  have hm : ∀ t ∈ subL, t.2.1 = "ValueError" ∨ mg t.2.1 = some (.ref (He.ga K t.2.1)) := fun t ht => ((by decide +kernel : ∀ t ∈ subL, t.2.1 = "ValueError" ∨ t.2.1 ∈ (["TextError", "MachineError", "ProgramError", "PaperError", "InvalidRow", "InvalidText", "NothingToUndo", "InvalidEvent", "NeverEnough", "NotUsable", "InvalidPaper", "ChargeError"] : List PySem.Str)) t ht).imp id (gl _)
  have Mx : Mxs K mg (clOf K tfq) sb fl_ := ⟨xk.sub hm Mg.ValueError, xk.kit hm Mg.ValueError, xk.flds, fun _ => xk.xf⟩
  have W_NotUsable : Xc PySem.Challenge.pw_enoughcharge_k23_width_values w K mg base (clOf K tfq) "NotUsable" ["word", "at"] := xc_2 Dx_NotUsable gx_NotUsable rfl (xk.fld ("NotUsable", ["word", "at"]) (by decide +kernel)) ⟨rfl, rfl, rfl, by decide +kernel, rfl, by decide +kernel, by decide +kernel⟩ rfl (Or.inl rfl) (Or.inl rfl) (Or.inl rfl) (by decide) (by decide) (by decide) (by decide) (Dx_NotUsable.bindsN fun _ _ _ _ _ _ us hl => match us, hl with | [_, _, _], _ => rfl)
  have H_law_refusal : FnE PySem.Challenge.pw_enoughcharge_k23_width_values w K mg base 1 _ fd_law_refusal ["_law_error"] (spE K (clOf K tfq) F_law_refusal) := okE_law_refusal D_law_refusal Mg Mx
  have C_law_said : SaidC PySem.Challenge.pw_enoughcharge_k23_width_values w K mg base (clOf K tfq) 2 "_law_said" "ChargeError" "told" F_law_refusal := said_of (ask := "_law_ask") (fnd := "_law_found") (err := "_law_error") (rf := "_law_refusal") D_law_said g_law_said ⟨rfl, rfl, rfl, by decide +kernel, rfl, by decide +kernel, by decide +kernel⟩ (D_law_said.bindsN fun _ _ _ _ _ _ us hl => match us, hl with | [_], _ => rfl) rfl H_law_refusal g_law_refusal D_law_refusal.kp (D_law_refusal.bindsN fun _ _ _ _ _ _ us hl => match us, hl with | [_], _ => rfl) gx_ChargeError (Or.inl rfl) (Or.inl rfl) (Or.inl rfl) rfl rfl rfl rfl (by decide +kernel)
  have T_law_refused_right : LamH K mg base (clOf K tfq) "_law_refused_right" "_law_refused_right.<locals>.<lambda>" := LamH.of TBs xk.nodup (by decide +kernel)
  have T_law : LamH K mg base (clOf K tfq) "law" "law.<locals>.<lambda>" := LamH.of TBs xk.nodup (by decide +kernel)
  have C_Width___bool__ : OpF PySem.Challenge.pw_enoughcharge_k23_width_values w K mg base (clOf K tfq) 1 "Width" "__bool__" 1 F_Width___bool__ := ok_Width___bool__ I_Width.1 I_Width.2 (He.meth_ok (c.fact 51 (f := .meth "Width" "__bool__") rfl)) DM_Width___bool__ Mg  
  have C_number_text : FnC PySem.Challenge.pw_enoughcharge_k23_width_values w K mg base (clOf K tfq) 1 "number_text" 1 F_number_text [] := ok_number_text D_number_text g_number_text Mg  
  have C_Width___str__ : OpF PySem.Challenge.pw_enoughcharge_k23_width_values w K mg base (clOf K tfq) 2 "Width" "__str__" 1 F_Width___str__ := ok_Width___str__ I_Width.1 I_Width.2 (He.meth_ok (c.fact 52 (f := .meth "Width" "__str__") rfl)) DM_Width___str__ Mg  C_number_text
  have P_Width_number : PrpC PySem.Challenge.pw_enoughcharge_k23_width_values w K mg base (clOf K tfq) 1 "Width" "number" F_Width_number := ok_Width_number I_Width.1 (propB_ok T_P_Width_number0) DF_Width_number Mg  
  have C_law_fits : FnC PySem.Challenge.pw_enoughcharge_k23_width_values w K mg base (clOf K tfq) 151 "_law_fits" 2 F_law_fits [] := ok_law_fits D_law_fits g_law_fits Mg C_Width___bool__ C_Width___str__ P_Width_number 
  have C_is_integer : FnC PySem.Challenge.pw_enoughcharge_k23_width_values w K mg base (clOf K tfq) 1 "is_integer" 1 F_is_integer [] := ok_is_integer D_is_integer g_is_integer Mg  
  have C_is_number : FnC PySem.Challenge.pw_enoughcharge_k23_width_values w K mg base (clOf K tfq) 2 "is_number" 1 F_is_number [] := ok_is_number D_is_number g_is_number Mg  C_is_integer
  have NK_Width_number : ObjK PySem.Challenge.pw_enoughcharge_k23_width_values w K mg base (clOf K tfq) 3 "Width" 1 F_Width___init__ 0 ["number"] := okNK_Width_number Mk_Width gV_Width I_Width.1 a_Width__number DM_Width___init__ Mg W_NotUsable C_is_number
  have N_Width_1 : ObjG PySem.Challenge.pw_enoughcharge_k23_width_values w K mg base (clOf K tfq) 3 "Width" 1 F_Width___init__ [] := okN_Width_1 Mk_Width gV_Width I_Width.1 a_Width__number DM_Width___init__ Mg W_NotUsable C_is_number
  have N_Width_0 : ObjG PySem.Challenge.pw_enoughcharge_k23_width_values w K mg base (clOf K tfq) 3 "Width" 1 F_Width___init__ [.non] := okN_Width_0 Mk_Width gV_Width I_Width.1 a_Width__number DM_Width___init__ Mg W_NotUsable C_is_number
  have C_Width___add__ : OpF PySem.Challenge.pw_enoughcharge_k23_width_values w K mg base (clOf K tfq) 5 "Width" "__add__" 2 F_Width___add__ := ok_Width___add__ I_Width.1 I_Width.2 (He.meth_ok (c.fact 53 (f := .meth "Width" "__add__") rfl)) DM_Width___add__ Mg W_NotUsable N_Width_0 N_Width_1 C_is_number
  have C_Width___radd__ : OpF PySem.Challenge.pw_enoughcharge_k23_width_values w K mg base (clOf K tfq) 6 "Width" "__radd__" 2 F_Width___radd__ := ok_Width___radd__ I_Width.1 I_Width.2 (He.meth_ok (c.fact 54 (f := .meth "Width" "__radd__") rfl)) DM_Width___radd__ Mg C_Width___add__ 
  have C_law_sum_right : FnC PySem.Challenge.pw_enoughcharge_k23_width_values w K mg base (clOf K tfq) 152 "_law_sum_right" 3 F_law_sum_right [] := ok_law_sum_right D_law_sum_right g_law_sum_right Mg C_Width___add__ C_Width___radd__ C_law_fits
  have C_Width___ge__ : OpF PySem.Challenge.pw_enoughcharge_k23_width_values w K mg base (clOf K tfq) 1 "Width" "__ge__" 2 F_Width___ge__ := ok_Width___ge__ I_Width.1 I_Width.2 (He.meth_ok (c.fact 55 (f := .meth "Width" "__ge__") rfl)) DM_Width___ge__ Mg  
  have C_Width___or__ : OpF PySem.Challenge.pw_enoughcharge_k23_width_values w K mg base (clOf K tfq) 5 "Width" "__or__" 2 F_Width___or__ := ok_Width___or__ I_Width.1 I_Width.2 (He.meth_ok (c.fact 56 (f := .meth "Width" "__or__") rfl)) DM_Width___or__ Mg W_NotUsable C_Width___ge__ N_Width_1 
  have C_Width___le__ : OpF PySem.Challenge.pw_enoughcharge_k23_width_values w K mg base (clOf K tfq) 1 "Width" "__le__" 2 F_Width___le__ := ok_Width___le__ I_Width.1 I_Width.2 (He.meth_ok (c.fact 57 (f := .meth "Width" "__le__") rfl)) DM_Width___le__ Mg  
  have C_Width___and__ : OpF PySem.Challenge.pw_enoughcharge_k23_width_values w K mg base (clOf K tfq) 5 "Width" "__and__" 2 F_Width___and__ := ok_Width___and__ I_Width.1 I_Width.2 (He.meth_ok (c.fact 58 (f := .meth "Width" "__and__") rfl)) DM_Width___and__ Mg W_NotUsable C_Width___le__ N_Width_1 
  have C_Width___eq__ : OpF PySem.Challenge.pw_enoughcharge_k23_width_values w K mg base (clOf K tfq) 1 "Width" "__eq__" 2 F_Width___eq__ := ok_Width___eq__ I_Width.1 I_Width.2 (He.meth_ok (c.fact 59 (f := .meth "Width" "__eq__") rfl)) DM_Width___eq__ Mg  
  have C_law_refused_right : FnC PySem.Challenge.pw_enoughcharge_k23_width_values w K mg base (clOf K tfq) 153 "_law_refused_right" 3 F_law_refused_right [] := ok_law_refused_right D_law_refused_right g_law_refused_right rfl Mg Mx C_Width___radd__ C_Width___add__ C_Width___or__ C_Width___and__ C_Width___eq__ C_law_said T_law_refused_right C_law_sum_right
  have C_law_draw : FnC PySem.Challenge.pw_enoughcharge_k23_width_values w K mg base (clOf K tfq) 1 "_law_draw" 2 F_law_draw [] := ok_law_draw D_law_draw g_law_draw Mg  
  have C_law_pair_right : FnC PySem.Challenge.pw_enoughcharge_k23_width_values w K mg base (clOf K tfq) 152 "_law_pair_right" 4 F_law_pair_right [] := ok_law_pair_right D_law_pair_right g_law_pair_right Mg C_Width___and__ C_Width___or__ C_Width___ge__ C_Width___le__ C_Width___eq__ C_law_fits
  have C_law_amount : FnC PySem.Challenge.pw_enoughcharge_k23_width_values w K mg base (clOf K tfq) 2 "_law_amount" 1 F_law_amount [] := ok_law_amount D_law_amount g_law_amount Mg  C_law_draw
  have C_law_tape : FnC PySem.Challenge.pw_enoughcharge_k23_width_values w K mg base (clOf K tfq) 1 "_law_tape" 1 F_law_tape [] := ok_law_tape D_law_tape g_law_tape Mg  
  exact FnG.ofMc (b := false) D_law sc_law (p := ("law", Option.none)) rfl (bd_law Mg Mx NK_Width_number N_Width_1 N_Width_0 C_law_said T_law C_law_fits C_law_refused_right C_law_draw C_law_sum_right C_law_pair_right C_law_amount C_law_tape)
open PySem.W in
theorem holds_of (ev : ∀ (ns : List Int) (d : D), ns.length ≤ 63 → (∀ i ∈ ns, Builtin.Int.intBits i ≤ 1048576) → scr d ns → ∃ S, F_law [d] [] = some (.ok (.bl true), S)) : PySem.Challenge.rw_enoughcharge_k23_width_values.Holds := by
  w_on; o_law
  refine HandSHeadRun.head_any (r := theRow) (q := theView) (H := theHook) (ob := seen) (M := 20000) (loose := loose) (d := HandSHeadRun.topDef theRow.prog 33) (kwd := []) seen_eq
    (by kernel_rfl) (fun t => by kernel_rfl) goes (by kernel_rfl) (by kernel_rfl) (by kernel_rfl) rfl (by first | assumption | decide +kernel) (by decide +kernel) ⟨rfl, rfl, rfl, rfl, rfl, by decide +kernel⟩ ?hw ?hc
  case hw => w_witness2
  case hc =>
    refine law_walk (l := PySem.Challenge.rw_enoughcharge_k23_width_values) (k := 154) (x := "_law_script") (F := F_law) rfl (by kernel_rfl) ⟨rfl, by decide, by decide⟩ (fun w mg fa h Y G hmg => get w mg fa h Y G ?_) ev
    have e : (HandSHeadRun.topDef theRow.prog 33).name = ("law" : PySem.Str) := by kernel_rfl
    rwa [e] at hmg
end K23
namespace Pv
open PySem PySem.Spec
/-- it answers, and the answer keeps P -/
def Rn {α : Type} (m : Out α) (P : α → Store → Prop) : Prop := ∃ a S, m = some (.ok a, S) ∧ P a S
theorem Rn.imp {α : Type} {m : Out α} {P Q : α → Store → Prop} (h : Rn m P) (k : ∀ a S, P a S → Q a S) : Rn m Q := let ⟨a, S, e, p⟩ := h; ⟨a, S, e, k a S p⟩
@[simp] theorem rn_bnd {α β : Type} {m : Out α} {k : α → Store → Out β} {P : β → Store → Prop} : Rn (bnd m k) P ↔ Rn m fun a S => Rn (k a S) P := by
  constructor
  · rintro ⟨b, S, e, p⟩
    cases h : m with
    | none => rw [h] at e; cases e
    | some q =>
      obtain ⟨q, S1⟩ := q
      rw [h] at e
      cases q with
      | ok a => exact ⟨a, S1, rfl, b, S, e, p⟩
      | ex x => cases e
  · rintro ⟨a, S1, e, b, S, e2, p⟩
    exact ⟨b, S, by rw [e]; exact e2, p⟩
@[simp] theorem rn_bndN {α β : Type} {m : Out α} {k : α → Store → Out β} {P : β → Store → Prop} : Rn (bndN m k) P ↔ Rn m fun a S => Rn (k a S) P := by
  constructor
  · rintro ⟨b, S, e, p⟩
    cases h : m with
    | none => rw [h] at e; cases e
    | some q =>
      obtain ⟨q, S1⟩ := q
      rw [h] at e
      cases q with
      | ok a => exact ⟨a, S1, rfl, b, S, e, p⟩
      | ex x => cases e
  · rintro ⟨a, S1, e, b, S, e2, p⟩
    exact ⟨b, S, by rw [e]; exact e2, p⟩
@[simp] theorem rn_ret {α : Type} {a : α} {S : Store} {P : α → Store → Prop} : Rn (ret a S) P ↔ P a S :=
  ⟨fun ⟨_, _, e, p⟩ => by cases e; exact p, fun p => ⟨a, S, rfl, p⟩⟩
@[simp] theorem rn_guard {α : Type} {b : Bool} {m : Out α} {P : α → Store → Prop} : Rn (guard' b m) P ↔ b = true ∧ Rn m P := by
  cases b with
  | true => simp
  | false => exact ⟨fun ⟨_, _, e, _⟩ => (nomatch e), fun ⟨h, _⟩ => (nomatch h)⟩
@[simp] theorem rn_none {α : Type} {P : α → Store → Prop} : Rn (none : Out α) P ↔ False := ⟨fun ⟨_, _, e, _⟩ => (nomatch e), False.elim⟩
theorem rn_cond {α : Type} {c : Bool} {m m' : Out α} {P : α → Store → Prop} : Rn (if c = true then m else m') P ↔ (c = true → Rn m P) ∧ (c = false → Rn m' P) := by
  cases c <;> simp

section
variable {ρ : Env} {S : Store}
@[simp] theorem rn_eC {d : D} {P : D → Store → Prop} : Rn (eC d ρ S) P ↔ P d S := rn_ret
@[simp] theorem rn_eBin {op : D → D → Store → Out D} {f g : Env → Store → Out D} {P : D → Store → Prop} : Rn (eBin op f g ρ S) P ↔ Rn (f ρ S) fun x S1 => Rn (g ρ S1) fun y S2 => Rn (op x y S2) P := by
  unfold eBin; simp
@[simp] theorem rn_eUn {op : D → Store → Out D} {f : Env → Store → Out D} {P : D → Store → Prop} : Rn (eUn op f ρ S) P ↔ Rn (f ρ S) fun x S1 => Rn (op x S1) P := by
  unfold eUn; simp
@[simp] theorem rn_eBl {o : List D → Store → Out D} {fs : Env → Store → Out (List D)} {P : D → Store → Prop} : Rn (eBl o fs ρ S) P ↔ Rn (fs ρ S) fun xs S1 => Rn (o xs S1) P := by
  unfold eBl; simp
@[simp] theorem rn_eNil {P : List D → Store → Prop} : Rn (eNil ρ S) P ↔ P [] S := rn_ret
@[simp] theorem rn_eCons {f : Env → Store → Out D} {fs : Env → Store → Out (List D)} {P : List D → Store → Prop} : Rn (eCons f fs ρ S) P ↔ Rn (f ρ S) fun x S1 => Rn (fs ρ S1) fun xs S2 => P (x :: xs) S2 := by
  unfold eCons; simp
@[simp] theorem rn_eTup {fs : Env → Store → Out (List D)} {P : D → Store → Prop} : Rn (eTup fs ρ S) P ↔ Rn (fs ρ S) fun xs S1 => xs.length ≤ line ∧ P (.tup xs) S1 := by
  unfold eTup; simp
@[simp] theorem rn_eLst {fs : Env → Store → Out (List D)} {P : D → Store → Prop} : Rn (eLst fs ρ S) P ↔ Rn (fs ρ S) fun xs S1 => xs.length ≤ line ∧ P (.lst xs) S1 := by
  unfold eLst; simp
@[simp] theorem rn_eCall {F : Fn} {dd : List D} {fs : Env → Store → Out (List D)} {P : D → Store → Prop} : Rn (eCall F dd fs ρ S) P ↔ Rn (fs ρ S) fun xs S1 => Rn (F (xs ++ dd) S1) P := by
  unfold eCall; simp
@[simp] theorem rn_ar {m : Nat} {F : Fn} {ds : List D} {P : D → Store → Prop} : Rn (ar m F ds S) P ↔ ds.length = m ∧ Rn (F ds S) P := by
  unfold ar; simp
@[simp] theorem rn_eTru {f : Env → Store → Out D} {P : Bool → Store → Prop} : Rn (eTru f ρ S) P ↔ Rn (f ρ S) fun d S1 => Rn (byT S1 d fun b => ret b S1) P := by
  unfold eTru; simp
theorem rn_byT {α : Type} {d : D} {b : Bool} {k : Bool → Out α} {P : α → Store → Prop} (h : truD S d = some b) : Rn (byT S d k) P ↔ Rn (k b) P := by
  unfold byT
  rw [h]
@[simp] theorem rn_byT_bl {α : Type} {b : Bool} {k : Bool → Out α} {P : α → Store → Prop} : Rn (byT S (.bl b) k) P ↔ Rn (k b) P := rn_byT (by rfl)
@[simp] theorem rn_bNot {f : Env → Store → Out Bool} {P : Bool → Store → Prop} : Rn (bNot f ρ S) P ↔ Rn (f ρ S) fun b S1 => P (!b) S1 := by
  unfold bNot; simp
@[simp] theorem rn_bOr {f g : Env → Store → Out Bool} {P : Bool → Store → Prop} : Rn (bOr f g ρ S) P ↔ Rn (f ρ S) fun b S1 => (b = true → P true S1) ∧ (b = false → Rn (g ρ S1) P) := by
  unfold bOr
  simp only [rn_bnd, rn_cond, rn_ret]
@[simp] theorem rn_bAnd {f g : Env → Store → Out Bool} {P : Bool → Store → Prop} : Rn (bAnd f g ρ S) P ↔ Rn (f ρ S) fun b S1 => (b = true → Rn (g ρ S1) P) ∧ (b = false → P false S1) := by
  unfold bAnd
  simp only [rn_bnd, rn_cond, rn_ret]
@[simp] theorem rn_eIf {t : Env → Store → Out Bool} {f g : Env → Store → Out D} {P : D → Store → Prop} : Rn (eIf t f g ρ S) P ↔ Rn (t ρ S) fun b S1 => (b = true → Rn (f ρ S1) P) ∧ (b = false → Rn (g ρ S1) P) := by
  unfold eIf
  simp only [rn_bnd, rn_cond]
@[simp] theorem rn_eM1 {o : D → D → Store → Out D} {f g : Env → Store → Out D} {P : D → Store → Prop} : Rn (eM1 o f g ρ S) P ↔ Rn (f ρ S) fun x S1 => isStr x = true ∧ Rn (g ρ S1) fun y S2 => Rn (o x y S2) P := by
  unfold eM1; simp
@[simp] theorem rn_eApp {f : Env → Store → Out D} {fs : Env → Store → Out (List D)} {P : D → Store → Prop} : Rn (eApp f fs ρ S) P ↔ Rn (f ρ S) fun x S1 => isList S1 x = true ∧ Rn (fs ρ S1) fun ds S2 => Rn (oApp x ds S2) P := by
  unfold eApp; simp
@[simp] theorem rn_eMk {f : Env → Store → Out D} {P : D → Store → Prop} : Rn (eMk f ρ S) P ↔ Rn (f ρ S) fun d S1 => ∃ ds, d = .lst ds ∧ P (.cell S1.length) (S1 ++ [.lst ds]) := by
  unfold eMk
  rw [rn_bnd]
  constructor
  · rintro ⟨d, S1, e, p⟩
    refine ⟨d, S1, e, ?_⟩
    cases d <;> simp at p <;> first | exact p.elim | exact ⟨_, rfl, p⟩
  · rintro ⟨d, S1, e, ds, rfl, p⟩
    exact ⟨_, S1, e, by simpa using p⟩
@[simp] theorem rn_eSl {f : Env → Store → Out D} {lo hi : Option (Env → Store → Out D)} {P : D → Store → Prop} : Rn (eSl f lo hi ρ S) P ↔ Rn (f ρ S) fun d S1 => Rn (ePart lo ρ S1) fun l S2 => Rn (ePart hi ρ S2) fun h S3 => Rn (oSl d l h S3) P := by
  unfold eSl; simp
@[simp] theorem rn_ePart_none {P : Option Int → Store → Prop} : Rn (ePart none ρ S) P ↔ P none S := rn_ret
@[simp] theorem rn_ePart_some {f : Env → Store → Out D} {P : Option Int → Store → Prop} : Rn (ePart (some f) ρ S) P ↔ Rn (f ρ S) fun d S1 => ∃ i, d = .int i ∧ P (some i) S1 := by
  unfold ePart
  rw [rn_bnd]
  constructor
  · rintro ⟨d, S1, e, p⟩
    refine ⟨d, S1, e, ?_⟩
    cases d <;> simp at p <;> first | exact p.elim | exact ⟨_, rfl, p⟩
  · rintro ⟨d, S1, e, i, rfl, p⟩
    exact ⟨_, S1, e, by simpa using p⟩
@[simp] theorem rn_eJs_nil {acc : Str} {P : D → Store → Prop} : Rn (eJs [] acc ρ S) P ↔ P (.str acc) S := rn_ret
theorem eJs_cons (f : Env → Store → Out D) (fs : List (Env → Store → Out D)) (acc : Str) (ρ : Env) (S : Store) : eJs (f :: fs) acc ρ S = bnd (f ρ S) fun d S1 => jsK d acc S1 fun a S2 => eJs fs a ρ S2 := rfl
@[simp] theorem rn_eJs_cons {f : Env → Store → Out D} {fs : List (Env → Store → Out D)} {acc : Str} {P : D → Store → Prop} : Rn (eJs (f :: fs) acc ρ S) P ↔ Rn (f ρ S) fun d S1 => ∃ y, d = .str y ∧ (acc ++ y).length ≤ line ∧ Rn (eJs fs (acc ++ y) ρ S1) P := by
  rw [eJs_cons, rn_bnd]
  constructor
  · rintro ⟨d, S1, e, p⟩
    refine ⟨d, S1, e, ?_⟩
    cases d <;> simp [jsK] at p
    exact ⟨_, rfl, p⟩
  · rintro ⟨d, S1, e, i, rfl, p⟩
    exact ⟨_, S1, e, by simpa [jsK] using p⟩
@[simp] theorem rn_eDisp {ks : List L2.Key} {fs : Env → Store → Out (List D)} {P : D → Store → Prop} : Rn (eDisp ks fs ρ S) P ↔ Rn (fs ρ S) fun ds S1 => ds.length = ks.length ∧ P (.cell S1.length) (S1 ++ [.dct (mergeD [] (ks.zip ds))]) := by
  unfold eDisp; simp
@[simp] theorem rn_sNil {P : Fl → Store → Prop} : Rn (sNil ρ S) P ↔ P (.nx ρ) S := rn_ret
/-- what follows a statement -/
def After' (g : SemS) (P : Fl → Store → Prop) : Fl → Store → Prop
  | .nx ρ, S => Rn (g ρ S) P
  | fl, S => P fl S
@[simp] theorem after_nx {g : SemS} {P : Fl → Store → Prop} {ρ : Env} {S : Store} : After' g P (.nx ρ) S ↔ Rn (g ρ S) P := Iff.rfl
@[simp] theorem after_rt {g : SemS} {P : Fl → Store → Prop} {d : D} {S : Store} : After' g P (.rt d) S ↔ P (.rt d) S := Iff.rfl
@[simp] theorem after_bk {g : SemS} {P : Fl → Store → Prop} {ρ : Env} {S : Store} : After' g P (.bk ρ) S ↔ P (.bk ρ) S := Iff.rfl
@[simp] theorem after_ct {g : SemS} {P : Fl → Store → Prop} {ρ : Env} {S : Store} : After' g P (.ct ρ) S ↔ P (.ct ρ) S := Iff.rfl
@[simp] theorem rn_sSeq {f g : SemS} {P : Fl → Store → Prop} : Rn (sSeq f g ρ S) P ↔ Rn (f ρ S) (After' g P) := by
  unfold sSeq
  rw [rn_bnd]
  constructor
  · rintro ⟨fl, S1, e, p⟩
    refine ⟨fl, S1, e, ?_⟩
    cases fl <;> simpa [flK] using p
  · rintro ⟨fl, S1, e, p⟩
    refine ⟨fl, S1, e, ?_⟩
    cases fl <;> simpa [flK] using p
@[simp] theorem rn_sDrop {f : Env → Store → Out D} {P : Fl → Store → Prop} : Rn (sDrop f ρ S) P ↔ Rn (f ρ S) fun _ S1 => P (.nx ρ) S1 := by
  unfold sDrop; simp
@[simp] theorem rn_sRet {f : Env → Store → Out D} {P : Fl → Store → Prop} : Rn (sRet f ρ S) P ↔ Rn (f ρ S) fun d S1 => P (.rt d) S1 := by
  unfold sRet; simp
@[simp] theorem rn_sRetN {P : Fl → Store → Prop} : Rn (sRetN ρ S) P ↔ P (.rt .non) S := rn_ret
@[simp] theorem rn_sSet {i : Nat} {f : Env → Store → Out D} {P : Fl → Store → Prop} : Rn (sSet i f ρ S) P ↔ Rn (f ρ S) fun d S1 => P (.nx (ρ.set i (some d))) S1 := by
  unfold sSet; simp
@[simp] theorem rn_sIf {t : Env → Store → Out Bool} {f g : SemS} {P : Fl → Store → Prop} : Rn (sIf t f g ρ S) P ↔ Rn (t ρ S) fun b S1 => (b = true → Rn (f ρ S1) P) ∧ (b = false → Rn (g ρ S1) P) := by
  unfold sIf
  simp only [rn_bnd, rn_cond]
@[simp] theorem rn_sPar {is : List Nat} {fs : Env → Store → Out (List D)} {P : Fl → Store → Prop} : Rn (sPar is fs ρ S) P ↔ Rn (fs ρ S) fun ds S1 => ∃ ρ', setAll is ds ρ = some ρ' ∧ P (.nx ρ') S1 := by
  unfold sPar
  rw [rn_bnd]
  constructor
  · rintro ⟨d, S1, e, p⟩
    refine ⟨d, S1, e, ?_⟩
    split at p
    · rename_i q; exact ⟨_, q, by simpa using p⟩
    · simp at p
  · rintro ⟨d, S1, e, ρ', q, p⟩
    exact ⟨d, S1, e, by simp only [q]; simpa using p⟩
@[simp] theorem rn_sUnp {is : List Nat} {f : Env → Store → Out D} {P : Fl → Store → Prop} : Rn (sUnp is f ρ S) P ↔ Rn (f ρ S) fun d S1 => ∃ ds ρ', d = .tup ds ∧ setAll is ds ρ = some ρ' ∧ P (.nx ρ') S1 := by
  unfold sUnp
  rw [rn_bnd]
  constructor
  · rintro ⟨d, S1, e, p⟩
    refine ⟨d, S1, e, ?_⟩
    cases d <;> simp at p
    split at p
    · rename_i q; exact ⟨_, _, rfl, q, by simpa using p⟩
    · simp at p
  · rintro ⟨d, S1, e, ds, ρ', rfl, q, p⟩
    exact ⟨_, S1, e, by simp [q]; exact p⟩
theorem rn_optS {α : Type} {o : Option Store} {a : α} {P : α → Store → Prop} : Rn (match o with | some S4 => ret a S4 | none => none) P ↔ ∃ S4, o = some S4 ∧ P a S4 := by
  cases o with
  | none => simp
  | some S4 => simp
@[simp] theorem rn_sPut {fo fi fe : Env → Store → Out D} {P : Fl → Store → Prop} : Rn (sPut fo fi fe ρ S) P ↔ Rn (fe ρ S) fun v S1 => Rn (fo ρ S1) fun x S2 => Rn (fi ρ S2) fun i S3 => ∃ S4, oPut x i v S3 = some S4 ∧ P (.nx ρ) S4 := by
  have e : ∀ {x i v : D} {S3 : Store}, Rn (match oPut x i v S3 with | some S4 => ret (Fl.nx ρ) S4 | none => none) P ↔ ∃ S4, oPut x i v S3 = some S4 ∧ P (.nx ρ) S4 := rn_optS
  unfold sPut
  rw [rn_bnd]
  refine ⟨fun h => h.imp fun v S1 h => ?_, fun h => h.imp fun v S1 h => ?_⟩
  · rw [rn_bnd] at h
    refine h.imp fun x S2 h => ?_
    rw [rn_bnd] at h
    exact h.imp fun i S3 h => e.mp h
  · rw [rn_bnd]
    refine h.imp fun x S2 h => ?_
    rw [rn_bnd]
    exact h.imp fun i S3 h => e.mpr h
end
/-- the items of what is walked, where nobody changes them -/
def Src.items : Src → Option (List D)
  | .rng lo n => some ((List.range n).map fun k => D.int (lo + (k : Nat)))
  | .seq (.tup ds) => some ds
  | .seq (.lst ds) => some ds
  | .seq (.frz ds) => some ds
  | .seq (.str z) => some (z.cps.toList.map fun c => D.str ⟨#[c]⟩)
  | .enm (.lst ds) => some (ds.mapIdx fun k d => D.tup [.int k, d])
  | .enm (.tup ds) => some (ds.mapIdx fun k d => D.tup [.int k, d])
  | .enS j ds => some (ds.mapIdx fun k d => D.tup [.int (j + k : Nat), d])
  | .enZ z => some (z.cps.toList.mapIdx fun k c => D.tup [.int k, .str ⟨#[c]⟩])
  | .zip (.tup ds) (.tup es) => some (List.zipWith (fun x y => D.tup [x, y]) ds es)
  | .zip (.lst ds) (.lst es) => some (List.zipWith (fun x y => D.tup [x, y]) ds es)
  | _ => none
theorem Src.at_items {s : Src} {ds : List D} (h : s.items = some ds) (S : Store) (k : Nat) : s.at_ S k = some ds[k]? := by
  cases s with
  | rng lo n =>
    simp only [Src.items, Option.some.injEq] at h
    subst h
    simp only [Src.at_]
    by_cases hk : k < n
    · rw [if_pos hk]
      simp [hk]
    · rw [if_neg hk]
      simp [List.getElem?_eq_none, Nat.le_of_not_lt hk]
  | seq x =>
    cases x <;> simp only [Src.items, Option.some.injEq, reduceCtorEq] at h
    · subst h
      simp only [Src.at_]
      rw [List.getElem?_map, Array.getElem?_toList]
    · subst h; rfl
    · subst h; rfl
    · subst h; rfl
  | enm x =>
    cases x <;> simp only [Src.items, Option.some.injEq, reduceCtorEq] at h
    · subst h
      rw [List.getElem?_mapIdx]
      rfl
    · subst h
      rw [List.getElem?_mapIdx]
      rfl
  | enZ z =>
    simp only [Src.items, Option.some.injEq] at h
    subst h
    simp only [Src.at_]
    rw [List.getElem?_mapIdx, Array.getElem?_toList]
  | enS j xs =>
    simp only [Src.items, Option.some.injEq] at h
    subst h
    rw [List.getElem?_mapIdx]
    rfl
  | zip x y =>
    have pw : ∀ ds es : List D, pairAt ds es k = (List.zipWith (fun x y => D.tup [x, y]) ds es)[k]? := fun ds es => by
      rw [List.getElem?_zipWith]
      unfold pairAt
      cases ds[k]? <;> cases es[k]? <;> rfl
    cases x <;> cases y <;> simp only [Src.items, Option.some.injEq, reduceCtorEq] at h
    · subst h; exact congrArg some (pw _ _)
    · subst h; exact congrArg some (pw _ _)
@[simp] theorem rn_eComp {tg : Tg} {fi : SemI} {cnd : Option (Env → Store → Out Bool)} {fe : Env → Store → Out D} {vs : List Nat} {m : Nat} {ρ : Env} {S : Store} {P : D → Store → Prop} :
    Rn (eComp tg fi cnd fe vs m ρ S) P ↔ Rn (fi ρ S) fun s S1 => Rn (compL tg cnd fe s (wipeD ρ vs) m 0 [] S1) fun ds S2 => P (.lst ds) S2 := by
  unfold eComp; simp
@[simp] theorem rn_sFor {tg : Tg} {fi : SemI} {b : SemS} {m : Nat} {ρ : Env} {S : Store} {P : Fl → Store → Prop} : Rn (sFor tg fi b m ρ S) P ↔ Rn (fi ρ S) fun s S1 => Rn (forL tg b s m 0 ρ S1) P := by
  unfold sFor; simp
end Pv
namespace Pv
open PySem PySem.Spec
mutual
/-- nothing of the store within -/
def D.pu : D → Bool
  | .tup ds => D.pus ds
  | .lst ds => D.pus ds
  | .frz ds => D.pus ds
  | .cell _ => false
  | .err _ _ _ => false
  | .ob _ _ ds => D.pus ds
  | _ => true
def D.pus : List D → Bool
  | [] => true
  | d :: ds => D.pu d && D.pus ds
end
theorem pus_iff : ∀ {ds : List D}, D.pus ds = true ↔ ∀ d ∈ ds, d.pu = true
  | [] => by simp [D.pus]
  | d :: ds => by simp [D.pus, pus_iff (ds := ds)]
theorem pus_append {a b : List D} : D.pus (a ++ b) = true ↔ D.pus a = true ∧ D.pus b = true := by
  simp only [pus_iff, List.mem_append]
  exact ⟨fun h => ⟨fun d m => h d (.inl m), fun d m => h d (.inr m)⟩, fun h d m => m.elim (h.1 d) (h.2 d)⟩
mutual
theorem pu_clos {n : Nat} : ∀ {d : D}, d.pu = true → d.clos n = true
  | .non, _ => rfl
  | .bl _, _ => rfl
  | .int _, _ => rfl
  | .str _, _ => rfl
  | .tup ds, h => pus_clos (ds := ds) h
  | .lst ds, h => pus_clos (ds := ds) h
  | .frz ds, h => pus_clos (ds := ds) h
  | .cell _, h => nomatch h
  | .err _ _ _, h => nomatch h
  | .ob _ _ ds, h => pus_clos (ds := ds) h
theorem pus_clos {n : Nat} : ∀ {ds : List D}, D.pus ds = true → D.closs n ds = true
  | [], _ => rfl
  | d :: ds, h => by
    simp only [D.pus, Bool.and_eq_true] at h
    simp only [D.closs, Bool.and_eq_true]
    exact ⟨pu_clos h.1, pus_clos h.2⟩
end
mutual
theorem pu_exp {n x : Nat} {S : Store} : ∀ {d : D}, d.pu = true → d.exp n x S = some d
  | .non, _ => rfl
  | .bl _, _ => rfl
  | .int _, _ => rfl
  | .str _, _ => rfl
  | .tup ds, h => by simp only [D.exp, pus_exp (ds := ds) h]
  | .lst ds, h => by simp only [D.exp, pus_exp (ds := ds) h]
  | .frz ds, h => by
    have h : D.pus ds = true := h
    simp only [D.exp, pus_clos (n := n) h, if_true]
  | .cell _, h => nomatch h
  | .err _ _ _, h => nomatch h
  | .ob _ _ ds, h => by simp only [D.exp, pus_exp (ds := ds) h]
theorem pus_exp {n x : Nat} {S : Store} : ∀ {ds : List D}, D.pus ds = true → D.exps n x S ds = some ds
  | [], _ => rfl
  | d :: ds, h => by
    simp only [D.pus, Bool.and_eq_true] at h
    simp only [D.exps, pu_exp (S := S) (n := n) (x := x) h.1, pus_exp (S := S) (n := n) (x := x) h.2]
end
def Cell.pu : Cell → Bool
  | .lst ds => D.pus ds
  | .dct kvs => D.pus (kvs.map (·.2))
  | .dn kvs => D.pus (kvs.map (·.2))
def okS (S : Store) : Prop := ∀ c ∈ S, Cell.pu c = true
theorem okS.nil : okS [] := fun _ h => nomatch h
theorem okS.cons {c : Cell} {S : Store} (h : Cell.pu c = true) (hs : okS S) : okS (c :: S) := fun x m => (List.mem_cons.mp m).elim (fun e => by rw [e]; exact h) (hs x)
theorem okS.append {S T : Store} (h : okS S) (k : okS T) : okS (S ++ T) := fun x m => (List.mem_append.mp m).elim (h x) (k x)
theorem okS.one {S : Store} {c : Cell} (h : okS S) (k : Cell.pu c = true) : okS (S ++ [c]) := h.append (okS.cons k okS.nil)
theorem okS.tail {c : Cell} {S : Store} (h : okS (c :: S)) : okS S := fun x m => h x (List.mem_cons_of_mem _ m)
theorem okS.take {S : Store} (h : okS S) (n : Nat) : okS (S.take n) := fun x m => h x (List.mem_of_mem_take m)
theorem okS.all {S : Store} {n m : Nat} (h : okS S) : (S.take n).all (Cell.clos m) = true := by
  rw [List.all_eq_true]
  intro c hc
  have q := h.take n c hc
  cases c with
  | lst ds => exact pus_clos q
  | dct kvs => exact pus_clos q
  | dn kvs => exact pus_clos q
/-- a plain value is handed over -/
theorem end_pu {b : Bool} {n : Nat} {d : D} {S1 : Store} {P : D → Store → Prop} (hd : d.pu = true) (hS : okS S1) (p : P d (S1.take n)) : Rn (endF b n (.ok (.rt d), S1)) P := by
  refine ⟨d, S1.take n, ?_, p⟩
  show guard' _ _ = _
  rw [hS.all, guard_true]
  cases d with
  | cell i => exact nomatch hd
  | non => rfl
  | bl _ => rfl
  | int _ => rfl
  | str _ => rfl
  | tup ds => simp only [pu_exp hd]; rfl
  | lst ds => simp only [pu_exp hd]; rfl
  | frz ds => simp only [pu_exp hd]; rfl
  | err b1 b2 b3 => exact nomatch hd
  | ob b1 b2 ds => simp only [pu_exp hd]; rfl
structure Fd where
  ds : List Int
  at_ : Nat
  tot : Int
def Fd.c (f : Fd) : Cell := .dct [(.inr "draws", .lst (f.ds.map D.int)), (.inr "at", .int f.at_), (.inr "total", .int f.tot)]
theorem pus_ints : ∀ (ns : List Int), D.pus (ns.map D.int) = true
  | [] => rfl
  | _ :: ns => pus_ints ns
theorem Fd.pu (f : Fd) : Cell.pu f.c = true := by
  simp only [Fd.c, Cell.pu, List.map_cons, List.map_nil, D.pus, D.pu, pus_ints, Bool.and_self]
/-- what a drawing may count on, and what it leaves: at most k numbers more are drawn, all else of the store stays -/
structure Fd.ok (f : Fd) (k : Nat) : Prop where
  few : f.at_ ≤ k
  tot0 : 0 ≤ f.tot
  tot1 : f.tot < 2147483629
theorem Fd.ok.mono {f : Fd} {j k : Nat} (h : f.ok j) (l : j ≤ k) : f.ok k := ⟨Nat.le_trans h.few l, h.tot0, h.tot1⟩
end Pv
namespace Pv
open PySem PySem.Spec
/-- a continuation, so that it stands still until its time has come -/
structure Dm {α β : Type} (k : α → Store → Out β) : Type where
/-- the same as bnd -/
def lz {α β : Type} (m : Out α) (k : α → Store → Out β) (_ : Dm k := {}) : Out β := bnd m k
def lzN {α β : Type} (m : Out α) (k : α → Store → Out β) (_ : Dm k := {}) : Out β := bndN m k
@[simp] theorem lz_ret {α β : Type} {a : α} {S : Store} {k : α → Store → Out β} {d : Dm k} : lz (ret a S) k d = k a S := rfl
@[simp] theorem lzN_ret {α β : Type} {a : α} {S : Store} {k : α → Store → Out β} {d : Dm k} : lzN (ret a S) k d = k a S := rfl
@[simp] theorem lz_assoc {α β γ : Type} (m : Out α) (k : α → Store → Out β) (l : β → Store → Out γ) {d : Dm k} {e : Dm l} : lz (lz m k d) l e = lz m fun a S => lz (k a S) l := by
  cases m with
  | none => rfl
  | some q => obtain ⟨q, S⟩ := q; cases q <;> rfl
@[simp] theorem lz_ite {α β : Type} {p : Prop} [Decidable p] (a b : Out α) (k : α → Store → Out β) {d : Dm k} : lz (if p then a else b) k d = if p then lz a k else lz b k := by split <;> rfl
@[simp] theorem lzN_ite {α β : Type} {p : Prop} [Decidable p] (a b : Out α) (k : α → Store → Out β) {d : Dm k} : lzN (if p then a else b) k d = if p then lzN a k else lzN b k := by split <;> rfl
@[simp] theorem lzN_lz {α β γ : Type} (m : Out α) (k : α → Store → Out β) (l : β → Store → Out γ) {d : Dm k} {e : Dm l} : lzN (lz m k d) l e = lzN m fun a S => lzN (k a S) l := by
  cases m with
  | none => rfl
  | some q => obtain ⟨q, S⟩ := q; cases q <;> rfl
@[simp] theorem ret_inj {α : Type} {a b : α} {S T : Store} : ((ret a S : Out α) = ret b T) ↔ a = b ∧ S = T := by
  unfold ret
  simp
@[simp] theorem ofs_inj {a b : String} : (Str.ofString a = Str.ofString b) = (a = b) := by
  rw [Str.ofString_eq_toList, Str.ofString_eq_toList]
  refine propext ⟨fun h => ?_, fun h => by rw [h]⟩
  have h1 : a.toList.map Char.toNat = b.toList.map Char.toNat := by
    have := congrArg (fun x : Str => x.cps.toList) h
    simpa using this
  have h2 : a.toList = b.toList := List.map_inj_right (fun x y e => Char.ext (UInt32.toNat_inj.mp e)) |>.mp h1
  exact String.toList_inj.mp h2
section
variable {ρ : Env} {S : Store} {f g t : Env → Store → Out D} {fs : Env → Store → Out (List D)} {d : D} {b c : SemS} {tb ub : Env → Store → Out Bool} {i : Nat} {is : List Nat}
@[simp] theorem ev_eC : eC d ρ S = ret d S := rfl
@[simp] theorem ev_eVar : eVar i ρ S = (match ρ[i]? with | some (some d) => ret d S | _ => none) := rfl
@[simp] theorem ev_eBin {op : D → D → Store → Out D} : eBin op f g ρ S = lz (f ρ S) fun x S1 => lz (g ρ S1) fun y S2 => op x y S2 := rfl
@[simp] theorem ev_eUn {op : D → Store → Out D} : eUn op f ρ S = lz (f ρ S) fun x S1 => op x S1 := rfl
@[simp] theorem ev_eBl {o : List D → Store → Out D} : eBl o fs ρ S = lz (fs ρ S) fun xs S1 => o xs S1 := rfl
@[simp] theorem ev_eNil : eNil ρ S = ret [] S := rfl
@[simp] theorem ev_eCons : eCons f fs ρ S = lz (f ρ S) fun x S1 => lz (fs ρ S1) fun xs S2 => ret (x :: xs) S2 := rfl
@[simp] theorem ev_eTup : eTup fs ρ S = lz (fs ρ S) fun xs S1 => guard' (decide (xs.length ≤ line)) (ret (.tup xs) S1) := rfl
@[simp] theorem ev_eLst : eLst fs ρ S = lz (fs ρ S) fun xs S1 => guard' (decide (xs.length ≤ line)) (ret (.lst xs) S1) := rfl
@[simp] theorem ev_eCall {F : Fn} {dd : List D} : eCall F dd fs ρ S = lz (fs ρ S) fun xs S1 => F (xs ++ dd) S1 := rfl
@[simp] theorem ev_eCallK {F : Fn} {js : List Nat} : eCallK F js fs ρ S = lz (fs ρ S) fun ds S1 => guard' (ds.length == js.length && js.all fun i => decide (i < ds.length)) (F (pick js ds) S1) := rfl
@[simp] theorem ev_ar {m : Nat} {F : Fn} {ds : List D} : ar m F ds S = guard' (ds.length == m) (F ds S) := rfl
@[simp] theorem ev_eTru : eTru f ρ S = lz (f ρ S) fun d S1 => byT S1 d fun b => ret b S1 := rfl
@[simp] theorem ev_byT_bl {α : Type} {q : Bool} {k : Bool → Out α} : byT S (.bl q) k = k q := rfl
@[simp] theorem ev_bNot : bNot tb ρ S = lz (tb ρ S) fun d S1 => ret (!d) S1 := rfl
@[simp] theorem ev_bOr : bOr tb ub ρ S = lz (tb ρ S) fun d S1 => if d then ret true S1 else ub ρ S1 := rfl
@[simp] theorem ev_bAnd : bAnd tb ub ρ S = lz (tb ρ S) fun d S1 => if d then ub ρ S1 else ret false S1 := rfl
@[simp] theorem ev_eIf : eIf tb f g ρ S = lz (tb ρ S) fun d S1 => if d then f ρ S1 else g ρ S1 := rfl
@[simp] theorem ev_eOr : eOr f g ρ S = lz (f ρ S) fun d S1 => byT S1 d fun b => if b then ret d S1 else g ρ S1 := rfl
@[simp] theorem ev_eAnd : eAnd f g ρ S = lz (f ρ S) fun d S1 => byT S1 d fun b => if b then g ρ S1 else ret d S1 := rfl
@[simp] theorem ev_eNot : eNot f ρ S = lz (f ρ S) fun d S1 => byT S1 d fun b => ret (.bl (!b)) S1 := rfl
@[simp] theorem ev_eChain {o o' : D → D → Store → Out D} : eChain o o' f g t ρ S = lz (f ρ S) fun x S1 => lz (g ρ S1) fun y S2 => lz (o x y S2) fun d S3 => chK o' t ρ y d S3 := rfl
@[simp] theorem ev_chK {o' : D → D → Store → Out D} {y : D} {q : Bool} : chK o' t ρ y (.bl q) S = if q then (lz (t ρ S) fun z S4 => o' y z S4) else ret (.bl false) S := by cases q <;> rfl
@[simp] theorem ev_eMl {oo : D → List D → Store → Out D} : eMl oo f fs ρ S = lz (f ρ S) fun x S1 => guard' (isList S1 x) (lz (fs ρ S1) fun ds S2 => oo x ds S2) := rfl
@[simp] theorem ev_eApp : eApp f fs ρ S = lz (f ρ S) fun x S1 => guard' (isList S1 x) (lz (fs ρ S1) fun ds S2 => oApp x ds S2) := rfl
@[simp] theorem ev_eMk : eMk f ρ S = lz (f ρ S) fun d S1 => (match d with | .lst ds => ret (.cell S1.length) (S1 ++ [.lst ds]) | _ => none) := rfl
@[simp] theorem ev_eSl {lo hi : Option (Env → Store → Out D)} : eSl f lo hi ρ S = lz (f ρ S) fun d S1 => lz (ePart lo ρ S1) fun l S2 => lz (ePart hi ρ S2) fun h S3 => oSl d l h S3 := rfl
@[simp] theorem ev_ePart0 : ePart none ρ S = ret none S := rfl
@[simp] theorem ev_ePart1 : ePart (some f) ρ S = lz (f ρ S) fun d S1 => (match d with | .int i => ret (some i) S1 | _ => none) := rfl
@[simp] theorem ev_sSeq : sSeq b c ρ S = lz (b ρ S) (flK c) := rfl
@[simp] theorem ev_nx {ρ' : Env} : flK b (.nx ρ') S = b ρ' S := rfl
@[simp] theorem ev_rt : flK b (.rt d) S = ret (.rt d) S := rfl
@[simp] theorem ev_bk {ρ' : Env} : flK b (.bk ρ') S = ret (.bk ρ') S := rfl
@[simp] theorem ev_ct {ρ' : Env} : flK b (.ct ρ') S = ret (.ct ρ') S := rfl
@[simp] theorem ev_sNil : sNil ρ S = ret (.nx ρ) S := rfl
@[simp] theorem ev_sDrop : sDrop f ρ S = lz (f ρ S) fun _ S1 => ret (.nx ρ) S1 := rfl
@[simp] theorem ev_sRet : sRet f ρ S = lz (f ρ S) fun d S1 => ret (.rt d) S1 := rfl
@[simp] theorem ev_sRetN : sRetN ρ S = ret (.rt .non) S := rfl
@[simp] theorem ev_sSet : sSet i f ρ S = lz (f ρ S) fun d S1 => ret (.nx (ρ.set i (some d))) S1 := rfl
@[simp] theorem ev_sIf : sIf tb b c ρ S = lz (tb ρ S) fun k S1 => if k then b ρ S1 else c ρ S1 := rfl
@[simp] theorem ev_sPar : sPar is fs ρ S = lz (fs ρ S) fun ds S1 => (match setAll is ds ρ with | some ρ' => ret (.nx ρ') S1 | none => none) := rfl
@[simp] theorem ev_sUnp : sUnp is f ρ S = lz (f ρ S) fun d S1 => (match d with | .tup ds => (match setAll is ds ρ with | some ρ' => ret (.nx ρ') S1 | none => none) | _ => none) := rfl
@[simp] theorem ev_sPut : sPut f g t ρ S = lz (t ρ S) fun v S1 => lz (f ρ S1) fun x S2 => lz (g ρ S2) fun i S3 => (match oPut x i v S3 with | some S4 => ret (.nx ρ) S4 | none => none) := rfl
@[simp] theorem ev_sTryN : sTryN b ρ S = (match b ρ S with | some (.ok fl, S1) => some (.ok fl, S1) | _ => none) := rfl
@[simp] theorem ev_sFor {tg : Tg} {fi : SemI} {m : Nat} : sFor tg fi b m ρ S = lz (fi ρ S) fun s S1 => forL tg b s m 0 ρ S1 := rfl
@[simp] theorem ev_eComp {tg : Tg} {fi : SemI} {cnd : Option (Env → Store → Out Bool)} {vs : List Nat} {m : Nat} : eComp tg fi cnd f vs m ρ S = lz (fi ρ S) fun s S1 => lz (compL tg cnd f s (wipeD ρ vs) m 0 [] S1) fun ds S2 => ret (.lst ds) S2 := rfl
@[simp] theorem ev_eDComp {tg : Tg} {fi : SemI} {cnd : Option (Env → Store → Out Bool)} {vs : List Nat} {m : Nat} : eDComp tg fi cnd f g vs m ρ S = lz (fi ρ S) fun s S1 => lz (compD tg cnd f g s (wipeD ρ vs) m 0 [] S1) fun kvs S2 => ret (.cell S2.length) (S2 ++ [.dct kvs]) := rfl
@[simp] theorem wipeD0 : wipeD ρ [] = ρ := rfl
@[simp] theorem wipeD1 {v : Nat} {vs : List Nat} : wipeD ρ (v :: vs) = (wipeD ρ vs).set v none := rfl
@[simp] theorem setAll0 : setAll [] [] ρ = some ρ := rfl
@[simp] theorem setAll1 {ds : List D} : setAll (i :: is) (d :: ds) ρ = setAll is ds (ρ.set i (some d)) := rfl
@[simp] theorem setT1 : setT (.nm i) d ρ = some (ρ.set i (some d)) := rfl
@[simp] theorem setT2 {ts : List Tg} {ds : List D} : setT (.tp ts) (.tup ds) ρ = setTs ts ds ρ := rfl
@[simp] theorem setTs0 : setTs [] [] ρ = some ρ := rfl
@[simp] theorem setTs1 {q : Tg} {ts : List Tg} {ds : List D} : setTs (q :: ts) (d :: ds) ρ = (match setT q d ρ with | some ρ' => setTs ts ds ρ' | none => none) := rfl
end
section
variable {S : Store} {i j : Int} {a b : Str} {d : D} {ds es : List D}
@[simp] theorem ev_int : oInt [.int i] S = ret (.int i) S := rfl
@[simp] theorem ev_add : oAdd (.int i) (.int j) S = ret (.int (i + j)) S := rfl
@[simp] theorem ev_addT : oAdd (.tup ds) (.tup es) S = guard' (decide (ds.length + es.length ≤ line)) (ret (.tup (ds ++ es)) S) := rfl
@[simp] theorem ev_addL : oAdd (.lst ds) (.lst es) S = guard' (decide (ds.length + es.length ≤ line)) (ret (.lst (ds ++ es)) S) := rfl
@[simp] theorem ev_sub : oSub (.int i) (.int j) S = ret (.int (i - j)) S := rfl
@[simp] theorem ev_mul : oMul (.int i) (.int j) S = guard' (decide (i.natAbs.log2 + j.natAbs.log2 < 1000000)) (ret (.int (i * j)) S) := rfl
theorem ev_div : oDiv (.int i) (.int j) S = guard' (decide (0 < j) && decide (j.natAbs.log2 < 9000)) (ret (.int (i / j)) S) := rfl
@[simp] theorem ev_mod : oMod (.int i) (.int j) S = guard' (decide (0 < j)) (ret (.int (i % j)) S) := rfl
@[simp] theorem ev_lt : oLt (.int i) (.int j) S = ret (.bl (decide (i < j))) S := rfl
@[simp] theorem ev_le : oLe (.int i) (.int j) S = ret (.bl (decide (i ≤ j))) S := rfl
@[simp] theorem ev_gt : oGt (.int i) (.int j) S = ret (.bl (decide (j < i))) S := rfl
@[simp] theorem ev_ge : oGe (.int i) (.int j) S = ret (.bl (decide (j ≤ i))) S := rfl
@[simp] theorem ev_eqI : oEq (.int i) (.int j) S = ret (.bl (decide (i = j))) S := by
  have e : pyEq S (.int i) (.int j) = some (decide (i = j)) := by simp [pyEq, scEq, D.sc, L2.scal]
  unfold oEq
  rw [e]
@[simp] theorem ev_neI : oNe (.int i) (.int j) S = ret (.bl (!decide (i = j))) S := by
  have e : pyEq S (.int i) (.int j) = some (decide (i = j)) := by simp [pyEq, scEq, D.sc, L2.scal]
  unfold oNe
  rw [e]
@[simp] theorem ev_eqS : oEq (.str a) (.str b) S = ret (.bl (decide (a = b))) S := by
  have e : pyEq S (.str a) (.str b) = some (decide (a = b)) := by simp [pyEq, scEq, D.sc, L2.scal]
  unfold oEq
  rw [e]
@[simp] theorem ev_neS : oNe (.str a) (.str b) S = ret (.bl (!decide (a = b))) S := by
  have e : pyEq S (.str a) (.str b) = some (decide (a = b)) := by simp [pyEq, scEq, D.sc, L2.scal]
  unfold oNe
  rw [e]
@[simp] theorem ev_isN : oIs false d .non S = ret (.bl d.isNon) S := rfl
@[simp] theorem ev_isNotN : oIs true d .non S = ret (.bl (!d.isNon)) S := rfl
@[simp] theorem ev_lenL : oLen [.lst ds] S = ret (.int ds.length) S := rfl
@[simp] theorem ev_lenT : oLen [.tup ds] S = ret (.int ds.length) S := rfl
@[simp] theorem ev_tupL : oTuple [.lst ds] S = ret (.tup ds) S := rfl
@[simp] theorem ev_tupT : oTuple [.tup ds] S = ret (.tup ds) S := rfl
@[simp] theorem ev_lstT : oList [.tup ds] S = ret (.lst ds) S := rfl
@[simp] theorem ev_lstL : oList [.lst ds] S = ret (.lst ds) S := rfl
@[simp] theorem ev_ixT : oIx (.tup ds) (.int i) S = (match L2.atI ds i with | some d => ret d S | none => none) := rfl
@[simp] theorem ev_ixL : oIx (.lst ds) (.int i) S = (match L2.atI ds i with | some d => ret d S | none => none) := rfl
@[simp] theorem ev_slT {lo hi : Option Int} : oSl (.tup ds) lo hi S = ret (.tup (cutG ds lo hi)) S := rfl
@[simp] theorem ev_slL {lo hi : Option Int} : oSl (.lst ds) lo hi S = ret (.lst (cutG ds lo hi)) S := rfl
@[simp] theorem ev_isl : isList S (.lst ds) = true := rfl
@[simp] theorem at_0 {l : List D} : L2.atI (d :: l) 0 = some d := by simp [L2.atI, L2.ixN]
@[simp] theorem at_1 {d1 : D} {l : List D} : L2.atI (d :: d1 :: l) 1 = some d1 := by
  have : (1 : Int) < (l.length : Int) + 1 + 1 := by omega
  simp [L2.atI, L2.ixN, this]
@[simp] theorem at_2 {d1 d2 : D} {l : List D} : L2.atI (d :: d1 :: d2 :: l) 2 = some d2 := by
  have : (2 : Int) < (l.length : Int) + 1 + 1 + 1 := by omega
  simp [L2.atI, L2.ixN, this]
@[simp] theorem at_3 {d1 d2 d3 : D} {l : List D} : L2.atI (d :: d1 :: d2 :: d3 :: l) 3 = some d3 := by
  have : (3 : Int) < (l.length : Int) + 1 + 1 + 1 + 1 := by omega
  simp [L2.atI, L2.ixN, this]
@[simp] theorem at_m1 {l : List D} : L2.atI (l ++ [d]) (-1) = some d := by
  have h : (1 : Int) ≤ (l.length : Int) + 1 := by omega
  have h2 : (-1 + ((l.length : Int) + 1)).toNat = l.length := by omega
  simp [L2.atI, L2.ixN, h, h2]
@[simp] theorem at_m1a : L2.atI [d] (-1) = some d := by simp [L2.atI, L2.ixN]
@[simp] theorem at_m1b {d1 : D} : L2.atI [d, d1] (-1) = some d1 := by simp [L2.atI, L2.ixN]
@[simp] theorem at_m1c {d1 d2 : D} : L2.atI [d, d1, d2] (-1) = some d2 := by simp [L2.atI, L2.ixN]
@[simp] theorem at_m1d {d1 d2 d3 : D} : L2.atI [d, d1, d2, d3] (-1) = some d3 := by simp [L2.atI, L2.ixN]
@[simp] theorem isNon_non : D.isNon .non = true := rfl
@[simp] theorem isNon_bl {q : Bool} : D.isNon (.bl q) = false := rfl
@[simp] theorem isNon_int : D.isNon (.int i) = false := rfl
@[simp] theorem isNon_str : D.isNon (.str a) = false := rfl
@[simp] theorem isNon_tup : D.isNon (.tup ds) = false := rfl
@[simp] theorem isNon_lst : D.isNon (.lst ds) = false := rfl
end
theorem isi_of {T n : String} {d : D} {b : Bool} {S : Store} (h : tyD S d = some n) (hk : L2.kitB n T = some b) : oIsi T d S = ret (.bl b) S := by
  unfold oIsi
  rw [h]
  simp only [hk]
@[simp] theorem isi_NoneType_int {S : Store} : oIsi "int" .non S = ret (.bl false) S := isi_of (n := "NoneType") rfl (by decide +kernel)
@[simp] theorem isi_NoneType_str {S : Store} : oIsi "str" .non S = ret (.bl false) S := isi_of (n := "NoneType") rfl (by decide +kernel)
@[simp] theorem isi_NoneType_tuple {S : Store} : oIsi "tuple" .non S = ret (.bl false) S := isi_of (n := "NoneType") rfl (by decide +kernel)
@[simp] theorem isi_NoneType_list {S : Store} : oIsi "list" .non S = ret (.bl false) S := isi_of (n := "NoneType") rfl (by decide +kernel)
@[simp] theorem isi_NoneType_bool {S : Store} : oIsi "bool" .non S = ret (.bl false) S := isi_of (n := "NoneType") rfl (by decide +kernel)
@[simp] theorem isi_NoneType_dict {S : Store} : oIsi "dict" .non S = ret (.bl false) S := isi_of (n := "NoneType") rfl (by decide +kernel)
@[simp] theorem isi_bool_int {S : Store} {q : Bool} : oIsi "int" (.bl q) S = ret (.bl true) S := isi_of (n := "bool") rfl (by decide +kernel)
@[simp] theorem isi_bool_str {S : Store} {q : Bool} : oIsi "str" (.bl q) S = ret (.bl false) S := isi_of (n := "bool") rfl (by decide +kernel)
@[simp] theorem isi_bool_tuple {S : Store} {q : Bool} : oIsi "tuple" (.bl q) S = ret (.bl false) S := isi_of (n := "bool") rfl (by decide +kernel)
@[simp] theorem isi_bool_list {S : Store} {q : Bool} : oIsi "list" (.bl q) S = ret (.bl false) S := isi_of (n := "bool") rfl (by decide +kernel)
@[simp] theorem isi_bool_bool {S : Store} {q : Bool} : oIsi "bool" (.bl q) S = ret (.bl true) S := isi_of (n := "bool") rfl (by decide +kernel)
@[simp] theorem isi_bool_dict {S : Store} {q : Bool} : oIsi "dict" (.bl q) S = ret (.bl false) S := isi_of (n := "bool") rfl (by decide +kernel)
@[simp] theorem isi_int_int {S : Store} {i : Int} : oIsi "int" (.int i) S = ret (.bl true) S := isi_of (n := "int") rfl (by decide +kernel)
@[simp] theorem isi_int_str {S : Store} {i : Int} : oIsi "str" (.int i) S = ret (.bl false) S := isi_of (n := "int") rfl (by decide +kernel)
@[simp] theorem isi_int_tuple {S : Store} {i : Int} : oIsi "tuple" (.int i) S = ret (.bl false) S := isi_of (n := "int") rfl (by decide +kernel)
@[simp] theorem isi_int_list {S : Store} {i : Int} : oIsi "list" (.int i) S = ret (.bl false) S := isi_of (n := "int") rfl (by decide +kernel)
@[simp] theorem isi_int_bool {S : Store} {i : Int} : oIsi "bool" (.int i) S = ret (.bl false) S := isi_of (n := "int") rfl (by decide +kernel)
@[simp] theorem isi_int_dict {S : Store} {i : Int} : oIsi "dict" (.int i) S = ret (.bl false) S := isi_of (n := "int") rfl (by decide +kernel)
@[simp] theorem isi_str_int {S : Store} {a : Str} : oIsi "int" (.str a) S = ret (.bl false) S := isi_of (n := "str") rfl (by decide +kernel)
@[simp] theorem isi_str_str {S : Store} {a : Str} : oIsi "str" (.str a) S = ret (.bl true) S := isi_of (n := "str") rfl (by decide +kernel)
@[simp] theorem isi_str_tuple {S : Store} {a : Str} : oIsi "tuple" (.str a) S = ret (.bl false) S := isi_of (n := "str") rfl (by decide +kernel)
@[simp] theorem isi_str_list {S : Store} {a : Str} : oIsi "list" (.str a) S = ret (.bl false) S := isi_of (n := "str") rfl (by decide +kernel)
@[simp] theorem isi_str_bool {S : Store} {a : Str} : oIsi "bool" (.str a) S = ret (.bl false) S := isi_of (n := "str") rfl (by decide +kernel)
@[simp] theorem isi_str_dict {S : Store} {a : Str} : oIsi "dict" (.str a) S = ret (.bl false) S := isi_of (n := "str") rfl (by decide +kernel)
@[simp] theorem isi_tuple_int {S : Store} {ds : List D} : oIsi "int" (.tup ds) S = ret (.bl false) S := isi_of (n := "tuple") rfl (by decide +kernel)
@[simp] theorem isi_tuple_str {S : Store} {ds : List D} : oIsi "str" (.tup ds) S = ret (.bl false) S := isi_of (n := "tuple") rfl (by decide +kernel)
@[simp] theorem isi_tuple_tuple {S : Store} {ds : List D} : oIsi "tuple" (.tup ds) S = ret (.bl true) S := isi_of (n := "tuple") rfl (by decide +kernel)
@[simp] theorem isi_tuple_list {S : Store} {ds : List D} : oIsi "list" (.tup ds) S = ret (.bl false) S := isi_of (n := "tuple") rfl (by decide +kernel)
@[simp] theorem isi_tuple_bool {S : Store} {ds : List D} : oIsi "bool" (.tup ds) S = ret (.bl false) S := isi_of (n := "tuple") rfl (by decide +kernel)
@[simp] theorem isi_tuple_dict {S : Store} {ds : List D} : oIsi "dict" (.tup ds) S = ret (.bl false) S := isi_of (n := "tuple") rfl (by decide +kernel)
@[simp] theorem isi_list_int {S : Store} {ds : List D} : oIsi "int" (.lst ds) S = ret (.bl false) S := isi_of (n := "list") rfl (by decide +kernel)
@[simp] theorem isi_list_str {S : Store} {ds : List D} : oIsi "str" (.lst ds) S = ret (.bl false) S := isi_of (n := "list") rfl (by decide +kernel)
@[simp] theorem isi_list_tuple {S : Store} {ds : List D} : oIsi "tuple" (.lst ds) S = ret (.bl false) S := isi_of (n := "list") rfl (by decide +kernel)
@[simp] theorem isi_list_list {S : Store} {ds : List D} : oIsi "list" (.lst ds) S = ret (.bl true) S := isi_of (n := "list") rfl (by decide +kernel)
@[simp] theorem isi_list_bool {S : Store} {ds : List D} : oIsi "bool" (.lst ds) S = ret (.bl false) S := isi_of (n := "list") rfl (by decide +kernel)
@[simp] theorem isi_list_dict {S : Store} {ds : List D} : oIsi "dict" (.lst ds) S = ret (.bl false) S := isi_of (n := "list") rfl (by decide +kernel)
@[simp] theorem line_eq : line = 10000000 := rfl
end Pv
namespace Pv
open PySem PySem.Spec
def compP (tg : Tg) (cnd : Option (Env → Store → Out Bool)) (fe : Env → Store → Out D) (ρ : Env) : List D → List D → Store → Out (List D)
  | [], acc, S => ret acc S
  | d :: ds, acc, S => (match setT tg d ρ with
    | some ρ1 => lzN (cndE cnd ρ1 S) fun b S1 => if b then lzN (fe ρ1 S1) fun x S2 => guard' (decide (acc.length < line)) (compP tg cnd fe ρ ds (acc ++ [x]) S2) else compP tg cnd fe ρ ds acc S1
    | none => none)
theorem compL_P' {tg : Tg} {cnd : Option (Env → Store → Out Bool)} {fe : Env → Store → Out D} {s : Src} {ds : List D} {ρ : Env} (hs : s.items = some ds) : ∀ (es pre : List D), ds = pre ++ es → ∀ (m : Nat) (acc : List D) (S : Store), es.length < m → compL tg cnd fe s ρ m pre.length acc S = compP tg cnd fe ρ es acc S
  | es, pre, e, 0, acc, S, h => by omega
  | [], pre, e, m + 1, acc, S, h => by
    have e1 : s.at_ S pre.length = some none := by
      rw [Src.at_items hs, e]
      simp
    unfold compL compP
    rw [e1]
  | d :: es, pre, e, m + 1, acc, S, h => by
    have e1 : s.at_ S pre.length = some (some d) := by
      rw [Src.at_items hs, e]
      simp
    unfold compL compP
    rw [e1]
    have ih := fun acc S => compL_P' (tg := tg) (cnd := cnd) (fe := fe) (ρ := ρ) hs es (pre ++ [d]) (by rw [e]; simp) m acc S (by simp at h; omega)
    have hl : (pre ++ [d]).length = pre.length + 1 := by simp
    rw [hl] at ih
    simp only [ih]
    rfl
theorem compL_P {tg : Tg} {cnd : Option (Env → Store → Out Bool)} {fe : Env → Store → Out D} {s : Src} {ds : List D} {ρ : Env} (hs : s.items = some ds) {m : Nat} (hm : ds.length < m) {acc : List D} {S : Store} : compL tg cnd fe s ρ m 0 acc S = compP tg cnd fe ρ ds acc S := compL_P' hs ds [] rfl m acc S hm
section
variable {tg : Tg} {cnd : Option (Env → Store → Out Bool)} {fe : Env → Store → Out D} {ds es : List D} {ρ : Env} {m : Nat} {acc : List D} {S : Store} {lo : Int} {n : Nat}
@[simp] theorem comp_T (hm : ds.length < m) : compL tg cnd fe (.seq (.tup ds)) ρ m 0 acc S = compP tg cnd fe ρ ds acc S := compL_P rfl hm
@[simp] theorem comp_L (hm : ds.length < m) : compL tg cnd fe (.seq (.lst ds)) ρ m 0 acc S = compP tg cnd fe ρ ds acc S := compL_P rfl hm
@[simp] theorem comp_R (hm : n < m) : compL tg cnd fe (.rng lo n) ρ m 0 acc S = compP tg cnd fe ρ ((List.range n).map fun k => D.int (lo + (k : Nat))) acc S := compL_P rfl (by simpa using hm)
@[simp] theorem comp_E (hm : ds.length < m) : compL tg cnd fe (.enm (.lst ds)) ρ m 0 acc S = compP tg cnd fe ρ (ds.mapIdx fun k d => D.tup [.int k, d]) acc S := compL_P rfl (by simpa using hm)
@[simp] theorem comp_ET (hm : ds.length < m) : compL tg cnd fe (.enm (.tup ds)) ρ m 0 acc S = compP tg cnd fe ρ (ds.mapIdx fun k d => D.tup [.int k, d]) acc S := compL_P rfl (by simpa using hm)
@[simp] theorem comp_ZT (hm : (List.zipWith (fun x y => D.tup [x, y]) ds es).length < m) : compL tg cnd fe (.zip (.tup ds) (.tup es)) ρ m 0 acc S = compP tg cnd fe ρ (List.zipWith (fun x y => D.tup [x, y]) ds es) acc S := compL_P rfl hm
@[simp] theorem comp_ZL (hm : (List.zipWith (fun x y => D.tup [x, y]) ds es).length < m) : compL tg cnd fe (.zip (.lst ds) (.lst es)) ρ m 0 acc S = compP tg cnd fe ρ (List.zipWith (fun x y => D.tup [x, y]) ds es) acc S := compL_P rfl hm
@[simp] theorem compP0 : compP tg cnd fe ρ [] acc S = ret acc S := rfl
theorem compP1 {d : D} : compP tg cnd fe ρ (d :: ds) acc S = (match setT tg d ρ with
    | some ρ1 => lzN (cndE cnd ρ1 S) fun b S1 => if b then lzN (fe ρ1 S1) fun x S2 => guard' (decide (acc.length < line)) (compP tg cnd fe ρ ds (acc ++ [x]) S2) else compP tg cnd fe ρ ds acc S1
    | none => none) := rfl
@[simp] theorem cnd0 : cndE none ρ S = ret true S := rfl
@[simp] theorem cnd1 {t : Env → Store → Out Bool} : cndE (some t) ρ S = t ρ S := rfl
end
def compDP (tg : Tg) (cnd : Option (Env → Store → Out Bool)) (fk fv : Env → Store → Out D) (ρ : Env) : List D → List (L2.Key × D) → Store → Out (List (L2.Key × D))
  | [], acc, S => ret acc S
  | d :: ds, acc, S => (match setT tg d ρ with
    | some ρ1 => lzN (cndE cnd ρ1 S) fun b S1 => if b then lzN (fk ρ1 S1) fun y S2 => dcK y fun q => lzN (fv ρ1 S2) fun x S3 => guard' (decide (acc.length < line)) (compDP tg cnd fk fv ρ ds (putD acc q x) S3) else compDP tg cnd fk fv ρ ds acc S1
    | none => none)
theorem compD_P' {tg : Tg} {cnd : Option (Env → Store → Out Bool)} {fk fv : Env → Store → Out D} {s : Src} {ds : List D} {ρ : Env} (hs : s.items = some ds) : ∀ (es pre : List D), ds = pre ++ es → ∀ (m : Nat) (acc : List (L2.Key × D)) (S : Store), es.length < m → compD tg cnd fk fv s ρ m pre.length acc S = compDP tg cnd fk fv ρ es acc S
  | es, pre, e, 0, acc, S, h => by omega
  | [], pre, e, m + 1, acc, S, h => by
    have e1 : s.at_ S pre.length = some none := by
      rw [Src.at_items hs, e]
      simp
    unfold compD compDP
    rw [e1]
  | d :: es, pre, e, m + 1, acc, S, h => by
    have e1 : s.at_ S pre.length = some (some d) := by
      rw [Src.at_items hs, e]
      simp
    unfold compD compDP
    rw [e1]
    have ih := fun acc S => compD_P' (tg := tg) (cnd := cnd) (fk := fk) (fv := fv) (ρ := ρ) hs es (pre ++ [d]) (by rw [e]; simp) m acc S (by simp at h; omega)
    have hl : (pre ++ [d]).length = pre.length + 1 := by simp
    rw [hl] at ih
    simp only [ih]
    rfl
theorem compD_P {tg : Tg} {cnd : Option (Env → Store → Out Bool)} {fk fv : Env → Store → Out D} {s : Src} {ds : List D} {ρ : Env} (hs : s.items = some ds) {m : Nat} (hm : ds.length < m) {acc : List (L2.Key × D)} {S : Store} : compD tg cnd fk fv s ρ m 0 acc S = compDP tg cnd fk fv ρ ds acc S := compD_P' hs ds [] rfl m acc S hm
section
variable {tg : Tg} {cnd : Option (Env → Store → Out Bool)} {fk fv : Env → Store → Out D} {ds es : List D} {ρ : Env} {m : Nat} {acc : List (L2.Key × D)} {S : Store} {lo : Int} {n : Nat}
@[simp] theorem compd_T (hm : ds.length < m) : compD tg cnd fk fv (.seq (.tup ds)) ρ m 0 acc S = compDP tg cnd fk fv ρ ds acc S := compD_P rfl hm
@[simp] theorem compd_L (hm : ds.length < m) : compD tg cnd fk fv (.seq (.lst ds)) ρ m 0 acc S = compDP tg cnd fk fv ρ ds acc S := compD_P rfl hm
@[simp] theorem compd_ZT (hm : (List.zipWith (fun x y => D.tup [x, y]) ds es).length < m) : compD tg cnd fk fv (.zip (.tup ds) (.tup es)) ρ m 0 acc S = compDP tg cnd fk fv ρ (List.zipWith (fun x y => D.tup [x, y]) ds es) acc S := compD_P rfl hm
end
def forP (tg : Tg) (b : SemS) : List D → SemS
  | [], ρ, S => ret (.nx ρ) S
  | d :: ds, ρ, S => (match setT tg d ρ with
    | some ρ1 => lz (b ρ1 S) fun fl S2 => (match fl with
      | .nx ρ2 => forP tg b ds ρ2 S2
      | .ct ρ2 => forP tg b ds ρ2 S2
      | .bk ρ2 => ret (.nx ρ2) S2
      | .rt d => ret (.rt d) S2)
    | none => none)
theorem forL_P' {tg : Tg} {b : SemS} {s : Src} {ds : List D} (hs : s.items = some ds) : ∀ (es pre : List D), ds = pre ++ es → ∀ (m : Nat) (ρ : Env) (S : Store), es.length < m → forL tg b s m pre.length ρ S = forP tg b es ρ S
  | es, pre, e, 0, acc, S, h => by omega
  | [], pre, e, m + 1, ρ, S, h => by
    have e1 : s.at_ S pre.length = some none := by
      rw [Src.at_items hs, e]
      simp
    unfold forL forP
    rw [e1]
  | d :: es, pre, e, m + 1, ρ, S, h => by
    have e1 : s.at_ S pre.length = some (some d) := by
      rw [Src.at_items hs, e]
      simp
    unfold forL forP
    rw [e1]
    have ih := fun ρ S => forL_P' (tg := tg) (b := b) hs es (pre ++ [d]) (by rw [e]; simp) m ρ S (by simp at h; omega)
    have hl : (pre ++ [d]).length = pre.length + 1 := by simp
    rw [hl] at ih
    simp only [ih]
    rfl
theorem forL_P {tg : Tg} {b : SemS} {s : Src} {ds : List D} (hs : s.items = some ds) {m : Nat} (hm : ds.length < m) {ρ : Env} {S : Store} : forL tg b s m 0 ρ S = forP tg b ds ρ S := forL_P' hs ds [] rfl m ρ S hm
section
variable {tg : Tg} {b : SemS} {ds es : List D} {ρ : Env} {m : Nat} {S : Store} {lo : Int} {n : Nat} {d : D}
@[simp] theorem for_T (hm : ds.length < m) : forL tg b (.seq (.tup ds)) m 0 ρ S = forP tg b ds ρ S := forL_P rfl hm
@[simp] theorem for_L (hm : ds.length < m) : forL tg b (.seq (.lst ds)) m 0 ρ S = forP tg b ds ρ S := forL_P rfl hm
@[simp] theorem for_R (hm : n < m) : forL tg b (.rng lo n) m 0 ρ S = forP tg b ((List.range n).map fun k => D.int (lo + (k : Nat))) ρ S := forL_P rfl (by simpa using hm)
@[simp] theorem for_E (hm : ds.length < m) : forL tg b (.enm (.lst ds)) m 0 ρ S = forP tg b (ds.mapIdx fun k d => D.tup [.int k, d]) ρ S := forL_P rfl (by simpa using hm)
@[simp] theorem for_ET (hm : ds.length < m) : forL tg b (.enm (.tup ds)) m 0 ρ S = forP tg b (ds.mapIdx fun k d => D.tup [.int k, d]) ρ S := forL_P rfl (by simpa using hm)
@[simp] theorem for_ES {j : Nat} (hm : ds.length < m) : forL tg b (.enS j ds) m 0 ρ S = forP tg b (ds.mapIdx fun k d => D.tup [.int (j + k : Nat), d]) ρ S := forL_P rfl (by simpa using hm)
@[simp] theorem for_EZ {z : Str} (hm : z.cps.toList.length < m) : forL tg b (.enZ z) m 0 ρ S = forP tg b (z.cps.toList.mapIdx fun k c => D.tup [.int k, .str ⟨#[c]⟩]) ρ S := forL_P rfl (by simpa using hm)
@[simp] theorem forP0 : forP tg b [] ρ S = ret (.nx ρ) S := rfl
theorem forP1 : forP tg b (d :: ds) ρ S = (match setT tg d ρ with
    | some ρ1 => lz (b ρ1 S) fun fl S2 => (match fl with
      | .nx ρ2 => forP tg b ds ρ2 S2
      | .ct ρ2 => forP tg b ds ρ2 S2
      | .bk ρ2 => ret (.nx ρ2) S2
      | .rt d => ret (.rt d) S2)
    | none => none) := rfl
end
section
variable {ρ : Env} {S : Store} {f : Env → Store → Out D} {fs : Env → Store → Out (List D)}
@[simp] theorem ev_iSeq : iSeq f ρ S = lz (f ρ S) fun d S1 => (match d with
  | .tup ds => ret (.seq (.tup ds)) S1
  | .str z => ret (.seq (.str z)) S1
  | d => (match asL S1 d with
    | some _ => ret (.seq d) S1
    | none => none)) := rfl
@[simp] theorem ev_iRg1 : iRg1 fs ρ S = lz (fs ρ S) fun ds S1 => (match ds with
  | [.int j] => guard' (decide (-(2 ^ 62) ≤ j) && decide (j < 2 ^ 62)) (ret (.rng 0 j.toNat) S1)
  | _ => none) := rfl
@[simp] theorem ev_iRg2 : iRg2 fs ρ S = lz (fs ρ S) fun ds S1 => (match ds with
  | [.int i, .int j] => guard' (decide (-(2 ^ 62) ≤ i) && decide (i < 2 ^ 62) && decide (-(2 ^ 62) ≤ j) && decide (j < 2 ^ 62)) (ret (.rng i (j - i).toNat) S1)
  | _ => none) := rfl
@[simp] theorem ev_iEn : iEn fs ρ S = lz (fs ρ S) fun ds S1 => (match ds with
  | [x] => (match x with
    | .tup ds => ret (.enm (.tup ds)) S1
    | .str z => ret (.enZ z) S1
    | x => (match asL S1 x with
      | some _ => ret (.enm x) S1
      | none => none))
  | _ => none) := rfl
@[simp] theorem ev_iEnS {j : Nat} : iEnS j fs ρ S = lz (fs ρ S) fun ds S1 => (match ds with
  | [.tup ds] => ret (.enS j ds) S1
  | _ => none) := rfl
@[simp] theorem ev_iZp : iZp fs ρ S = lz (fs ρ S) fun ds S1 => (match ds with
  | [x, y] => if bothL S1 x y then ret (.zip x y) S1 else none
  | _ => none) := rfl
@[simp] theorem asL_lst {ds : List D} : asL S (.lst ds) = some ds := rfl
@[simp] theorem bothT {ds es : List D} : bothL S (.tup ds) (.tup es) = true := rfl
@[simp] theorem bothL2 {ds es : List D} : bothL S (.lst ds) (.lst es) = true := rfl
end
theorem def_rt {b : Bool} {nl : Nat} {body : SemS} {ds : List D} {S S1 : Store} {d : D} (h : body (ds.map some ++ List.replicate (nl - ds.length) none) S = ret (.rt d) S1) (hd : d.pu = true) (hS : okS S1) : defF b nl body ds S = ret d (S1.take S.length) := by
  obtain ⟨x, T, e, rfl, rfl⟩ := end_pu (b := b) (n := S.length) (P := fun x T => x = d ∧ T = S1.take S.length) hd hS ⟨rfl, rfl⟩
  unfold defF
  rw [h]
  exact e
theorem def_eq {b : Bool} {nl : Nat} {body : SemS} {ds : List D} {S : Store} {d : D} (h : body (ds.map some ++ List.replicate (nl - ds.length) none) S = ret (.rt d) S) (hd : d.pu = true) (hS : okS S) : defF b nl body ds S = ret d S := by
  rw [def_rt h hd hS, List.take_length]
end Pv
namespace Pv
open PySem PySem.Spec
section
variable {S T : Store} {j k : Nat} {i : Int} {d v : D} {ds : List D} {s : Str}
@[simp] theorem ev_ixC : oIx (.cell j) (.int i) S = (match S[j]? with
  | some (.lst ds) => (match L2.atI ds i with | some d => ret d S | none => none)
  | some (.dct kvs) => (match valD kvs (.inl i) with | some d => ret d S | none => none)
  | _ => none) := by
  show (match S[j]? with
    | some (.dct kvs) => (match dKey (.int i) with
      | some k => (match valD kvs k with
        | some d => ret d S
        | none => none)
      | none => none)
    | some (.lst ds) => (match L2.atI ds i with
        | some d => ret d S
        | none => none)
    | _ => none) = _
  cases S[j]? with
  | none => rfl
  | some c => cases c <;> rfl
@[simp] theorem ev_ixCS : oIx (.cell j) (.str s) S = (match S[j]? with
  | some (.dct kvs) => (match valD kvs (.inr s) with | some d => ret d S | none => none)
  | _ => none) := by
  show (match S[j]? with
    | some (.dct kvs) => (match dKey (.str s) with
      | some k => (match valD kvs k with
        | some d => ret d S
        | none => none)
      | none => none)
    | some (.lst ds) => none
    | _ => none) = _
  cases S[j]? with
  | none => rfl
  | some c => cases c <;> rfl
@[simp] theorem ev_app : oApp (.cell j) [d] S = (match S[j]? with
  | some (.lst ds) => guard' (decide (ds.length < line)) (ret .non (S.set j (.lst (ds ++ [d]))))
  | _ => none) := rfl
@[simp] theorem ev_islC : isList S (.cell j) = (match S[j]? with | some (.lst _) => true | _ => false) := by
  show (match S[j]? with | some (.lst ds) => some ds | _ => none).isSome = _
  cases S[j]? with
  | none => rfl
  | some c => cases c <;> rfl
@[simp] theorem ev_lenC : oLen [.cell j] S = (match S[j]? with | some (.lst ds) => ret (.int ds.length) S | some (.dct kvs) => ret (.int kvs.length) S | _ => none) := by
  unfold oLen
  simp only [lenD]
  cases S[j]? with
  | none => rfl
  | some c => cases c <;> rfl
@[simp] theorem ev_asLC : asL S (.cell j) = (match S[j]? with | some (.lst ds) => some ds | _ => none) := rfl
@[simp] theorem ev_tupC : oTuple [.cell j] S = (match S[j]? with | some (.lst ds) => ret (.tup ds) S | _ => none) := by
  unfold oTuple
  simp only [asL]
  cases S[j]? with
  | none => rfl
  | some c => cases c <;> rfl
@[simp] theorem ev_putC : oPut (.cell j) (.int i) v S = (match S[j]? with
  | some (.lst ds) => (match L2.ixN ds.length i with | some q => some (S.set j (.lst (ds.set q v))) | none => none)
  | some (.dct kvs) => if kvs.length < line then some (S.set j (.dct (putD kvs (.inl i) v))) else none
  | _ => none) := by
  show (match S[j]? with
    | some (.dct kvs) => (match dKey (.int i) with
      | some k => if kvs.length < line then some (S.set j (.dct (putD kvs k v))) else none
      | none => none)
    | some (.lst ds) => (match L2.ixN ds.length i with
        | some q => some (S.set j (.lst (ds.set q v)))
        | none => none)
    | _ => none) = _
  cases S[j]? with
  | none => rfl
  | some c => cases c <;> rfl
@[simp] theorem sto_at0 : (S ++ T)[S.length]? = T[0]? := by
  rw [List.getElem?_append_right (Nat.le_refl _), Nat.sub_self]
@[simp] theorem sto_at : (S ++ T)[S.length + k]? = T[k]? := by
  rw [List.getElem?_append_right (by omega)]
  congr 1
  omega
@[simp] theorem sto_set0 {c : Cell} : (S ++ T).set S.length c = S ++ T.set 0 c := by
  rw [List.set_append_right _ _ (Nat.le_refl _), Nat.sub_self]
@[simp] theorem sto_set {c : Cell} : (S ++ T).set (S.length + k) c = S ++ T.set k c := by
  rw [List.set_append_right _ _ (by omega)]
  congr 2
  omega
end
end Pv
namespace Pv
open PySem PySem.Spec
structure Cl where
  nm : Str
  kd : Str
  top : Int
  st : Int
  deriving DecidableEq
def Cl.d (c : Cl) : D := .tup [.str c.nm, .str c.kd, .int c.top, .int c.st]
inductive Ex where
  | num (i : Int) | nm (s : Str) | op (w : Str) (a b : Ex)
  deriving DecidableEq
def Ex.d : Ex → D
  | .num i => .int i
  | .nm s => .str s
  | .op w a b => .tup [.str w, a.d, b.d]
inductive Ts where
  | cmp (w : Str) (a b : Ex) | neg (t : Ts)
  deriving DecidableEq
def Ts.d : Ts → D
  | .cmp w a b => .tup [.str w, a.d, b.d]
  | .neg t => .tup [.str "not", t.d]
inductive Ins where
  | set (c : Str) (e : Ex) (k : Int) | ask (c : Str) (k : Int) | jump (p : Nat) (k : Int) | unl (t : Ts) (p : Nat) (k : Int) | mark (k : Int) | off (k : Int) | fin
  deriving DecidableEq
def Ins.d : Ins → D
  | .set c e k => .tup [.str "set", .str c, e.d, .int k]
  | .ask c k => .tup [.str "ask", .str c, .int k]
  | .jump p k => .tup [.str "jump", .int p, .int k]
  | .unl t p k => .tup [.str "unless", t.d, .int p, .int k]
  | .mark k => .tup [.str "mark", .int k]
  | .off k => .tup [.str "off", .int k]
  | .fin => .tup [.str "end"]
structure Pg where
  cells : List Cl
  code : List Ins
  told : List Str
  deriving DecidableEq
def Pg.d (p : Pg) : D := .tup [.tup (p.cells.map Cl.d), .tup (p.code.map Ins.d), .tup (p.told.map D.str)]
structure Mo where
  cp : Nat
  cs : List Int
  pl : Nat
  vs : List Int
  deriving DecidableEq
def Mo.d (m : Mo) : D := .tup [.tup [.int m.cp, .tup (m.cs.map D.int)], .int m.pl, .tup (m.vs.map D.int)]
theorem pus_map {α : Type} {f : α → D} (h : ∀ x, (f x).pu = true) : ∀ xs : List α, D.pus (xs.map f) = true
  | [] => rfl
  | x :: xs => by
    show ((f x).pu && D.pus (xs.map f)) = true
    rw [h, pus_map h xs]
    rfl
@[simp] theorem pu_tup {ds : List D} : (D.tup ds).pu = D.pus ds := rfl
@[simp] theorem pu_lst {ds : List D} : (D.lst ds).pu = D.pus ds := rfl
@[simp] theorem pu_int {i : Int} : (D.int i).pu = true := rfl
@[simp] theorem pu_str {i : Str} : (D.str i).pu = true := rfl
@[simp] theorem pu_bl {i : Bool} : (D.bl i).pu = true := rfl
@[simp] theorem pu_non : D.non.pu = true := rfl
@[simp] theorem pus0 : D.pus [] = true := rfl
@[simp] theorem pus1 {d : D} {ds : List D} : D.pus (d :: ds) = (d.pu && D.pus ds) := rfl
@[simp] theorem pusA {a b : List D} : D.pus (a ++ b) = (D.pus a && D.pus b) := by
  rw [Bool.eq_iff_iff, Bool.and_eq_true]
  exact pus_append
@[simp] theorem pusI (xs : List Int) : D.pus (xs.map D.int) = true := pus_map (fun _ => rfl) xs
@[simp] theorem pusS (xs : List Str) : D.pus (xs.map D.str) = true := pus_map (fun _ => rfl) xs
@[simp] theorem Cl.pu (c : Cl) : c.d.pu = true := rfl
@[simp] theorem pusC (xs : List Cl) : D.pus (xs.map Cl.d) = true := pus_map Cl.pu xs
@[simp] theorem Ex.pu : ∀ e : Ex, e.d.pu = true
  | .num _ => rfl
  | .nm _ => rfl
  | .op _ a b => by simp [Ex.d, Ex.pu a, Ex.pu b]
@[simp] theorem Ts.pu : ∀ e : Ts, e.d.pu = true
  | .cmp _ a b => by simp [Ts.d]
  | .neg t => by simp [Ts.d, Ts.pu t]
@[simp] theorem Ins.pu (i : Ins) : i.d.pu = true := by cases i <;> simp [Ins.d]
@[simp] theorem pusN (xs : List Ins) : D.pus (xs.map Ins.d) = true := pus_map Ins.pu xs
@[simp] theorem Pg.pu (p : Pg) : p.d.pu = true := by simp [Pg.d]
@[simp] theorem Mo.pu (m : Mo) : m.d.pu = true := by simp [Mo.d]
@[simp] theorem pusM (xs : List Mo) : D.pus (xs.map Mo.d) = true := pus_map Mo.pu xs
def look : List Cl → List Int → Str → Int
  | c :: cs, v :: vs, s => if c.nm = s then v else look cs vs s
  | _, _, _ => 0
def Ex.ev (cs : List Cl) (vs : List Int) : Ex → Int
  | .num i => i
  | .nm s => look cs vs s
  | .op w a b => if w = "plus" then a.ev cs vs + b.ev cs vs else if w = "minus" then a.ev cs vs - b.ev cs vs else a.ev cs vs * b.ev cs vs
def Ts.ev (cs : List Cl) (vs : List Int) : Ts → Bool
  | .cmp w a b => if w = "less" then decide (a.ev cs vs < b.ev cs vs) else decide (a.ev cs vs = b.ev cs vs)
  | .neg t => !t.ev cs vs
def idx (cs : List Cl) (s : Str) : Nat := cs.findIdx fun c => c.nm == s
def svd : List Cl → List Int → List Int
  | c :: cs, v :: vs => if c.kd = "saved" then v :: svd cs vs else svd cs vs
  | _, _ => []
def wk : List Cl → List Int → List Int → List Int
  | c :: cs, sv, v :: vs => if c.kd = "quick" then c.st :: wk cs sv vs else if c.kd = "saved" then (match sv with | s :: sv => s :: wk cs sv vs | [] => v :: wk cs [] vs) else v :: wk cs sv vs
  | _, _, _ => []
def Ins.due : Ins → Int
  | .set _ _ k => k
  | .ask _ k => k
  | .jump _ k => k
  | .unl _ _ k => k
  | .mark k => k
  | .off _ => 0
  | .fin => 0
def topAt (cs : List Cl) (s : Str) : Int := ((cs[idx cs s]?).map Cl.top).getD 0
def Pg.step (p : Pg) (m : Mo) (a : Int) : Mo := match p.code[m.pl]? with
  | some (.mark _) => ⟨m.pl + 1, svd p.cells m.vs, m.pl + 1, m.vs⟩
  | some (.ask c _) => ⟨m.cp, m.cs, m.pl + 1, m.vs.set (idx p.cells c) a⟩
  | some (.set c e _) => ⟨m.cp, m.cs, m.pl + 1, m.vs.set (idx p.cells c) (e.ev p.cells m.vs % (topAt p.cells c + 1))⟩
  | some (.jump q _) => ⟨m.cp, m.cs, q, m.vs⟩
  | some (.unl t q _) => ⟨m.cp, m.cs, if t.ev p.cells m.vs then m.pl + 1 else q, m.vs⟩
  | some (.off _) => ⟨m.cp, m.cs, m.pl + 1, m.vs⟩
  | _ => m
def Pg.wake (p : Pg) (m : Mo) : Mo := ⟨m.cp, m.cs, m.cp, wk p.cells m.cs m.vs⟩
def Pg.due (p : Pg) (m : Mo) : Int := ((p.code[m.pl]?).map Ins.due).getD 0
def Pg.first (p : Pg) : Mo := ⟨0, svd p.cells (p.cells.map Cl.st), 0, p.cells.map Cl.st⟩
def Ex.dp : Ex → Nat
  | .num _ => 0
  | .nm _ => 0
  | .op _ a b => max a.dp b.dp + 1
def Ts.dp : Ts → Nat
  | .cmp _ a b => max a.dp b.dp + 1
  | .neg t => t.dp + 1
/-- names of the cells alone, small numbers -/
def Ex.okB (ns : List Str) : Ex → Bool
  | .num i => decide (i.natAbs < 2 ^ 11)
  | .nm s => decide (s ∈ ns)
  | .op w a b => (decide (w = "plus") || decide (w = "minus") || decide (w = "times")) && a.okB ns && b.okB ns
def Ts.okB (ns : List Str) : Ts → Bool
  | .cmp w a b => (decide (w = "less") || decide (w = "equal")) && a.okB ns && b.okB ns
  | .neg t => t.okB ns
def costB (k : Int) : Bool := decide (0 < k) && decide (k < 2 ^ 11)
def Ins.okB (ns : List Str) (n : Nat) : Ins → Bool
  | .set c e k => decide (c ∈ ns) && e.okB ns && decide (e.dp ≤ 5) && costB k
  | .ask c k => decide (c ∈ ns) && costB k
  | .jump p k => decide (p < n) && costB k
  | .unl t p k => t.okB ns && decide (t.dp ≤ 5) && decide (p < n) && costB k
  | .mark k => costB k
  | .off k => costB k
  | .fin => true
def lstr (s : Str) : Bool := decide (s.length ≤ 30) && s.cps.toList.all fun c => decide (c < 128)
def Cl.okB (c : Cl) : Bool := lstr c.nm && (decide (c.kd = "quick") || decide (c.kd = "saved") || decide (c.kd = "kept")) && decide (0 ≤ c.st) && decide (c.st ≤ c.top) && decide (c.top < 2 ^ 10)
def Ins.lastB : Ins → Bool
  | .fin => true
  | .jump _ _ => true
  | _ => false
def Pg.okB (p : Pg) : Bool := decide (p.cells.length ≤ 10) && p.cells.all Cl.okB && decide (p.cells.map Cl.nm).Nodup && decide (p.code ≠ []) && decide (p.code.length ≤ 40) && p.code.all (Ins.okB (p.cells.map Cl.nm) p.code.length) && (match p.code.getLast? with | some i => i.lastB | none => false) && decide (p.told.length ≤ 10) && p.told.all lstr
/-- a program -/
abbrev Pg.Ok (p : Pg) : Prop := p.okB = true
structure Pg.Is (p : Pg) : Prop where
  lc : p.cells.length ≤ 10
  rc : ∀ c ∈ p.cells, c.okB = true
  nd : (p.cells.map Cl.nm).Nodup
  ne : p.code ≠ []
  ln : p.code.length ≤ 40
  rn : ∀ i ∈ p.code, i.okB (p.cells.map Cl.nm) p.code.length = true
  la : ∀ i, p.code.getLast? = some i → i.lastB = true
  lt : p.told.length ≤ 10
  rt : ∀ s ∈ p.told, lstr s = true
theorem Pg.Ok.is {p : Pg} (h : p.Ok) : p.Is := by
  unfold Pg.Ok Pg.okB at h
  simp only [Bool.and_eq_true, decide_eq_true_eq, List.all_eq_true] at h
  obtain ⟨⟨⟨⟨⟨⟨⟨⟨h1, h2⟩, h3⟩, h4⟩, h5⟩, h6⟩, h7⟩, h8⟩, h9⟩ := h
  exact ⟨h1, h2, h3, h4, h5, h6, fun i e => by rw [e] at h7; exact h7, h8, h9⟩
theorem Pg.Is.ok {p : Pg} (h : p.Is) : p.Ok := by
  unfold Pg.Ok Pg.okB
  simp only [Bool.and_eq_true, decide_eq_true_eq, List.all_eq_true]
  refine ⟨⟨⟨⟨⟨⟨⟨⟨h.lc, h.rc⟩, h.nd⟩, h.ne⟩, h.ln⟩, h.rn⟩, ?_⟩, h.lt⟩, h.rt⟩
  cases e : p.code.getLast? with
  | none => exact absurd (List.getLast?_eq_none_iff.mp e) h.ne
  | some i => exact h.la i e
/-- values of the cells -/
def vals (cs : List Cl) (vs : List Int) : Prop := vs.length = cs.length ∧ ∀ (k : Nat) (c : Cl) (v : Int), cs[k]? = some c → vs[k]? = some v → 0 ≤ v ∧ v ≤ c.top
structure Pg.Mk (p : Pg) (m : Mo) : Prop where
  pl : m.pl < p.code.length
  cp : m.cp < p.code.length
  vs : vals p.cells m.vs
  cs : m.cs.length = (p.cells.filter fun c : Cl => decide (c.kd = ("saved" : Str))).length
  cv : ∀ (k : Nat) (c : Cl) (v : Int), (p.cells.filter fun c : Cl => decide (c.kd = ("saved" : Str)))[k]? = some c → m.cs[k]? = some v → 0 ≤ v ∧ v ≤ c.top
@[simp] theorem at_nat {ds : List D} {n : Nat} : L2.atI ds (n : Int) = ds[n]? := by
  unfold L2.atI L2.ixN
  by_cases h : n < ds.length
  · have h2 : (n : Int) < ds.length := by omega
    simp [h2]
  · have h2 : ¬ ((n : Int) < ds.length) := by omega
    simp [h2]
    omega
theorem idx_lt {cs : List Cl} {s : Str} (h : s ∈ cs.map Cl.nm) : idx cs s < cs.length := by
  obtain ⟨c, hc, e⟩ := List.mem_map.mp h
  exact List.findIdx_lt_length_of_exists ⟨c, hc, by simp [e]⟩
theorem idx_at {cs : List Cl} {s : Str} (h : s ∈ cs.map Cl.nm) : ∃ c, cs[idx cs s]? = some c ∧ c.nm = s ∧ c ∈ cs := by
  have hl := idx_lt h
  refine ⟨cs[idx cs s], List.getElem?_eq_getElem hl, ?_, List.getElem_mem hl⟩
  exact beq_iff_eq.mp (List.findIdx_getElem (w := hl))
@[simp] theorem cut_to {α : Type} {xs : List α} {n : Nat} : cutG xs none (some (n : Int)) = xs.take n := by
  unfold cutG
  rw [HT.sIx_none, HT.sIx_nat, List.drop_zero, Nat.sub_zero]
  by_cases h : n ≤ xs.length
  · rw [Nat.min_eq_left h]
  · rw [Nat.min_eq_right (by omega), List.take_of_length_le (Nat.le_refl _), List.take_of_length_le (by omega)]
@[simp] theorem cut_from {α : Type} {xs : List α} {n : Nat} : cutG xs (some (n : Int)) none = xs.drop n := by
  unfold cutG
  rw [HT.sIx_none, HT.sIx_nat]
  by_cases h : n ≤ xs.length
  · rw [Nat.min_eq_left h, List.take_of_length_le (by simp)]
  · rw [Nat.min_eq_right (by omega), List.drop_of_length_le (Nat.le_refl _), List.drop_of_length_le (by omega), List.take_nil]
@[simp] theorem cut_from1 {α : Type} {xs : List α} {n : Nat} : cutG xs (some ((n : Int) + 1)) none = xs.drop (n + 1) := cut_from (n := n + 1)
@[simp] theorem cut_to1 {α : Type} {xs : List α} {n : Nat} : cutG xs none (some ((n : Int) + 1)) = xs.take (n + 1) := cut_to (n := n + 1)
@[simp] theorem cut_last {α : Type} {xs : List α} : cutG xs none (some (-1)) = xs.dropLast := by
  unfold cutG
  rw [HT.sIx_none]
  show (xs.drop 0).take ((-1 + (xs.length : Int)).toNat - 0) = _
  rw [List.drop_zero, Nat.sub_zero, List.dropLast_eq_take]
  congr 1
  omega
@[simp] theorem cut_tail {α : Type} {xs : List α} : cutG xs (some 1) none = xs.drop 1 := cut_from (n := 1)
end Pv
namespace Pv
open PySem PySem.Spec
theorem gd {α : Type} {p : Prop} [Decidable p] {m : Out α} (h : p) : guard' (decide p) m = m := by rw [decide_eq_true h]; rfl
theorem scs_str : ∀ ss : List Str, scs (ss.map D.str) = some (ss.map L2.V.str)
  | [] => rfl
  | s :: ss => by
    show (match D.sc (.str s) with | some v => (scs (ss.map D.str)).map (v :: ·) | none => none) = _
    rw [scs_str ss]
    rfl
theorem inV_str {s : Str} {ss : List Str} : L2.inV (.str s) (ss.map L2.V.str) = decide (s ∈ ss) := by
  unfold L2.inV
  rw [List.any_map, Bool.eq_iff_iff]
  simp [L2.eqV]
@[simp] theorem in_strL {neg : Bool} {s : Str} {ss : List Str} {S : Store} : oIn neg (.str s) (.lst (ss.map D.str)) S = ret (.bl (flip neg (decide (s ∈ ss)))) S := by
  unfold oIn
  simp only [D.sc, asQ, asL, Option.bind_some, scs_str, inV_str]
@[simp] theorem in_strT {neg : Bool} {s : Str} {ss : List Str} {S : Store} : oIn neg (.str s) (.tup (ss.map D.str)) S = ret (.bl (flip neg (decide (s ∈ ss)))) S := by
  unfold oIn
  simp only [D.sc, asQ, asL, Option.bind_some, scs_str, inV_str]
@[simp] theorem in_strT2 {neg : Bool} {s a b : Str} {S : Store} : oIn neg (.str s) (.tup [.str a, .str b]) S = ret (.bl (flip neg (decide (s = a ∨ s = b)))) S := by
  have := in_strT (neg := neg) (s := s) (ss := [a, b]) (S := S)
  simpa using this
@[simp] theorem flip0 {b : Bool} : flip false b = b := rfl
@[simp] theorem flip1 {b : Bool} : flip true b = !b := rfl
@[simp] theorem ixD {j : Nat} {s : Str} {kvs : List (L2.Key × D)} {S : Store} (h : S[j]? = some (.dct kvs)) : oIx (.cell j) (.str s) S = (match valD kvs (.inr s) with | some d => ret d S | none => none) := by
  show (match S[j]? with
    | some (.dct kvs) => (match dKey (.str s) with
      | some k => (match valD kvs k with
        | some d => ret d S
        | none => none)
      | none => none)
    | some (.lst ds) => none
    | _ => none) = _
  rw [h]
  rfl
def tab (cs : List Cl) (vs : List Int) : List (L2.Key × D) := (cs.zip vs).map fun q => (.inr q.1.nm, .int q.2)
@[simp] theorem pus_tab {cs : List Cl} {vs : List Int} : D.pus ((tab cs vs).map (·.2)) = true := by
  unfold tab
  rw [List.map_map]
  exact pus_map (fun _ => rfl) _
theorem vals.bd {cs : List Cl} {vs : List Int} (h : vals cs vs) (hc : ∀ c ∈ cs, c.okB = true) : ∀ v ∈ vs, v.natAbs < 2 ^ 11 := fun v hv => by
  obtain ⟨k, hk⟩ := List.getElem?_of_mem hv
  have hl := (List.getElem?_eq_some_iff.mp hk).1
  have hl2 : k < cs.length := by rw [← h.1]; exact hl
  obtain ⟨h1, h2⟩ := h.2 k cs[k] v (List.getElem?_eq_getElem hl2) hk
  have := hc _ (List.getElem_mem hl2)
  simp only [Cl.okB, Bool.and_eq_true, decide_eq_true_eq] at this
  have := this.2
  omega
end Pv
namespace Pv
open PySem PySem.Spec
@[simp] theorem ev_neg {i : Int} {S : Store} : oNeg (.int i) S = ret (.int (-i)) S := rfl
@[simp] theorem ix_p0 {p : Pg} {S : Store} : oIx p.d (.int 0) S = ret (.tup (p.cells.map Cl.d)) S := by simp [Pg.d]
@[simp] theorem ix_p1 {p : Pg} {S : Store} : oIx p.d (.int 1) S = ret (.tup (p.code.map Ins.d)) S := by simp [Pg.d]
@[simp] theorem ix_p2 {p : Pg} {S : Store} : oIx p.d (.int 2) S = ret (.tup (p.told.map D.str)) S := by simp [Pg.d]
@[simp] theorem ix_m0 {m : Mo} {S : Store} : oIx m.d (.int 0) S = ret (.tup [.int m.cp, .tup (m.cs.map D.int)]) S := by simp [Mo.d]
@[simp] theorem ix_m1 {m : Mo} {S : Store} : oIx m.d (.int 1) S = ret (.int m.pl) S := by simp [Mo.d]
@[simp] theorem ix_m2 {m : Mo} {S : Store} : oIx m.d (.int 2) S = ret (.tup (m.vs.map D.int)) S := by simp [Mo.d]
@[simp] theorem ix_c0 {m : Cl} {S : Store} : oIx m.d (.int 0) S = ret (.str m.nm) S := by simp [Cl.d]
@[simp] theorem ix_c1 {m : Cl} {S : Store} : oIx m.d (.int 1) S = ret (.str m.kd) S := by simp [Cl.d]
@[simp] theorem ix_c2 {m : Cl} {S : Store} : oIx m.d (.int 2) S = ret (.int m.top) S := by simp [Cl.d]
@[simp] theorem ix_c3 {m : Cl} {S : Store} : oIx m.d (.int 3) S = ret (.int m.st) S := by simp [Cl.d]
end Pv
namespace Pv
open PySem PySem.Spec
/-- a def that hands a plain value over, whatever it left in the store -/
theorem def_to {b : Bool} {nl : Nat} {body : SemS} {ds : List D} {S T : Store} {d : D} (h : body (ds.map some ++ List.replicate (nl - ds.length) none) S = ret (.rt d) (S ++ T)) (hd : d.pu = true) (hS : okS S) (hT : okS T) : defF b nl body ds S = ret d S := by
  rw [def_rt h hd (hS.append hT)]
  simp
def stD : Option Int → D
  | none => .tup []
  | some a => .tup [.int a]
@[simp] theorem stD_pu (s : Option Int) : (stD s).pu = true := by cases s <;> rfl
@[simp] theorem pusT (xs : List (Option Int)) : D.pus (xs.map stD) = true := pus_map stD_pu xs
def sgD (ss : List (Option Int)) : D := .tup (ss.map stD)
@[simp] theorem sgD_pu (s : List (Option Int)) : (sgD s).pu = true := by simp [sgD]
def rnD (r : List (List (Option Int))) : D := .tup (r.map sgD)
@[simp] theorem pusG (xs : List (List (Option Int))) : D.pus (xs.map sgD) = true := pus_map sgD_pu xs
@[simp] theorem rnD_pu (s : List (List (Option Int))) : (rnD s).pu = true := by simp [rnD]
def Pg.al (p : Pg) (m : Mo) (s : Option Int) : Bool := match p.code[m.pl]? with
  | some .fin => false
  | some (.ask c _) => (match s with | some a => decide (0 ≤ a) && decide (a ≤ topAt p.cells c) | none => false)
  | some _ => s.isNone
  | none => false
theorem Pg.Mk.at_ {p : Pg} {m : Mo} (h : p.Mk m) : ∃ i, p.code[m.pl]? = some i ∧ i ∈ p.code := ⟨_, List.getElem?_eq_getElem h.pl, List.getElem_mem h.pl⟩
theorem topAt_of {cs : List Cl} {s : Str} {c : Cl} (h : cs[idx cs s]? = some c) : topAt cs s = c.top := by simp [topAt, h]
/-- a value put at its cell -/
theorem vals.put {cs : List Cl} {vs : List Int} (h : vals cs vs) {s : Str} {v : Int} (h0 : 0 ≤ v) (h1 : v ≤ topAt cs s) : vals cs (vs.set (idx cs s) v) := by
  refine ⟨by rw [List.length_set]; exact h.1, fun k c w hc hw => ?_⟩
  by_cases e : idx cs s = k
  · subst e
    rw [List.getElem?_set_self (by have := (List.getElem?_eq_some_iff.mp hc).1; rw [h.1]; exact this)] at hw
    cases hw
    rw [topAt_of hc] at h1
    exact ⟨h0, h1⟩
  · rw [List.getElem?_set_ne e] at hw
    exact h.2 k c w hc hw
theorem svd_len : ∀ {cs : List Cl} {vs : List Int}, vs.length = cs.length → (svd cs vs).length = (cs.filter fun c : Cl => decide (c.kd = ("saved" : Str))).length
  | [], [], _ => rfl
  | [], _ :: _, h => by simp at h
  | _ :: _, [], h => by simp at h
  | c :: cs, v :: vs, h => by
    have ih := svd_len (cs := cs) (vs := vs) (by simpa using h)
    unfold svd
    by_cases q : c.kd = ("saved" : Str) <;> simp [q, ih]
theorem svd_val : ∀ {cs : List Cl} {vs : List Int}, vals cs vs → ∀ (k : Nat) (c : Cl) (v : Int), (cs.filter fun c : Cl => decide (c.kd = ("saved" : Str)))[k]? = some c → (svd cs vs)[k]? = some v → 0 ≤ v ∧ v ≤ c.top
  | [], _, _, k, c, v, h, _ => by simp at h
  | _ :: _, [], h, _, _, _, _, _ => by simp [vals] at h
  | c :: cs, w :: vs, h, k, c', v, hc, hv => by
    have h2 : vals cs vs := ⟨by have := h.1; simpa using this, fun k c v e1 e2 => h.2 (k + 1) c v (by simpa using e1) (by simpa using e2)⟩
    unfold svd at hv
    by_cases q : c.kd = ("saved" : Str)
    · simp only [q, if_true, List.filter_cons, decide_true] at hc hv
      cases k with
      | zero =>
        simp at hc hv
        subst hc hv
        exact h.2 0 c w rfl rfl
      | succ k => exact svd_val h2 k c' v (by simpa using hc) (by simpa using hv)
    · simp only [q, if_false, List.filter_cons, decide_false, Bool.false_eq_true] at hc hv
      exact svd_val h2 k c' v hc hv
theorem Pg.Is.top {p : Pg} (h : p.Is) {s : Str} (hs : s ∈ p.cells.map Cl.nm) : 0 ≤ topAt p.cells s := by
  obtain ⟨c, e, _, hm⟩ := idx_at hs
  rw [topAt_of e]
  have := h.rc c hm
  simp only [Cl.okB, Bool.and_eq_true, decide_eq_true_eq] at this
  omega
/-- what stands last is an end or a jump -/
theorem Pg.Is.nxt {p : Pg} (h : p.Is) {n : Nat} {i : Ins} (hn : p.code[n]? = some i) (hi : i.lastB = false) : n + 1 < p.code.length := by
  have hl := (List.getElem?_eq_some_iff.mp hn).1
  by_cases e : n + 1 = p.code.length
  · have : p.code.getLast? = some i := by
      rw [List.getLast?_eq_getElem?, ← e]
      simpa using hn
    have := h.la i this
    rw [hi] at this
    cases this
  · omega
theorem Pg.Is.first {p : Pg} (h : p.Is) : p.Mk p.first := by
  have v : vals p.cells (p.cells.map Cl.st) := ⟨by simp, fun k c v e1 e2 => by
    rw [List.getElem?_map, e1] at e2
    simp at e2
    subst e2
    have := h.rc c (List.mem_of_getElem? e1)
    simp only [Cl.okB, Bool.and_eq_true, decide_eq_true_eq] at this
    omega⟩
  have hp : 0 < p.code.length := List.length_pos_iff.mpr h.ne
  exact ⟨hp, hp, v, svd_len v.1, svd_val v⟩
theorem Pg.Is.step {p : Pg} (h : p.Is) {m : Mo} (k : p.Mk m) {s : Option Int} (ha : p.al m s = true) : p.Mk (p.step m (s.getD 0)) := by
  obtain ⟨i, e, hm⟩ := k.at_
  have ho := h.rn i hm
  unfold Pg.al at ha
  unfold Pg.step
  rw [e] at ha ⊢
  cases i with
  | fin => cases ha
  | mark c =>
    have := h.nxt e rfl
    exact ⟨this, this, k.vs, svd_len k.vs.1, svd_val k.vs⟩
  | off c => exact ⟨h.nxt e rfl, k.cp, k.vs, k.cs, k.cv⟩
  | jump q c =>
    simp only [Ins.okB, Bool.and_eq_true, decide_eq_true_eq] at ho
    exact ⟨ho.1, k.cp, k.vs, k.cs, k.cv⟩
  | unl t q c =>
    simp only [Ins.okB, Bool.and_eq_true, decide_eq_true_eq] at ho
    refine ⟨?_, k.cp, k.vs, k.cs, k.cv⟩
    show (if t.ev p.cells m.vs then m.pl + 1 else q) < _
    split
    · exact h.nxt e rfl
    · exact ho.1.2
  | ask c b =>
    simp only [Ins.okB, Bool.and_eq_true, decide_eq_true_eq] at ho
    cases s with
    | none => cases ha
    | some a =>
      simp only [Bool.and_eq_true, decide_eq_true_eq] at ha
      exact ⟨h.nxt e rfl, k.cp, k.vs.put ha.1 ha.2, k.cs, k.cv⟩
  | set c x b =>
    simp only [Ins.okB, Bool.and_eq_true, decide_eq_true_eq] at ho
    have ht := h.top ho.1.1.1
    refine ⟨h.nxt e rfl, k.cp, k.vs.put (Int.emod_nonneg _ (by omega)) ?_, k.cs, k.cv⟩
    have := Int.emod_lt_of_pos (x.ev p.cells m.vs) (show 0 < topAt p.cells c + 1 by omega)
    omega
theorem wk_val : ∀ {cs : List Cl} {sv vs : List Int}, vals cs vs → (∀ (k : Nat) (c : Cl) (v : Int), (cs.filter fun c : Cl => decide (c.kd = ("saved" : Str)))[k]? = some c → sv[k]? = some v → 0 ≤ v ∧ v ≤ c.top) → (∀ c ∈ cs, c.okB = true) → vals cs (wk cs sv vs)
  | [], _, vs, h, _, _ => by
    refine ⟨?_, fun k c v e => by simp at e⟩
    cases vs <;> rfl
  | _ :: _, _, [], h, _, _ => by simp [vals] at h
  | c :: cs, sv, v :: vs, h, hs, hc => by
    have h2 : vals cs vs := ⟨by have := h.1; simpa using this, fun k c v e1 e2 => h.2 (k + 1) c v (by simpa using e1) (by simpa using e2)⟩
    have hc2 : ∀ c ∈ cs, c.okB = true := fun c m => hc c (List.mem_cons_of_mem _ m)
    have main : ∀ (x : Int) (r : List Int), 0 ≤ x ∧ x ≤ c.top → vals cs r → vals (c :: cs) (x :: r) := fun x r hx hr => by
      refine ⟨by simp [hr.1], fun k c' v' e1 e2 => ?_⟩
      cases k with
      | zero =>
        simp at e1 e2
        subst e1 e2
        exact hx
      | succ k => exact hr.2 k c' v' (by simpa using e1) (by simpa using e2)
    have hv := h.2 0 c v rfl rfl
    unfold wk
    by_cases q1 : c.kd = ("quick" : Str)
    · rw [if_pos q1]
      have := hc c (List.mem_cons_self ..)
      simp only [Cl.okB, Bool.and_eq_true, decide_eq_true_eq] at this
      refine main _ _ (by omega) (wk_val h2 (fun k c' v' e1 e2 => hs k c' v' ?_ e2) hc2)
      rw [List.filter_cons, if_neg]
      · exact e1
      · rw [q1]; decide +kernel
    · rw [if_neg q1]
      by_cases q2 : c.kd = ("saved" : Str)
      · rw [if_pos q2]
        have hf : ((c :: cs).filter fun c : Cl => decide (c.kd = ("saved" : Str))) = c :: cs.filter fun c : Cl => decide (c.kd = ("saved" : Str)) := by
          rw [List.filter_cons, if_pos]
          rw [decide_eq_true q2]
        rw [hf] at hs
        cases sv with
        | nil => exact main _ _ hv (wk_val h2 (fun k c' v' e1 e2 => by simp at e2) hc2)
        | cons x sv => exact main _ _ (hs 0 c x rfl rfl) (wk_val h2 (fun k c' v' e1 e2 => hs (k + 1) c' v' (by simpa using e1) (by simpa using e2)) hc2)
      · rw [if_neg q2]
        refine main _ _ hv (wk_val h2 (fun k c' v' e1 e2 => hs k c' v' ?_ e2) hc2)
        rw [List.filter_cons, if_neg]
        · exact e1
        · rw [decide_eq_false q2]
          exact Bool.false_ne_true
theorem Pg.Is.wake {p : Pg} (h : p.Is) {m : Mo} (k : p.Mk m) : p.Mk (p.wake m) := ⟨k.cp, k.cp, wk_val k.vs k.cv h.rc, k.cs, k.cv⟩
end Pv
namespace Pv
open PySem PySem.Spec
def Ins.go (cs : List Cl) (vs : List Int) (n : Nat) : Ins → Nat
  | .jump q _ => q
  | .unl t q _ => if t.ev cs vs then n + 1 else q
  | _ => n + 1
end Pv
namespace Pv
open PySem PySem.Spec
def Pg.go (p : Pg) : Mo → List (Option Int) → Mo
  | m, [] => m
  | m, s :: ss => p.go (p.step m (s.getD 0)) ss
def Pg.alls (p : Pg) : Mo → List (Option Int) → Bool
  | _, [] => true
  | m, s :: ss => p.al m s && p.alls (p.step m (s.getD 0)) ss
def Pg.cost (p : Pg) : Mo → List (Option Int) → Int
  | _, [] => 0
  | m, s :: ss => p.due m + p.cost (p.step m (s.getD 0)) ss
/-- a run from a moment on, with falls between its stretches -/
def Pg.lets (p : Pg) : Mo → List (List (Option Int)) → Bool
  | _, [] => true
  | m, ss :: r => p.alls m ss && (r.isEmpty || decide (p.due (p.go m ss) ≠ 0)) && p.lets (p.wake (p.go m ss)) r
def Pg.legs (p : Pg) : Mo → List (List (Option Int)) → List (Mo × Mo × Int)
  | _, [] => []
  | m, ss :: r => (m, p.go m ss, p.cost m ss) :: p.legs (p.wake (p.go m ss)) r
def legD (l : Mo × Mo × Int) : D := .tup [l.1.d, l.2.1.d, .int l.2.2]
@[simp] theorem puLeg (l : Mo × Mo × Int) : (legD l).pu = true := by simp [legD]
@[simp] theorem pusL (xs : List (Mo × Mo × Int)) : D.pus (xs.map legD) = true := pus_map puLeg xs
theorem Pg.Is.goes {p : Pg} (h : p.Is) : ∀ {ss : List (Option Int)} {m : Mo}, p.Mk m → p.alls m ss = true → p.Mk (p.go m ss)
  | [], _, k, _ => k
  | s :: ss, m, k, a => by
    simp only [Pg.alls, Bool.and_eq_true] at a
    show p.Mk (p.go (p.step m (s.getD 0)) ss)
    exact h.goes (h.step k a.1) a.2
theorem intsD_map : ∀ ns : List Int, intsD (ns.map D.int) = some ns
  | [] => rfl
  | n :: ns => by
    show (intsD (ns.map D.int)).map (n :: ·) = _
    rw [intsD_map ns]
    rfl
@[simp] theorem ev_sum {ns : List Int} {S : Store} : oSum [.lst (ns.map D.int)] S = ret (.int ns.sum) S := by
  unfold oSum
  simp only [asL, intsD_map]
@[simp] theorem ev_minL {i : Int} {ns : List Int} {S : Store} : oMinL [.lst (.int i :: ns.map D.int)] S = ret (.int (minI i ns)) S := by
  have := intsD_map (i :: ns)
  unfold oMinL
  simp only [asL]
  rw [show D.int i :: ns.map D.int = (i :: ns).map D.int from rfl, this]
theorem blsD_map : ∀ ns : List Bool, blsD (ns.map D.bl) = some ns
  | [] => rfl
  | n :: ns => by
    show (blsD (ns.map D.bl)).map (n :: ·) = _
    rw [blsD_map ns]
    rfl
theorem ev_all {bs : List Bool} {S : Store} : oAll [.lst (bs.map D.bl)] S = ret (.bl (bs.all id)) S := by
  unfold oAll
  simp only [asL, blsD_map]
@[simp] theorem ev_all1 {b : Bool} {S : Store} : oAll [.lst [.bl b]] S = ret (.bl b) S := by
  have := ev_all (bs := [b]) (S := S)
  simpa using this
end Pv
namespace Pv
open PySem PySem.Spec
mutual
def blk : D → Nat
  | .str s => s.length
  | .tup ds => blks ds
  | .lst ds => blks ds
  | _ => 0
def blks : List D → Nat
  | [] => 0
  | d :: ds => blk d + 1 + blks ds
end
structure PyD (n : Nat) (d : D) (p : PyData) : Prop where
  e : d.py0 = some p
  sh : p.showable = true
  hd : p.hasDict = false
  dep : p.depth ≤ n
  lv : p.leavesShort 70 = true
  bk : p.bulk = blk d
  cl : p.canLay0 = true
structure PyDs (n : Nat) (ds : List D) (ps : List PyData) : Prop where
  e : D.pys ds = some ps
  sh : PyData.showableAll ps = true
  hd : PyData.hasDictAll ps = false
  dep : PyData.depthAll ps ≤ n
  lv : PyData.leavesShortAll 70 ps = true
  bk : PyData.bulkAll ps = blks ds
  cl : PyData.canLayAll0 ps = true
theorem pyds {n : Nat} : ∀ {ds : List D}, (∀ d ∈ ds, ∃ p, PyD n d p) → ∃ ps, PyDs n ds ps
  | [], _ => ⟨[], rfl, rfl, rfl, Nat.zero_le _, rfl, rfl, rfl⟩
  | d :: ds, h => by
    obtain ⟨p, hp⟩ := h d (List.mem_cons_self ..)
    obtain ⟨ps, hs⟩ := pyds (ds := ds) fun x m => h x (List.mem_cons_of_mem _ m)
    refine ⟨p :: ps, by simp only [D.pys, hp.e, hs.e], ?_, ?_, ?_, ?_, ?_, ?_⟩
    · simp only [PyData.showableAll, hp.sh, hs.sh, Bool.and_self]
    · simp only [PyData.hasDictAll, hp.hd, hs.hd, Bool.or_self]
    · simp only [PyData.depthAll]; exact Nat.max_le.mpr ⟨hp.dep, hs.dep⟩
    · simp only [PyData.leavesShortAll, hp.lv, hs.lv, Bool.and_self]
    · simp only [PyData.bulkAll, blks, hp.bk, hs.bk]
    · simp only [PyData.canLayAll0, hp.cl, hs.cl, Bool.and_self]
theorem PyDs.tup {n : Nat} {ds : List D} {ps : List PyData} (h : PyDs n ds ps) : PyD (n + 1) (.tup ds) (.tuple ps) := by
  refine ⟨by simp only [D.py0, h.e], ?_, ?_, ?_, ?_, ?_, ?_⟩
  · simpa only [PyData.showable] using h.sh
  · simpa only [PyData.hasDict] using h.hd
  · simp only [PyData.depth]; have := h.dep; omega
  · simpa only [PyData.leavesShort] using h.lv
  · simpa only [PyData.bulk, blk] using h.bk
  · simpa only [PyData.canLay0] using h.cl
theorem PyDs.lst {n : Nat} {ds : List D} {ps : List PyData} (h : PyDs n ds ps) : PyD (n + 1) (.lst ds) (.list ps) := by
  refine ⟨by simp only [D.py0, h.e], ?_, ?_, ?_, ?_, ?_, ?_⟩
  · simpa only [PyData.showable] using h.sh
  · simpa only [PyData.hasDict] using h.hd
  · simp only [PyData.depth]; have := h.dep; omega
  · simpa only [PyData.leavesShort] using h.lv
  · simpa only [PyData.bulk, blk] using h.bk
  · simpa only [PyData.canLay0] using h.cl
/-- plain data of depth n, of at most b signs and items -/
structure Fi (n b : Nat) (d : D) : Prop where
  py : ∃ p, PyD n d p
  bk : blk d ≤ b
theorem blks_le {ds : List D} {b : Nat} (h : ∀ d ∈ ds, blk d ≤ b) : blks ds ≤ ds.length * (b + 1) := by
  induction ds with
  | nil => exact Nat.zero_le _
  | cons d ds ih =>
    have h1 := h d (List.mem_cons_self ..)
    have h2 := ih fun x m => h x (List.mem_cons_of_mem _ m)
    rw [List.length_cons, Nat.succ_mul]
    simp only [blks]
    omega
theorem Fi.mono {n m a b : Nat} {d : D} (h : Fi n a d) (h1 : n ≤ m) (h2 : a ≤ b) : Fi m b d := by
  obtain ⟨⟨p, q⟩, k⟩ := h
  exact ⟨⟨p, q.e, q.sh, q.hd, Nat.le_trans q.dep h1, q.lv, q.bk, q.cl⟩, Nat.le_trans k h2⟩
theorem Fi.tup {n b k : Nat} {ds : List D} (h : ∀ d ∈ ds, Fi n b d) (hl : ds.length ≤ k) : Fi (n + 1) (k * (b + 1)) (.tup ds) := by
  obtain ⟨ps, hp⟩ := pyds fun d m => (h d m).py
  refine ⟨⟨_, hp.tup⟩, ?_⟩
  show blks ds ≤ _
  exact Nat.le_trans (blks_le fun d m => (h d m).bk) (Nat.mul_le_mul hl (Nat.le_refl _))
theorem Fi.lst {n b k : Nat} {ds : List D} (h : ∀ d ∈ ds, Fi n b d) (hl : ds.length ≤ k) : Fi (n + 1) (k * (b + 1)) (.lst ds) := by
  obtain ⟨ps, hp⟩ := pyds fun d m => (h d m).py
  refine ⟨⟨_, hp.lst⟩, ?_⟩
  show blks ds ≤ _
  exact Nat.le_trans (blks_le fun d m => (h d m).bk) (Nat.mul_le_mul hl (Nat.le_refl _))
theorem log_lt {i : Int} {n : Nat} (h : i.natAbs < 2 ^ n) (hn : 0 < n) : i.natAbs.log2 < n := by
  by_cases h0 : i.natAbs = 0
  · rw [h0]; simpa using hn
  · exact (Nat.log2_lt h0).mpr h
theorem Fi.int {n b : Nat} {i : Int} (h : i.natAbs < 2 ^ 200) : Fi n b (.int i) := by
  have lg := log_lt h (by decide)
  refine ⟨⟨.int i, rfl, by simp only [PyData.showable, decide_eq_true_eq]; omega, rfl, Nat.zero_le _, ?_, rfl, rfl⟩, Nat.zero_le _⟩
  simp only [PyData.leavesShort, decide_eq_true_eq]
  have l : (Str.ofString (toString i)).length ≤ 62 := by
    rw [ofString_length]
    exact int_text_length_le10 (k := 61) (by decide) (by
      have : 2 ^ 200 < 10 ^ 61 := by decide
      omega)
  exact Nat.le_trans l (by decide)
theorem Fi.bl {n b : Nat} {i : Bool} : Fi n b (.bl i) := ⟨⟨.bool i, rfl, rfl, rfl, Nat.zero_le _, rfl, rfl, rfl⟩, Nat.zero_le _⟩
theorem Fi.non {n b : Nat} : Fi n b .non := ⟨⟨.none, rfl, rfl, rfl, Nat.zero_le _, rfl, rfl, rfl⟩, Nat.zero_le _⟩
theorem Fi.str {n b : Nat} {s : Str} (h : lstr s = true) (hb : s.length ≤ b) : Fi n b (.str s) := by
  simp only [lstr, Bool.and_eq_true, decide_eq_true_eq, List.all_eq_true] at h
  refine ⟨⟨.str s, rfl, rfl, rfl, Nat.zero_le _, ?_, rfl, ?_⟩, hb⟩
  · simp only [PyData.leavesShort, List.all_eq_true, decide_eq_true_eq]
    exact fun c m => Nat.lt_trans (h.2 c m) (by decide)
  · show PyData.strOk s = true
    unfold PyData.strOk
    rw [Array.all_eq_true']
    intro c hc
    have := h.2 c (by simpa using hc)
    simp only [decide_eq_true_eq]
    omega
/-- the text of plain data -/
def repD (d : D) : Str := match d.py0 with
  | some p => p.shown
  | none => Str.empty
theorem Fi.rep {n b : Nat} {d : D} (h : Fi n b d) (hn : n ≤ 60 := by decide) (hb : b ≤ 200000 := by decide) {S : Store} : oRepr [d] S = ret (.str (repD d)) S := by
  obtain ⟨⟨p, q⟩, k⟩ := h
  have e1 : d.py S = some p := by
    cases d with
    | cell i => cases q.e
    | _ => exact q.e
  have l := PyData.shown_le_bulk 70 (by decide) _ q.lv
  rw [q.bk] at l
  unfold oRepr repD
  simp only [e1, q.e, q.sh, q.hd]
  have h1 : decide (p.shown.length ≤ 16000000) = true := decide_eq_true (by omega)
  have h2 : decide (p.depth ≤ 64) = true := decide_eq_true (Nat.le_trans q.dep (by omega))
  rw [h1, h2]
  rfl
/-- == of plain data -/
def deq (d e : D) : Bool := match d.py0, e.py0 with
  | some p, some q => PyData.eqv p q
  | _, _ => false
theorem Fi.py1 {n b : Nat} {d : D} (h : Fi n b d) (S : Store) : ∃ p, d.py0 = some p ∧ d.py S = some p ∧ p.canLay0 = true ∧ p.depth ≤ n := by
  obtain ⟨⟨p, q⟩, _⟩ := h
  refine ⟨p, q.e, ?_, q.cl, q.dep⟩
  cases d with
  | cell i => cases q.e
  | _ => exact q.e
theorem sc_deq {d e : D} {b : Bool} (h : scEq d e = some b) : deq d e = b := by
  unfold scEq at h
  split at h
  · rename_i v w e1 e2
    split at h
    · rename_i hs
      cases h
      cases d <;> cases e <;> cases e1 <;> cases e2 <;> first | (simp [deq, D.py0, PyData.eqv, Bool.beq_eq_decide_eq]; done) | (cases hs; done)
    · cases h
  · cases h
theorem Fi.eq {n b m c : Nat} {d e : D} (h : Fi n b d) (k : Fi m c e) (hn : n ≤ 60 := by decide) (hm : m ≤ 60 := by decide) {S : Store} : oEq d e S = ret (.bl (deq d e)) S := by
  obtain ⟨p, a1, a2, a3, a4⟩ := h.py1 S
  obtain ⟨q, b1, b2, b3, b4⟩ := k.py1 S
  have hp : SeqAt.shaped p = true := by unfold SeqAt.shaped; rw [a3, decide_eq_true (by omega)]; rfl
  have hq : SeqAt.shaped q = true := by unfold SeqAt.shaped; rw [b3, decide_eq_true (by omega)]; rfl
  have key : pyEq S d e = some (deq d e) := by
    unfold pyEq
    split
    · rename_i b' eb
      rw [sc_deq eb]
    · rw [a2, b2]
      simp only [hp, hq, Bool.and_self, if_true]
      unfold deq
      rw [a1, b1]
  unfold oEq
  rw [key]
theorem Fi.ne {n b m c : Nat} {d e : D} (h : Fi n b d) (k : Fi m c e) (hn : n ≤ 60 := by decide) (hm : m ≤ 60 := by decide) {S : Store} : oNe d e S = ret (.bl (!deq d e)) S := by
  obtain ⟨p, a1, a2, a3, a4⟩ := h.py1 S
  obtain ⟨q, b1, b2, b3, b4⟩ := k.py1 S
  have hp : SeqAt.shaped p = true := by unfold SeqAt.shaped; rw [a3, decide_eq_true (by omega)]; rfl
  have hq : SeqAt.shaped q = true := by unfold SeqAt.shaped; rw [b3, decide_eq_true (by omega)]; rfl
  have key : pyEq S d e = some (deq d e) := by
    unfold pyEq
    split
    · rename_i b' eb
      rw [sc_deq eb]
    · rw [a2, b2]
      simp only [hp, hq, Bool.and_self, if_true]
      unfold deq
      rw [a1, b1]
  unfold oNe
  rw [key]
end Pv
namespace Pv
open PySem PySem.Spec
section
variable {S : Store} {i j : Int} {n k : Nat} {ds : List D}
theorem ev_pow : oPow (.int i) (.int j) S = guard' (decide (0 ≤ j) && decide (j ≤ 1000) && decide (i.natAbs < 2 ^ 64)) (ret (.int (i ^ j.toNat)) S) := rfl
@[simp] theorem ev_powS (h0 : 0 ≤ j) (h1 : j ≤ 1000) (h2 : i.natAbs < 18446744073709551616) : oPow (.int i) (.int j) S = ret (.int (i ^ j.toNat)) S := by
  rw [ev_pow, decide_eq_true h0, decide_eq_true h1, decide_eq_true (show i.natAbs < 2 ^ 64 from h2)]
  rfl
theorem log_of {i : Int} (h : i.natAbs < 18446744073709551616) : i.natAbs.log2 < 64 := by
  by_cases h0 : i.natAbs = 0
  · rw [h0]; decide
  · exact (Nat.log2_lt h0).mpr h
@[simp] theorem ev_divS (h0 : 0 < j) (h1 : j < 18446744073709551616) : oDiv (.int i) (.int j) S = ret (.int (i / j)) S := by
  have := log_of (i := j) (by omega)
  rw [ev_div, decide_eq_true h0, decide_eq_true (show j.natAbs.log2 < 9000 by omega)]
  rfl
theorem strsD_map : ∀ ys : List Str, strsD (ys.map D.str) = some ys
  | [] => rfl
  | y :: ys => by simp only [List.map_cons, strsD, strsD_map ys, Option.map_some]
@[simp] theorem ev_sortedC {j : Nat} {ys : List Str} (h : S[j]? = some (.lst (ys.map D.str))) (hl : ys.length < 64) : oSorted [.cell j] S = ret (.lst ((srtS ys).map D.str)) S := by
  unfold oSorted
  simp only [ev_asLC, h, strsD_map]
  rw [decide_eq_true hl]
  rfl
@[simp] theorem ev_sortedL {ys : List Str} (hl : ys.length < 64) : oSorted [.lst (ys.map D.str)] S = ret (.lst ((srtS ys).map D.str)) S := by
  unfold oSorted
  simp only [asL, strsD_map]
  rw [decide_eq_true hl]
  rfl
end
@[simp] theorem ix43 : L2.ixN 4 3 = some 3 := by decide
@[simp] theorem ix42 : L2.ixN 4 2 = some 2 := by decide
@[simp] theorem ix41 : L2.ixN 4 1 = some 1 := by decide
@[simp] theorem ix40 : L2.ixN 4 0 = some 0 := by decide
/-- a def that leaves a store behind -/
theorem def_st {b : Bool} {nl : Nat} {body : SemS} {ds : List D} {S S1 : Store} {d : D} (h : body (ds.map some ++ List.replicate (nl - ds.length) none) S = ret (.rt d) S1) (hd : d.pu = true) (hS : okS S1) (hl : S1.length = S.length) : defF b nl body ds S = ret d S1 := by
  rw [def_rt h hd hS, ← hl, List.take_length]
/-- the script, the place, what is left of a number, how many were drawn -/
structure Tp where
  ns : List Int
  sp : Nat
  re : Int
  ct : Nat
def Tp.c (t : Tp) : Cell := .lst [.lst (t.ns.map D.int), .int t.sp, .int t.re, .int t.ct]
theorem Tp.pu (t : Tp) : Cell.pu t.c = true := by
  show D.pus _ = true
  simp
theorem okS.tp {t : Tp} {R : Store} (h : okS R) : okS (t.c :: R) := h.cons t.pu
end Pv
namespace Pv
open PySem PySem.Spec
theorem py_ints : ∀ ns : List Int, D.pys (ns.map D.int) = some (ns.map PyData.int) ∧ PyData.canLayAll0 (ns.map PyData.int) = true ∧ PyData.depthAll (ns.map PyData.int) = 0
  | [] => ⟨rfl, rfl, rfl⟩
  | n :: ns => by
    obtain ⟨h1, h2, h3⟩ := py_ints ns
    refine ⟨?_, ?_, ?_⟩
    · simp only [List.map_cons, D.pys, D.py0, h1]
    · simp only [List.map_cons, PyData.canLayAll0, PyData.canLay0, h2, Bool.and_self]
    · simp only [List.map_cons, PyData.depthAll, PyData.depth, h3, Nat.max_self]
/-- a list is held against the empty one -/
theorem eq_nil {ds : List D} {ps : List PyData} (h1 : D.pys ds = some ps) (h2 : PyData.canLayAll0 ps = true) (h3 : PyData.depthAll ps ≤ 50) {S : Store} : pyEq S (.lst ds) (.lst []) = some (decide (ds = [])) := by
  have e : scEq (.lst ds) (.lst []) = none := rfl
  have e1 : (D.lst ds).py S = some (.list ps) := by
    show (D.lst ds).py0 = _
    simp only [D.py0, h1]
  have e2 : (D.lst []).py S = some (.list []) := rfl
  have s1 : SeqAt.shaped (.list ps) = true := by
    unfold SeqAt.shaped
    have hd : PyData.depth (.list ps) ≤ 60 := by simp only [PyData.depth]; omega
    have hc : PyData.canLay0 (.list ps) = true := by simp only [PyData.canLay0, h2]
    rw [hc, decide_eq_true (by omega)]
    rfl
  have s2 : SeqAt.shaped (.list []) = true := by decide
  unfold pyEq
  rw [e, e1, e2]
  simp only [s1, s2, Bool.and_self, if_true]
  congr 1
  cases ds with
  | nil => cases h1; simp [PyData.eqv, PyData.eqvAll]
  | cons d ds =>
    cases ps with
    | nil =>
      exfalso
      simp only [D.pys] at h1
      cases e1 : d.py0 <;> cases e2 : D.pys ds <;> rw [e1, e2] at h1 <;> cases h1
    | cons p ps => simp [PyData.eqv, PyData.eqvAll]
theorem eq_nilT {ds : List D} {ps : List PyData} (h1 : D.pys ds = some ps) (h2 : PyData.canLayAll0 ps = true) (h3 : PyData.depthAll ps ≤ 50) {S : Store} : pyEq S (.tup ds) (.tup []) = some (decide (ds = [])) := by
  have e : scEq (.tup ds) (.tup []) = none := rfl
  have e1 : (D.tup ds).py S = some (.tuple ps) := by
    show (D.tup ds).py0 = _
    simp only [D.py0, h1]
  have e2 : (D.tup []).py S = some (.tuple []) := rfl
  have s1 : SeqAt.shaped (.tuple ps) = true := by
    unfold SeqAt.shaped
    have hd : PyData.depth (.tuple ps) ≤ 60 := by simp only [PyData.depth]; omega
    have hc : PyData.canLay0 (.tuple ps) = true := by simp only [PyData.canLay0, h2]
    rw [hc, decide_eq_true (by omega)]
    rfl
  have s2 : SeqAt.shaped (.tuple []) = true := by decide
  unfold pyEq
  rw [e, e1, e2]
  simp only [s1, s2, Bool.and_self, if_true]
  congr 1
  cases ds with
  | nil => cases h1; simp [PyData.eqv, PyData.eqvAll]
  | cons d ds =>
    cases ps with
    | nil =>
      exfalso
      simp only [D.pys] at h1
      cases e1 : d.py0 <;> cases e2 : D.pys ds <;> rw [e1, e2] at h1 <;> cases h1
    | cons p ps => simp [PyData.eqv, PyData.eqvAll]
@[simp] theorem ev_neNilI {ns : List Int} {S : Store} : oNe (.lst (ns.map D.int)) (.lst []) S = ret (.bl (!decide (ns = []))) S := by
  obtain ⟨h1, h2, h3⟩ := py_ints ns
  unfold oNe
  rw [eq_nil h1 h2 (by omega)]
  simp
@[simp] theorem ev_neNilIT {ns : List Int} {S : Store} : oNe (.tup (ns.map D.int)) (.tup []) S = ret (.bl (!decide (ns = []))) S := by
  obtain ⟨h1, h2, h3⟩ := py_ints ns
  unfold oNe
  rw [eq_nilT h1 h2 (by omega)]
  simp
end Pv
namespace Pv
open PySem PySem.Spec
theorem seq_nx {b c : SemS} {ρ ρ' : Env} {S S' : Store} (h : b ρ S = ret (.nx ρ') S') : sSeq b c ρ S = c ρ' S' := by
  rw [ev_sSeq, h, lz_ret, ev_nx]
end Pv
namespace Pv
open PySem PySem.Spec
@[simp] theorem ev_neNil0 {S : Store} : oNe (.lst []) (.lst []) S = ret (.bl false) S := by
  have := ev_neNilI (ns := []) (S := S)
  simpa using this
@[simp] theorem ev_neNil0T {S : Store} : oNe (.tup []) (.tup []) S = ret (.bl false) S := by
  have := ev_neNilIT (ns := []) (S := S)
  simpa using this
theorem lmS {i j : Int} (h1 : i.natAbs < 18446744073709551616) (h2 : j.natAbs < 18446744073709551616) : i.natAbs.log2 + j.natAbs.log2 < 1000000 := by
  have := log_of h1
  have := log_of h2
  omega
end Pv
namespace Pv
open PySem PySem.Spec
@[simp] theorem puS_nil : okS [] := okS.nil
@[simp] theorem puS_cons {c : Cell} {S : Store} : okS (c :: S) ↔ Cell.pu c = true ∧ okS S := ⟨fun h => ⟨h c (List.mem_cons_self ..), h.tail⟩, fun h => h.2.cons h.1⟩
@[simp] theorem puS_app {S T : Store} : okS (S ++ T) ↔ okS S ∧ okS T := ⟨fun h => ⟨fun c m => h c (List.mem_append_left _ m), fun c m => h c (List.mem_append_right _ m)⟩, fun h => h.1.append h.2⟩
@[simp] theorem puC_lst {ds : List D} : Cell.pu (.lst ds) = D.pus ds := rfl
@[simp] theorem puC_tp {t : Tp} : Cell.pu t.c = true := t.pu
end Pv
namespace Pv
open PySem PySem.Spec
theorem gd2 {α : Type} {p q : Prop} [Decidable p] [Decidable q] {m : Out α} (h : p ∧ q) : guard' (decide p && decide q) m = m := by rw [decide_eq_true h.1, decide_eq_true h.2]; rfl
theorem gd4 {α : Type} {p q r s : Prop} [Decidable p] [Decidable q] [Decidable r] [Decidable s] {m : Out α} (h : p ∧ q ∧ r ∧ s) : guard' (decide p && decide q && decide r && decide s) m = m := by rw [decide_eq_true h.1, decide_eq_true h.2.1, decide_eq_true h.2.2.1, decide_eq_true h.2.2.2]; rfl
end Pv
namespace Pv
open PySem PySem.Spec
@[simp] theorem ev_intB {b : Bool} {S : Store} : oInt [.bl b] S = ret (.int (if b then 1 else 0)) S := rfl
@[simp] theorem ev_addCL {j : Nat} {ds es : List D} {S : Store} (h : S[j]? = some (.lst ds)) : oAdd (.cell j) (.lst es) S = guard' (decide (ds.length + es.length ≤ line)) (ret (.lst (ds ++ es)) S) := by
  show (match asM S (D.cell j) with
    | some a => (match asM S (D.lst es) with
      | some b => guard' (decide (a.length + b.length ≤ line)) (ret (D.lst (a ++ b)) S)
      | none => none)
    | none => none) = _
  have e : asM S (D.cell j) = some ds := by
    show (match S[j]? with | some (.lst ds) => some ds | _ => none) = _
    rw [h]
  rw [e]
  rfl
@[simp] theorem gdT {α : Type} {m : Out α} : guard' true m = m := rfl
end Pv
namespace Pv
open PySem PySem.Spec
theorem at_nats (ns : List Nat) {v : Nat} (h : v < ns.length) : ∃ n, n ∈ ns ∧ L2.atI (ns.map fun n => D.int (n : Nat)) (v : Int) = some (.int (n : Nat)) := ⟨ns[v], List.getElem_mem h, by
  rw [at_nat, List.getElem?_map, List.getElem?_eq_getElem h]
  rfl⟩
end Pv
namespace Pv
open PySem PySem.Spec
theorem evs0 : type_of% @guard_true ∧ type_of% @lz_ret ∧ type_of% @lzN_ret ∧ type_of% @lz_assoc ∧ type_of% @lz_ite ∧ type_of% @lzN_ite ∧ type_of% @lzN_lz ∧ type_of% @ofs_inj ∧ type_of% @ev_eC ∧ type_of% @ev_eVar ∧ type_of% @ev_eBin ∧ type_of% @ev_eUn ∧ type_of% @ev_eBl ∧ type_of% @ev_eNil ∧ type_of% @ev_eCons ∧ type_of% @ev_eTup ∧ type_of% @ev_eLst ∧ type_of% @ev_eCall ∧ type_of% @ev_eCallK ∧ type_of% @ev_ar ∧ type_of% @ev_eTru ∧ type_of% @ev_byT_bl ∧ type_of% @ev_bNot ∧ type_of% @ev_bOr ∧ type_of% @ev_bAnd ∧ type_of% @ev_eIf ∧ type_of% @ev_eOr ∧ type_of% @ev_eAnd ∧ type_of% @ev_eNot ∧ type_of% @ev_eChain ∧ type_of% @ev_chK ∧ type_of% @ev_eMl ∧ type_of% @ev_eApp ∧ type_of% @ev_eMk ∧ type_of% @ev_eSl ∧ type_of% @ev_ePart0 ∧ type_of% @ev_ePart1 ∧ type_of% @ev_sSeq ∧ type_of% @ev_nx ∧ type_of% @ev_rt ∧ type_of% @ev_bk ∧ type_of% @ev_ct ∧ type_of% @ev_sNil ∧ type_of% @ev_sDrop ∧ type_of% @ev_sRet ∧ type_of% @ev_sRetN ∧ type_of% @ev_sSet ∧ type_of% @ev_sIf ∧ type_of% @ev_sPar ∧ type_of% @ev_sUnp ∧ type_of% @ev_sPut ∧ type_of% @ev_sFor ∧ type_of% @ev_eComp ∧ type_of% @ev_eDComp ∧ type_of% @wipeD0 ∧ type_of% @wipeD1 ∧ type_of% @setAll0 ∧ type_of% @setAll1 ∧ type_of% @setT1 ∧ type_of% @setT2 ∧ type_of% @setTs0 ∧ type_of% @setTs1 ∧ type_of% @ev_int ∧ type_of% @ev_add ∧ type_of% @ev_addT ∧ type_of% @ev_addL ∧ type_of% @ev_sub ∧ type_of% @ev_mul ∧ type_of% @ev_mod ∧ type_of% @ev_lt ∧ type_of% @ev_le ∧ type_of% @ev_gt ∧ type_of% @ev_ge ∧ type_of% @ev_eqI ∧ type_of% @ev_neI ∧ type_of% @ev_eqS ∧ type_of% @ev_neS ∧ type_of% @ev_isN ∧ type_of% @ev_isNotN ∧ type_of% @ev_lenL :=
  ⟨@guard_true, @lz_ret, @lzN_ret, @lz_assoc, @lz_ite, @lzN_ite, @lzN_lz, @ofs_inj, @ev_eC, @ev_eVar, @ev_eBin, @ev_eUn, @ev_eBl, @ev_eNil, @ev_eCons, @ev_eTup, @ev_eLst, @ev_eCall, @ev_eCallK, @ev_ar, @ev_eTru, @ev_byT_bl, @ev_bNot, @ev_bOr, @ev_bAnd, @ev_eIf, @ev_eOr, @ev_eAnd, @ev_eNot, @ev_eChain, @ev_chK, @ev_eMl, @ev_eApp, @ev_eMk, @ev_eSl, @ev_ePart0, @ev_ePart1, @ev_sSeq, @ev_nx, @ev_rt, @ev_bk, @ev_ct, @ev_sNil, @ev_sDrop, @ev_sRet, @ev_sRetN, @ev_sSet, @ev_sIf, @ev_sPar, @ev_sUnp, @ev_sPut, @ev_sFor, @ev_eComp, @ev_eDComp, @wipeD0, @wipeD1, @setAll0, @setAll1, @setT1, @setT2, @setTs0, @setTs1, @ev_int, @ev_add, @ev_addT, @ev_addL, @ev_sub, @ev_mul, @ev_mod, @ev_lt, @ev_le, @ev_gt, @ev_ge, @ev_eqI, @ev_neI, @ev_eqS, @ev_neS, @ev_isN, @ev_isNotN, @ev_lenL⟩
theorem evs1 : type_of% @ev_lenT ∧ type_of% @ev_tupL ∧ type_of% @ev_tupT ∧ type_of% @ev_lstT ∧ type_of% @ev_lstL ∧ type_of% @ev_ixT ∧ type_of% @ev_ixL ∧ type_of% @ev_slT ∧ type_of% @ev_slL ∧ type_of% @ev_isl ∧ type_of% @at_0 ∧ type_of% @at_1 ∧ type_of% @at_2 ∧ type_of% @at_3 ∧ type_of% @at_m1 ∧ type_of% @at_m1a ∧ type_of% @at_m1b ∧ type_of% @at_m1c ∧ type_of% @at_m1d ∧ type_of% @isNon_non ∧ type_of% @isNon_bl ∧ type_of% @isNon_int ∧ type_of% @isNon_str ∧ type_of% @isNon_tup ∧ type_of% @isNon_lst ∧ type_of% @isi_NoneType_int ∧ type_of% @isi_NoneType_str ∧ type_of% @isi_NoneType_tuple ∧ type_of% @isi_NoneType_list ∧ type_of% @isi_NoneType_bool ∧ type_of% @isi_NoneType_dict ∧ type_of% @isi_bool_int ∧ type_of% @isi_bool_str ∧ type_of% @isi_bool_tuple ∧ type_of% @isi_bool_list ∧ type_of% @isi_bool_bool ∧ type_of% @isi_bool_dict ∧ type_of% @isi_int_int ∧ type_of% @isi_int_str ∧ type_of% @isi_int_tuple ∧ type_of% @isi_int_list ∧ type_of% @isi_int_bool ∧ type_of% @isi_int_dict ∧ type_of% @isi_str_int ∧ type_of% @isi_str_str ∧ type_of% @isi_str_tuple ∧ type_of% @isi_str_list ∧ type_of% @isi_str_bool ∧ type_of% @isi_str_dict ∧ type_of% @isi_tuple_int ∧ type_of% @isi_tuple_str ∧ type_of% @isi_tuple_tuple ∧ type_of% @isi_tuple_list ∧ type_of% @isi_tuple_bool ∧ type_of% @isi_tuple_dict ∧ type_of% @isi_list_int ∧ type_of% @isi_list_str ∧ type_of% @isi_list_tuple ∧ type_of% @isi_list_list ∧ type_of% @isi_list_bool ∧ type_of% @isi_list_dict ∧ type_of% @comp_T ∧ type_of% @comp_L ∧ type_of% @comp_R ∧ type_of% @comp_E ∧ type_of% @comp_ET ∧ type_of% @comp_ZT ∧ type_of% @comp_ZL ∧ type_of% @compP0 ∧ type_of% @cnd0 ∧ type_of% @cnd1 ∧ type_of% @compd_T ∧ type_of% @compd_L ∧ type_of% @compd_ZT ∧ type_of% @for_T ∧ type_of% @for_L ∧ type_of% @for_R ∧ type_of% @for_E ∧ type_of% @for_ET ∧ type_of% @for_ES :=
  ⟨@ev_lenT, @ev_tupL, @ev_tupT, @ev_lstT, @ev_lstL, @ev_ixT, @ev_ixL, @ev_slT, @ev_slL, @ev_isl, @at_0, @at_1, @at_2, @at_3, @at_m1, @at_m1a, @at_m1b, @at_m1c, @at_m1d, @isNon_non, @isNon_bl, @isNon_int, @isNon_str, @isNon_tup, @isNon_lst, @isi_NoneType_int, @isi_NoneType_str, @isi_NoneType_tuple, @isi_NoneType_list, @isi_NoneType_bool, @isi_NoneType_dict, @isi_bool_int, @isi_bool_str, @isi_bool_tuple, @isi_bool_list, @isi_bool_bool, @isi_bool_dict, @isi_int_int, @isi_int_str, @isi_int_tuple, @isi_int_list, @isi_int_bool, @isi_int_dict, @isi_str_int, @isi_str_str, @isi_str_tuple, @isi_str_list, @isi_str_bool, @isi_str_dict, @isi_tuple_int, @isi_tuple_str, @isi_tuple_tuple, @isi_tuple_list, @isi_tuple_bool, @isi_tuple_dict, @isi_list_int, @isi_list_str, @isi_list_tuple, @isi_list_list, @isi_list_bool, @isi_list_dict, @comp_T, @comp_L, @comp_R, @comp_E, @comp_ET, @comp_ZT, @comp_ZL, @compP0, @cnd0, @cnd1, @compd_T, @compd_L, @compd_ZT, @for_T, @for_L, @for_R, @for_E, @for_ET, @for_ES⟩
theorem evs2 : type_of% @for_EZ ∧ type_of% @forP0 ∧ type_of% @ev_iSeq ∧ type_of% @ev_iRg1 ∧ type_of% @ev_iRg2 ∧ type_of% @ev_iEn ∧ type_of% @ev_iEnS ∧ type_of% @ev_iZp ∧ type_of% @asL_lst ∧ type_of% @bothT ∧ type_of% @bothL2 ∧ type_of% @ev_ixC ∧ type_of% @ev_ixCS ∧ type_of% @ev_app ∧ type_of% @ev_islC ∧ type_of% @ev_lenC ∧ type_of% @ev_asLC ∧ type_of% @ev_tupC ∧ type_of% @ev_putC ∧ type_of% @sto_at0 ∧ type_of% @sto_at ∧ type_of% @sto_set0 ∧ type_of% @sto_set ∧ type_of% @at_nat ∧ type_of% @cut_to ∧ type_of% @cut_from ∧ type_of% @cut_from1 ∧ type_of% @cut_to1 ∧ type_of% @cut_last ∧ type_of% @cut_tail ∧ type_of% @in_strL ∧ type_of% @in_strT ∧ type_of% @in_strT2 ∧ type_of% @flip0 ∧ type_of% @flip1 ∧ type_of% @ixD ∧ type_of% @ev_neg ∧ type_of% @ix_p0 ∧ type_of% @ix_p1 ∧ type_of% @ix_p2 ∧ type_of% @ix_m0 ∧ type_of% @ix_m1 ∧ type_of% @ix_m2 ∧ type_of% @ix_c0 ∧ type_of% @ix_c1 ∧ type_of% @ix_c2 ∧ type_of% @ix_c3 ∧ type_of% @ev_sum ∧ type_of% @ev_minL ∧ type_of% @ev_all1 ∧ type_of% @ev_powS ∧ type_of% @ev_divS ∧ type_of% @ev_sortedC ∧ type_of% @ev_sortedL ∧ type_of% @ix43 ∧ type_of% @ix42 ∧ type_of% @ix41 ∧ type_of% @ix40 ∧ type_of% @ev_neNilI ∧ type_of% @ev_neNilIT ∧ type_of% @ev_neNil0 ∧ type_of% @ev_neNil0T ∧ type_of% @ev_intB ∧ type_of% @ev_addCL ∧ type_of% @gdT :=
  ⟨@for_EZ, @forP0, @ev_iSeq, @ev_iRg1, @ev_iRg2, @ev_iEn, @ev_iEnS, @ev_iZp, @asL_lst, @bothT, @bothL2, @ev_ixC, @ev_ixCS, @ev_app, @ev_islC, @ev_lenC, @ev_asLC, @ev_tupC, @ev_putC, @sto_at0, @sto_at, @sto_set0, @sto_set, @at_nat, @cut_to, @cut_from, @cut_from1, @cut_to1, @cut_last, @cut_tail, @in_strL, @in_strT, @in_strT2, @flip0, @flip1, @ixD, @ev_neg, @ix_p0, @ix_p1, @ix_p2, @ix_m0, @ix_m1, @ix_m2, @ix_c0, @ix_c1, @ix_c2, @ix_c3, @ev_sum, @ev_minL, @ev_all1, @ev_powS, @ev_divS, @ev_sortedC, @ev_sortedL, @ix43, @ix42, @ix41, @ix40, @ev_neNilI, @ev_neNilIT, @ev_neNil0, @ev_neNil0T, @ev_intB, @ev_addCL, @gdT⟩
theorem evs3 : type_of% @List.map_append.{0,0} ∧ type_of% @List.getElem?_cons_zero.{0} ∧ type_of% @List.getElem?_cons_succ.{0} ∧ type_of% @List.set_cons_zero.{0} ∧ type_of% @List.set_cons_succ.{0} ∧ type_of% @List.map_cons.{0,0} ∧ type_of% @List.map_nil.{0,0} ∧ type_of% @List.append_nil.{0} ∧ type_of% @List.nil_append.{0} ∧ type_of% @List.cons_append.{0} ∧ type_of% @List.append_assoc.{0} ∧ type_of% @List.length_cons.{0} ∧ type_of% @List.length_nil.{0} ∧ type_of% @List.length_map.{0,0} ∧ type_of% @List.length_append.{0} ∧ type_of% @List.getElem?_map.{0,0} ∧ type_of% @Option.map_some.{0,0} ∧ type_of% @List.replicate_succ.{0} ∧ type_of% @List.replicate_zero.{0} ∧ type_of% @beq_self_eq_true.{0} ∧ type_of% @Nat.zero_add ∧ type_of% @Nat.add_zero ∧ type_of% @Int.zero_add ∧ type_of% @Int.toNat_natCast ∧ type_of% @decide_true ∧ type_of% @decide_false ∧ type_of% @decide_eq_true_eq ∧ type_of% @decide_eq_false_iff_not ∧ type_of% @Bool.not_true ∧ type_of% @Bool.not_false ∧ type_of% @Bool.not_eq_true ∧ type_of% @Bool.not_eq_eq_eq_not ∧ type_of% @Bool.false_eq_true ∧ type_of% @Bool.true_eq_false ∧ type_of% @or_self ∧ type_of% @or_true ∧ type_of% @true_or ∧ type_of% @false_or ∧ type_of% @or_false ∧ type_of% @and_self ∧ type_of% @and_true ∧ type_of% @true_and ∧ type_of% @false_and ∧ type_of% @gd ∧ type_of% @gd2 ∧ type_of% @gd4 :=
  ⟨@List.map_append.{0,0}, @List.getElem?_cons_zero.{0}, @List.getElem?_cons_succ.{0}, @List.set_cons_zero.{0}, @List.set_cons_succ.{0}, @List.map_cons.{0,0}, @List.map_nil.{0,0}, @List.append_nil.{0}, @List.nil_append.{0}, @List.cons_append.{0}, @List.append_assoc.{0}, @List.length_cons.{0}, @List.length_nil.{0}, @List.length_map.{0,0}, @List.length_append.{0}, @List.getElem?_map.{0,0}, @Option.map_some.{0,0}, @List.replicate_succ.{0}, @List.replicate_zero.{0}, @beq_self_eq_true.{0}, @Nat.zero_add, @Nat.add_zero, @Int.zero_add, @Int.toNat_natCast, @decide_true, @decide_false, @decide_eq_true_eq, @decide_eq_false_iff_not, @Bool.not_true, @Bool.not_false, @Bool.not_eq_true, @Bool.not_eq_eq_eq_not, @Bool.false_eq_true, @Bool.true_eq_false, @or_self, @or_true, @true_or, @false_or, @or_false, @and_self, @and_true, @true_and, @false_and, @gd, @gd2, @gd4⟩
theorem evl : type_of% @List.length_map.{0,0} ∧ type_of% @List.length_append.{0} ∧ type_of% @List.length_cons.{0} ∧ type_of% @List.length_nil.{0} ∧ type_of% @List.length_take.{0} ∧ type_of% @List.length_drop.{0} ∧ type_of% @List.length_set.{0} ∧ type_of% @List.length_zipWith.{0,0,0} ∧ type_of% @List.length_range ∧ line = 10000000 :=
  ⟨@List.length_map.{0,0}, @List.length_append.{0}, @List.length_cons.{0}, @List.length_nil.{0}, @List.length_take.{0}, @List.length_drop.{0}, @List.length_set.{0}, @List.length_zipWith.{0,0,0}, @List.length_range, rfl⟩
end Pv
namespace Pv
open PySem PySem.Spec
theorem Pg.alls_app {p : Pg} : ∀ {a b : List (Option Int)} {m : Mo}, p.alls m (a ++ b) = (p.alls m a && p.alls (p.go m a) b)
  | [], b, m => by simp [Pg.alls, Pg.go]
  | s :: a, b, m => by simp [Pg.alls, Pg.go, Pg.alls_app (a := a), Bool.and_assoc]
theorem Pg.go_app {p : Pg} : ∀ {a b : List (Option Int)} {m : Mo}, p.go m (a ++ b) = p.go (p.go m a) b
  | [], _, _ => rfl
  | s :: a, b, m => by simp [Pg.go, Pg.go_app (a := a)]
end Pv
namespace Pv
open PySem PySem.Spec
/-- the widths behind some legs -/
def wl (p : Pg) (l : List (Mo × Mo × Int)) : List Int := l.dropLast.map fun x => x.2.2 + p.due x.2.1 - 1
def lst (l : List (Mo × Mo × Int)) (d : Mo × Mo × Int) : Mo × Mo × Int := (l.getLast?).getD d
theorem Pg.cost_app {p : Pg} : ∀ {a b : List (Option Int)} {m : Mo}, p.cost m (a ++ b) = p.cost m a + p.cost (p.go m a) b
  | [], _, _ => by simp [Pg.cost, Pg.go]
  | s :: a, b, m => by simp [Pg.cost, Pg.go, Pg.cost_app (a := a), Int.add_assoc]
end Pv
namespace Pv
open PySem PySem.Spec
structure Fis (n b : Nat) (ds : List D) : Prop where
  py : ∃ ps, PyDs n ds ps
  bk : blks ds ≤ b
theorem Fis.nil {n b : Nat} : Fis n b [] := ⟨⟨[], rfl, rfl, rfl, Nat.zero_le _, rfl, rfl, rfl⟩, Nat.zero_le _⟩
theorem Fis.cons {n b c : Nat} {d : D} {ds : List D} (h : Fi n b d) (hs : Fis n c ds) : Fis n (b + 1 + c) (d :: ds) := by
  obtain ⟨⟨p, hp⟩, k⟩ := h
  obtain ⟨⟨ps, hq⟩, ks⟩ := hs
  refine ⟨⟨p :: ps, by simp only [D.pys, hp.e, hq.e], ?_, ?_, ?_, ?_, ?_, ?_⟩, by simp only [blks]; omega⟩
  · simp only [PyData.showableAll, hp.sh, hq.sh, Bool.and_self]
  · simp only [PyData.hasDictAll, hp.hd, hq.hd, Bool.or_self]
  · simp only [PyData.depthAll]; exact Nat.max_le.mpr ⟨hp.dep, hq.dep⟩
  · simp only [PyData.leavesShortAll, hp.lv, hq.lv, Bool.and_self]
  · simp only [PyData.bulkAll, blks, hp.bk, hq.bk]
  · simp only [PyData.canLayAll0, hp.cl, hq.cl, Bool.and_self]
theorem Fis.map {α : Type} {n b k : Nat} {f : α → D} {xs : List α} (h : ∀ x ∈ xs, Fi n b (f x)) (hl : xs.length ≤ k) : Fis n (k * (b + 1)) (xs.map f) := by
  have h2 : ∀ d ∈ xs.map f, Fi n b d := fun d m => by
    obtain ⟨x, hx, rfl⟩ := List.mem_map.mp m
    exact h x hx
  obtain ⟨ps, hp⟩ := pyds fun d m => (h2 d m).py
  exact ⟨⟨ps, hp⟩, Nat.le_trans (blks_le fun d m => (h2 d m).bk) (Nat.mul_le_mul (by simpa using hl) (Nat.le_refl _))⟩
theorem Fis.t {n b : Nat} {ds : List D} (h : Fis n b ds) : Fi (n + 1) b (.tup ds) := let ⟨⟨_, hp⟩, k⟩ := h; ⟨⟨_, hp.tup⟩, k⟩
theorem Fis.l {n b : Nat} {ds : List D} (h : Fis n b ds) : Fi (n + 1) b (.lst ds) := let ⟨⟨_, hp⟩, k⟩ := h; ⟨⟨_, hp.lst⟩, k⟩
/-- a short word -/
theorem fi_str {n : Nat} {s : Str} (h : lstr s = true) : Fi n 30 (.str s) := .str h (by
  simp only [lstr, Bool.and_eq_true, decide_eq_true_eq] at h
  exact h.1)
theorem fi_int {n : Nat} {i : Int} (h : i.natAbs < 1000000000000000) : Fi n 0 (.int i) := .int (Nat.lt_of_lt_of_le h (by decide))
def exB : Nat → Nat
  | 0 => 30
  | d + 1 => 33 + 2 * exB d
theorem exB_mono {a b : Nat} (h : a ≤ b) : exB a ≤ exB b := by
  induction h with
  | refl => exact Nat.le_refl _
  | step h ih => simp only [exB]; omega
theorem Ex.fi {ns : List Str} (hn : ∀ s ∈ ns, lstr s = true) : ∀ {e : Ex} {d : Nat}, e.okB ns = true → e.dp ≤ d → Fi d (exB d) e.d
  | .num i, d, ho, _ => by
    have : i.natAbs < 2 ^ 11 := by simpa [Ex.okB] using ho
    exact (fi_int (n := d) (by omega)).mono (Nat.le_refl _) (Nat.zero_le _)
  | .nm s, d, ho, _ => by
    have hs : s ∈ ns := by simpa [Ex.okB] using ho
    exact (fi_str (n := d) (hn s hs)).mono (Nat.le_refl _) (exB_mono (Nat.zero_le _))
  | .op w a b, 0, ho, hd => by simp [Ex.dp] at hd
  | .op w a b, d + 1, ho, hd => by
    simp only [Ex.okB, Bool.and_eq_true, Bool.or_eq_true, decide_eq_true_eq] at ho
    obtain ⟨⟨hw, ha⟩, hb⟩ := ho
    simp only [Ex.dp] at hd
    have d1 : a.dp ≤ max a.dp b.dp := Nat.le_max_left ..
    have d2 : b.dp ≤ max a.dp b.dp := Nat.le_max_right ..
    have fw : Fi d 30 (.str w) := fi_str (by rcases hw with (rfl | rfl) | rfl <;> decide +kernel)
    exact (Fis.cons fw (Fis.cons (Ex.fi hn ha (by omega)) (Fis.cons (Ex.fi hn hb (by omega)) (Fis.nil (b := 0))))).t.mono (Nat.le_refl _) (by simp only [exB]; omega)
theorem Ts.fi {ns : List Str} (hn : ∀ s ∈ ns, lstr s = true) : ∀ {e : Ts} {d : Nat}, e.okB ns = true → e.dp ≤ d → Fi d (exB d) e.d
  | .cmp w a b, 0, ho, hd => by simp [Ts.dp] at hd
  | .neg t, 0, ho, hd => by simp [Ts.dp] at hd
  | .cmp w a b, d + 1, ho, hd => by
    simp only [Ts.okB, Bool.and_eq_true, Bool.or_eq_true, decide_eq_true_eq] at ho
    obtain ⟨⟨hw, ha⟩, hb⟩ := ho
    simp only [Ts.dp] at hd
    have d1 : a.dp ≤ max a.dp b.dp := Nat.le_max_left ..
    have d2 : b.dp ≤ max a.dp b.dp := Nat.le_max_right ..
    have fw : Fi d 30 (.str w) := fi_str (by rcases hw with rfl | rfl <;> decide +kernel)
    exact (Fis.cons fw (Fis.cons (Ex.fi hn ha (by omega)) (Fis.cons (Ex.fi hn hb (by omega)) (Fis.nil (b := 0))))).t.mono (Nat.le_refl _) (by simp only [exB]; omega)
  | .neg t, d + 1, ho, hd => by
    simp only [Ts.dp] at hd
    have fw : Fi d 30 (.str "not") := fi_str (by decide +kernel)
    have := Ts.fi hn (e := t) (d := d) ho (by omega)
    exact (Fis.cons fw (Fis.cons this (Fis.nil (b := 0)))).t.mono (Nat.le_refl _) (by simp only [exB]; omega)
theorem cost_lt {k : Int} (h : costB k = true) : 0 < k ∧ k < 2048 := by
  simpa [costB] using h
theorem Ins.fi {ns : List Str} (hn : ∀ s ∈ ns, lstr s = true) {m : Nat} (hm : m ≤ 40) {i : Ins} (ho : i.okB ns m = true) : Fi 6 2200 i.d := by
  have eB : exB 5 = 1983 := rfl
  have w : ∀ s : Str, lstr s = true → Fi 5 30 (.str s) := fun s h => fi_str h
  have c : ∀ k : Int, costB k = true → Fis 5 1 [.int k] := fun k h => by
    have := cost_lt h
    exact Fis.cons (fi_int (i := k) (by omega)) (Fis.nil (b := 0))
  have pl : ∀ p : Nat, p < m → Fi 5 0 (.int (p : Nat)) := fun p h => fi_int (by omega)
  cases i with
  | set a e k =>
    simp only [Ins.okB, Bool.and_eq_true, decide_eq_true_eq] at ho
    exact (Fis.cons (w "set" (by decide +kernel)) (Fis.cons (w a (hn a ho.1.1.1)) (Fis.cons (Ex.fi hn ho.1.1.2 ho.1.2) (c k ho.2)))).t.mono (Nat.le_refl _) (by omega)
  | ask a k =>
    simp only [Ins.okB, Bool.and_eq_true, decide_eq_true_eq] at ho
    exact (Fis.cons (w "ask" (by decide +kernel)) (Fis.cons (w a (hn a ho.1)) (c k ho.2))).t.mono (Nat.le_refl _) (by omega)
  | jump q k =>
    simp only [Ins.okB, Bool.and_eq_true, decide_eq_true_eq] at ho
    exact (Fis.cons (w "jump" (by decide +kernel)) (Fis.cons (pl q ho.1) (c k ho.2))).t.mono (Nat.le_refl _) (by omega)
  | unl t q k =>
    simp only [Ins.okB, Bool.and_eq_true, decide_eq_true_eq] at ho
    exact (Fis.cons (w "unless" (by decide +kernel)) (Fis.cons (Ts.fi hn ho.1.1.1 ho.1.1.2) (Fis.cons (pl q ho.1.2) (c k ho.2)))).t.mono (Nat.le_refl _) (by omega)
  | mark k => exact (Fis.cons (w "mark" (by decide +kernel)) (c k ho)).t.mono (Nat.le_refl _) (by omega)
  | off k => exact (Fis.cons (w "off" (by decide +kernel)) (c k ho)).t.mono (Nat.le_refl _) (by omega)
  | fin => exact (Fis.cons (w "end" (by decide +kernel)) (Fis.nil (b := 0))).t.mono (Nat.le_refl _) (by omega)
theorem Cl.fi {c : Cl} (h : c.okB = true) : Fi 6 100 c.d := by
  simp only [Cl.okB, Bool.and_eq_true, Bool.or_eq_true, decide_eq_true_eq] at h
  obtain ⟨⟨⟨⟨h1, h2⟩, h3⟩, h4⟩, h5⟩ := h
  have fk : Fi 5 30 (.str c.kd) := fi_str (by rcases h2 with (h | h) | h <;> rw [h] <;> decide +kernel)
  exact (Fis.cons (fi_str h1) (Fis.cons fk (Fis.cons (fi_int (n := 5) (i := c.top) (by omega)) (Fis.cons (fi_int (i := c.st) (by omega)) (Fis.nil (b := 0)))))).t.mono (Nat.le_refl _) (by omega)
theorem Pg.Is.nm {p : Pg} (h : p.Is) : ∀ s ∈ p.cells.map Cl.nm, lstr s = true := fun s hs => by
  obtain ⟨c, hc, rfl⟩ := List.mem_map.mp hs
  have := h.rc c hc
  simp only [Cl.okB, Bool.and_eq_true] at this
  exact this.1.1.1.1
theorem Pg.Is.fi {p : Pg} (h : p.Is) : Fi 8 100000 p.d := by
  have f1 : Fi 7 _ (.tup (p.cells.map Cl.d)) := (Fis.map (fun c m => Cl.fi (h.rc c m)) h.lc).t
  have f2 : Fi 7 _ (.tup (p.code.map Ins.d)) := (Fis.map (fun c m => Ins.fi h.nm h.ln (h.rn c m)) h.ln).t
  have f3 : Fi 7 _ (.tup (p.told.map D.str)) := (Fis.map (n := 6) (fun c m => fi_str (h.rt c m)) h.lt).t
  exact (Fis.cons f1 (Fis.cons f2 (Fis.cons f3 (Fis.nil (b := 0))))).t.mono (Nat.le_refl _) (by decide)
theorem Pg.Mk.fi {p : Pg} (h : p.Is) {m : Mo} (k : p.Mk m) : Fi 3 100 m.d := by
  have lc := h.lc
  have ln := h.ln
  have hv := k.vs.bd h.rc
  have h1 := k.pl
  have h2 := k.cp
  have l1 := k.vs.1
  have l2 : m.cs.length ≤ 10 := by
    rw [k.cs]
    exact Nat.le_trans (List.length_filter_le ..) lc
  have hcs : ∀ v ∈ m.cs, v.natAbs < 2048 := fun v hm => by
    obtain ⟨j, hj, e⟩ := List.getElem_of_mem hm
    have hj2 : j < (p.cells.filter fun c : Cl => decide (c.kd = ("saved" : Str))).length := by rw [← k.cs]; exact hj
    have := k.cv j _ v (List.getElem?_eq_getElem hj2) (by rw [List.getElem?_eq_getElem hj, e])
    have hc := h.rc _ ((List.mem_filter.mp (List.getElem_mem hj2)).1)
    simp only [Cl.okB, Bool.and_eq_true, decide_eq_true_eq] at hc
    omega
  have f1 : Fi 1 _ (.tup (m.cs.map D.int)) := (Fis.map (k := 10) (fun v hm => fi_int (n := 0) (by have := hcs v hm; omega)) l2).t
  have f2 : Fi 1 _ (.tup (m.vs.map D.int)) := (Fis.map (k := 10) (fun v hm => fi_int (n := 0) (by have := hv v hm; omega)) (by omega)).t
  have f3 := (Fis.cons (fi_int (n := 1) (i := m.cp) (by omega)) (Fis.cons f1 (Fis.nil (b := 0)))).t
  exact (Fis.cons f3 (Fis.cons (fi_int (n := 2) (i := m.pl) (by omega)) (Fis.cons (f2.mono (m := 2) (by decide) (Nat.le_refl _)) (Fis.nil (b := 0))))).t.mono (Nat.le_refl _) (by decide)
theorem Pg.Mk.due_lt {p : Pg} (h : p.Is) {m : Mo} (k : p.Mk m) : 0 ≤ p.due m ∧ p.due m < 2048 := by
  obtain ⟨i, e, hm⟩ := k.at_
  have ho := h.rn i hm
  have hd : p.due m = i.due := by simp [Pg.due, e]
  rw [hd]
  cases i <;> simp only [Ins.okB, Bool.and_eq_true, decide_eq_true_eq] at ho <;> simp only [Ins.due]
  · have := cost_lt ho.2; omega
  · have := cost_lt ho.2; omega
  · have := cost_lt ho.2; omega
  · have := cost_lt ho.2; omega
  · have := cost_lt ho; omega
  · omega
  · omega
theorem Pg.Is.cost_lt {p : Pg} (h : p.Is) : ∀ {ss : List (Option Int)} {m : Mo}, p.Mk m → p.alls m ss = true → 0 ≤ p.cost m ss ∧ p.cost m ss ≤ 2048 * ss.length
  | [], _, _, _ => by simp [Pg.cost]
  | s :: ss, m, k, a => by
    simp only [Pg.alls, Bool.and_eq_true] at a
    have := h.cost_lt (h.step k a.1) a.2
    have := k.due_lt h
    simp only [Pg.cost, List.length_cons]
    omega
end Pv
namespace Pv
open PySem PySem.Spec
/-- a def that hands over a new list that is changed later -/
theorem def_new {nl : Nat} {body : SemS} {ds ds0 : List D} {S : Store} (h : body (ds0.map some ++ List.replicate (nl - ds0.length) none) S = ret (.rt (.cell S.length)) (S ++ [.lst ds])) (hS : okS S) (hd : D.pus ds = true) : defF true nl body ds0 S = ret (.cell S.length) (S ++ [.lst ds]) := by
  unfold defF
  rw [h]
  show expD true S.length (.cell S.length) (S ++ [Cell.lst ds]) = _
  have hT : okS [Cell.lst ds] := puS_cons.mpr ⟨hd, okS.nil⟩
  have ea : ((S ++ [Cell.lst ds]).take S.length).all (Cell.clos S.length) = true := (hS.append hT).all
  unfold expD
  rw [ea]
  simp only [guard_true, if_neg (Nat.lt_irrefl _), sto_at0, List.getElem?_cons_zero, pus_exp hd, if_true]
  rw [List.take_append_of_le_length (Nat.le_refl _), List.take_length]
end Pv
namespace Pv
open PySem PySem.Spec
mutual
/-- numbers, texts, None, and tuples and lists of them -/
def D.pl : D → Bool
  | .non => true
  | .int _ => true
  | .str _ => true
  | .tup ds => D.pls ds
  | .lst ds => D.pls ds
  | _ => false
def D.pls : List D → Bool
  | [] => true
  | d :: ds => D.pl d && D.pls ds
end
end Pv
namespace Pv
open PySem PySem.Spec
theorem map_int_inj {a b : List Int} (h : a.map D.int = b.map D.int) : a = b := by
  induction a generalizing b with
  | nil => cases b with
    | nil => rfl
    | cons => simp at h
  | cons x a ih => cases b with
    | nil => simp at h
    | cons y b =>
      simp at h
      rw [h.1, ih h.2]
theorem Mo.inj (x y : Mo) (h : x.d = y.d) : x = y := by
  obtain ⟨a, b, c, d⟩ := x
  obtain ⟨a', b', c', d'⟩ := y
  simp only [Mo.d, D.tup.injEq, List.cons.injEq, D.int.injEq, and_true] at h
  obtain ⟨⟨h1, h2⟩, h3, h4⟩ := h
  rw [map_int_inj h2, map_int_inj h4, Int.ofNat_inj.mp h1, Int.ofNat_inj.mp h3]
def Pg.endw (p : Pg) : Mo → List (List (Option Int)) → Mo
  | m, [] => m
  | m, ss :: r => p.endw (p.wake (p.go m ss)) r
def Pg.wak (p : Pg) : Mo → List (List (Option Int)) → List Mo
  | _, [] => []
  | m, ss :: r => m :: p.wak (p.wake (p.go m ss)) r
def Pg.letE (p : Pg) : Mo → List (List (Option Int)) → Bool
  | _, [] => true
  | m, ss :: r => p.alls m ss && decide (p.due (p.go m ss) ≠ 0) && p.letE (p.wake (p.go m ss)) r
theorem Pg.wak_app {p : Pg} : ∀ {a b : List (List (Option Int))} {m : Mo}, p.wak m (a ++ b) = p.wak m a ++ p.wak (p.endw m a) b
  | [], _, _ => rfl
  | ss :: a, b, m => by simp only [List.cons_append, Pg.wak, Pg.endw, Pg.wak_app (a := a)]
theorem Pg.endw_app {p : Pg} : ∀ {a b : List (List (Option Int))} {m : Mo}, p.endw m (a ++ b) = p.endw (p.endw m a) b
  | [], _, _ => rfl
  | ss :: a, b, m => by simp only [List.cons_append, Pg.endw, Pg.endw_app (a := a)]
theorem Pg.lets_app {p : Pg} : ∀ {a b : List (List (Option Int))} {m : Mo}, b ≠ [] → p.lets m (a ++ b) = (p.letE m a && p.lets (p.endw m a) b)
  | [], _, _, _ => by simp [Pg.letE, Pg.endw]
  | ss :: a, b, m, h => by
    have : (a ++ b).isEmpty = false := by
      cases a with
      | nil => cases b with
        | nil => exact absurd rfl h
        | cons => rfl
      | cons => rfl
    simp only [List.cons_append, Pg.lets, Pg.letE, Pg.endw, Pg.lets_app (a := a) h, this, Bool.false_or, Bool.and_assoc]
/-- the waking at a place is where what stands ahead of it ends -/
theorem Pg.wak_at {p : Pg} : ∀ {r : List (List (Option Int))} {m : Mo} {k : Nat}, k < r.length → (p.wak m r)[k]? = some (p.endw m (r.take k))
  | [], _, _, h => by simp at h
  | ss :: r, m, 0, _ => rfl
  | ss :: r, m, k + 1, h => by
    simp only [Pg.wak, List.getElem?_cons_succ, List.take_succ_cons, Pg.endw]
    exact Pg.wak_at (by simpa using h)
/-- once more round a ring -/
theorem Pg.again {p : Pg} {m : Mo} {a : List (List (Option Int))} {k : Nat} (hl : p.lets m (a ++ [[]]) = true) (hk : k < a.length) (hw : (p.wak m a)[k]? = some (p.endw m a)) :
    p.lets m (a ++ (a.drop k ++ [[]])) = true ∧ ∃ l, p.wak m (a ++ (a.drop k ++ [[]])) = l ++ [p.endw m a] ∧ p.endw m a ∈ l := by
  have hw2 : p.endw m (a.take k) = p.endw m a := by
    rw [Pg.wak_at hk] at hw
    exact Option.some.inj hw
  have h1 := hl
  rw [Pg.lets_app (by simp), Bool.and_eq_true] at h1
  have h2 : p.lets m (a.take k ++ (a.drop k ++ [[]])) = true := by rw [← List.append_assoc, List.take_append_drop]; exact hl
  rw [Pg.lets_app (by simp), Bool.and_eq_true, hw2] at h2
  refine ⟨by rw [Pg.lets_app (by simp), h1.1, h2.2]; rfl, ?_⟩
  refine ⟨p.wak m a ++ p.wak (p.endw m a) (a.drop k), ?_, List.mem_append_left _ (List.mem_of_getElem? hw)⟩
  rw [Pg.wak_app, Pg.wak_app, ← List.append_assoc]
  congr 1
  show [p.endw (p.endw m a) (a.drop k)] = _
  have e3 : p.endw (p.endw m (a.take k)) (a.drop k) = p.endw m a := by rw [← Pg.endw_app, List.take_append_drop]
  rw [hw2] at e3
  rw [e3]
end Pv
namespace Pv
open PySem PySem.Spec
abbrev Sg := List (Option Int)
def triD (t : Sg × Sg × Sg) : D := .tup [sgD t.1, sgD t.2.1, sgD t.2.2]
def pmD (ts : List (Sg × Sg × Sg)) (z : Sg) : D := .tup (ts.map triD ++ [sgD z])
@[simp] theorem puTri (t : Sg × Sg × Sg) : (triD t).pu = true := by simp [triD]
@[simp] theorem pusTri (ts : List (Sg × Sg × Sg)) : D.pus (ts.map triD) = true := pus_map puTri ts
@[simp] theorem puPm (ts : List (Sg × Sg × Sg)) (z : Sg) : (pmD ts z).pu = true := by simp [pmD]
def rpt (n : Nat) (t : Sg) : Sg := (List.replicate n t).flatten
theorem rpt_succ (n : Nat) (t : Sg) : rpt (n + 1) t = t ++ rpt n t := by simp [rpt, List.replicate_succ]
section
variable {p : Pg} {m : Mo} {t : Sg}
theorem rpt_go (h : p.go m t = m) : ∀ n, p.go m (rpt n t) = m
  | 0 => rfl
  | n + 1 => by rw [rpt_succ, Pg.go_app, h, rpt_go h n]
theorem rpt_alls (h : p.go m t = m) (a : p.alls m t = true) : ∀ n, p.alls m (rpt n t) = true
  | 0 => rfl
  | n + 1 => by rw [rpt_succ, Pg.alls_app, h, a, rpt_alls h a n]; rfl
theorem rpt_cost (h : p.go m t = m) : ∀ n, p.cost m (rpt n t) = n * p.cost m t
  | 0 => by simp [rpt, Pg.cost]
  | n + 1 => by
    rw [rpt_succ, Pg.cost_app, h, rpt_cost h n]
    simp [Int.add_mul]
    omega
end
/-- what a triple of a pumped run gives -/
structure Turn (p : Pg) (m : Mo) (a t b : Sg) : Prop where
  aa : p.alls m a = true
  at_ : p.alls (p.go m a) t = true
  ab : p.alls (p.go m a) b = true
  gt : p.go (p.go m a) t = p.go m a
  ge : p.go m (a ++ t ++ b) = p.go (p.go m a) b
  ne : t ≠ []
theorem Turn.of {p : Pg} {m : Mo} {a t b : Sg} (h1 : p.alls m (a ++ t ++ b) = true) (h2 : t ≠ []) (h3 : p.go m a = p.go m (a ++ t)) : Turn p m a t b := by
  have e : p.go (p.go m a) t = p.go m a := by rw [← Pg.go_app, ← h3]
  rw [Pg.alls_app, Pg.alls_app, Bool.and_eq_true, Bool.and_eq_true, Pg.go_app, e] at h1
  exact ⟨h1.1.1, h1.1.2, h1.2, e, by rw [Pg.go_app, Pg.go_app, e], h2⟩
theorem Turn.go {p : Pg} {m : Mo} {a t b : Sg} (h : Turn p m a t b) (n : Nat) : p.go m (a ++ rpt n t ++ b) = p.go m (a ++ t ++ b) := by
  rw [h.ge, Pg.go_app, Pg.go_app, rpt_go h.gt]
theorem Turn.alls {p : Pg} {m : Mo} {a t b : Sg} (h : Turn p m a t b) (n : Nat) : p.alls m (a ++ rpt n t ++ b) = true := by
  rw [Pg.alls_app, Pg.alls_app, Pg.go_app, rpt_go h.gt, h.aa, h.ab, rpt_alls h.gt h.at_]; rfl
theorem Turn.cost {p : Pg} {m : Mo} {a t b : Sg} (h : Turn p m a t b) (n : Nat) : p.cost m (a ++ rpt n t ++ b) = p.cost m (a ++ rpt 0 t ++ b) + n * p.cost (p.go m a) t := by
  rw [Pg.cost_app, Pg.cost_app, Pg.go_app, rpt_go h.gt, rpt_cost h.gt, Pg.cost_app, Pg.cost_app, Pg.go_app, rpt_go h.gt, rpt_cost h.gt]
  simp
  omega
/-- the costs of the rounds -/
def Pg.turns (p : Pg) : Mo → List (Sg × Sg × Sg) → List Int
  | _, [] => []
  | m, (a, t, b) :: ts => p.cost (p.go m a) t :: p.turns (p.wake (p.go m (a ++ t ++ b))) ts
end Pv
namespace Pv
open PySem PySem.Spec
/-- it is raised -/
def exx {α : Type} (x : Xd) (S : Store) : Out α := some (.ex x, S)
section
variable {α β : Type} {x : Xd} {S T : Store} {sub : Subs} {y ce w2 : Str} {d : D} {ρ : Env} {b : SemS} {fl : Fl} {G : Fn} {f : Env → Store → Out D} {fs : Env → Store → Out (List D)} {ns : List Str} {c : Str}
theorem lz_exx {k : α → Store → Out β} {d : Dm k} : lz (exx x S) k d = exx x S := rfl
theorem ev_raise : sRaise c ns fs ρ S = lz (fs ρ S) fun ds S1 => guard' (ds.length == ns.length && decide (ds.length ≤ 900)) (exx ⟨c, (ns.zip ds).reverse⟩ S1) := rfl
def tryK (sub : Subs) (y : Str) (d : D) (r : Out Fl) : Out Fl := match r with
  | some (.ok fl, S1) => some (.ok fl, S1)
  | some (.ex x, S1) => (match sub x.cls y with
    | some true => some (.ok (.rt d), S1)
    | some false => some (.ex x, S1)
    | none => none)
  | none => none
theorem ev_tryC : sTryC sub y b d ρ S = tryK sub y d (b ρ S) := rfl
theorem tryK_ret : tryK sub y d (ret fl S) = ret fl S := rfl
def saidK (sub : Subs) (ce w2 : Str) (G : Fn) (r : Out D) : Out D := match r with
  | some (.ok d, S1) => ret (.tup [.str w2, d]) S1
  | some (.ex x, S1) => (match sub x.cls ce with
    | some true => sdEnd S1 (G [.err x.cls (x.fs.map (·.1)) (x.fs.map (·.2))] S1)
    | _ => none)
  | none => none
theorem ev_said : eSaid sub ce w2 G f ρ S = saidK sub ce w2 G (f ρ S) := rfl
theorem saidK_ret : saidK sub ce w2 G (ret d S) = ret (.tup [.str w2, d]) S := rfl
theorem saidK_exx (h : sub x.cls ce = some true) (hG : G [.err x.cls (x.fs.map (·.1)) (x.fs.map (·.2))] S = ret d S) (hd : d.ne = true) : saidK sub ce w2 G (exx x S) = ret d S := by
  unfold saidK exx
  simp only [h, hG]
  show sdEnd S (some (.ok d, S)) = _
  unfold sdEnd
  simp only [stEqb_self, hd, Bool.and_self, guard_true]
theorem zip_back {α β : Type} : ∀ {l : List (α × β)}, (l.map (·.1)).zip (l.map (·.2)) = l
  | [] => rfl
  | (a, b) :: l => by
    simp only [List.map_cons, List.zip_cons_cons]
    rw [zip_back]
/-- a def lets it out -/
theorem def_exS {q : Bool} {nl : Nat} {body : SemS} {ds : List D} (h : body (ds.map some ++ List.replicate (nl - ds.length) none) S = exx x (S ++ T)) (hx : D.pus (x.fs.map (·.2)) = true) (hS : okS S) (hT : okS T) : defF q nl body ds S = exx x S := by
  have ea : ((S ++ T).take S.length).all (Cell.clos S.length) = true := (hS.append hT).all
  unfold defF
  rw [h]
  show guard' (((S ++ T).take S.length).all (Cell.clos S.length)) (match D.exps S.length (S ++ T).length (S ++ T) (x.fs.map (·.2)) with
    | some es => some (.ex ⟨x.cls, (x.fs.map (·.1)).zip es⟩, (S ++ T).take S.length)
    | none => none) = _
  rw [ea, pus_exp hx]
  simp only [guard_true, zip_back, List.take_append_of_le_length (Nat.le_refl _), List.take_length]
  rfl
theorem def_ex {q : Bool} {nl : Nat} {body : SemS} {ds : List D} (h : body (ds.map some ++ List.replicate (nl - ds.length) none) S = exx x S) (hx : D.pus (x.fs.map (·.2)) = true) (hS : okS S) : defF q nl body ds S = exx x S :=
  def_exS (T := []) (by rw [List.append_nil]; exact h) hx hS okS.nil
end
@[simp] theorem ev_sAsgT {tg : Tg} {f : Env → Store → Out D} {ρ : Env} {S : Store} : sAsgT tg f ρ S = lz (f ρ S) fun d S1 => (match setT tg d ρ with
    | some ρ' => ret (.nx ρ') S1
    | none => none) := rfl
theorem evx : type_of% @ev_sAsgT ∧ type_of% @lz_exx ∧ type_of% @ev_raise ∧ type_of% @ev_tryC ∧ type_of% @tryK_ret ∧ type_of% @ev_said ∧ type_of% @saidK_ret := ⟨@ev_sAsgT, @lz_exx, @ev_raise, @ev_tryC, @tryK_ret, @ev_said, @saidK_ret⟩
end Pv
namespace Pv
open PySem PySem.Spec
/-- nothing of the store, nothing of the module's top -/
def D.top : D → Bool
  | .frz _ => false
  | .cell _ => false
  | .err _ _ _ => false
  | .ob _ _ _ => false
  | _ => true
/-- a small thing without parts -/
def lf (k : Nat) : D → Prop
  | .non => True
  | .bl _ => True
  | .int i => i.natAbs < 2 ^ 198 + k
  | .str s => s.length ≤ 20 + k ∧ ∀ c ∈ s.cps.toList, c < 128
  | _ => False
/-- well laid, at most so deep -/
def Wl (k : Nat) : Nat → D → Prop
  | 0, d => lf k d
  | n + 1, d => lf k d ∨ ∃ ds, (d = .tup ds ∨ d = .lst ds) ∧ ∀ x ∈ ds, Wl k n x
theorem lf.fi {k : Nat} {d : D} {n : Nat} (h : lf k d) (hk : k ≤ 10) : Fi n (blk d) d ∧ D.top d = true := by
  cases d with
  | non => exact ⟨Fi.non, rfl⟩
  | bl b => exact ⟨Fi.bl, rfl⟩
  | int i => exact ⟨Fi.int (by simp only [lf] at h; have : (2 : Nat) ^ 198 + 10 < 2 ^ 200 := by decide
                               omega), rfl⟩
  | str s =>
    refine ⟨Fi.str ?_ (Nat.le_refl _), rfl⟩
    unfold lstr
    simp only [Bool.and_eq_true, decide_eq_true_eq, List.all_eq_true]
    exact ⟨by have := h.1; omega, h.2⟩
  | _ => exact h.elim
theorem Wl.fi {k : Nat} (hk : k ≤ 10) : ∀ {n : Nat} {d : D}, Wl k n d → Fi n (blk d) d ∧ D.top d = true
  | 0, d, h => lf.fi h hk
  | n + 1, d, h => by
    rcases h with h | ⟨ds, h, hx⟩
    · exact lf.fi h hk
    · obtain ⟨ps, hp⟩ := pyds fun x m => (Wl.fi hk (hx x m)).1.py
      rcases h with rfl | rfl
      · exact ⟨⟨⟨_, hp.tup⟩, Nat.le_refl _⟩, rfl⟩
      · exact ⟨⟨⟨_, hp.lst⟩, Nat.le_refl _⟩, rfl⟩
theorem Wl.up {k n : Nat} {d : D} : Wl k n d → Wl k (n + 1) d := by
  induction n generalizing d with
  | zero => exact fun h => .inl h
  | succ n ih =>
    rintro (h | ⟨ds, h, hx⟩)
    · exact .inl h
    · exact .inr ⟨ds, h, fun x m => ih (hx x m)⟩
theorem lf.mono {k j : Nat} {d : D} (h : lf k d) (l : k ≤ j) : lf j d := by
  cases d with
  | non => trivial
  | bl b => trivial
  | int i => simp only [lf] at h ⊢; omega
  | str s => exact ⟨by have := h.1; omega, h.2⟩
  | _ => exact h.elim
theorem Wl.mono {k j n : Nat} {d : D} (h : Wl k n d) (l : k ≤ j) : Wl j n d := by
  induction n generalizing d with
  | zero => exact lf.mono h l
  | succ n ih =>
    rcases h with h | ⟨ds, h, hx⟩
    · exact .inl (lf.mono h l)
    · exact .inr ⟨ds, h, fun x m => ih (hx x m)⟩
theorem Wl.parts {k n : Nat} {ds : List D} (h : Wl k n (.tup ds)) : ∃ m, n = m + 1 ∧ ∀ x ∈ ds, Wl k m x := by
  cases n with
  | zero => exact h.elim
  | succ n =>
    rcases h with h | ⟨es, h, hx⟩
    · exact h.elim
    · rcases h with h | h
      · cases h
        exact ⟨n, rfl, hx⟩
      · cases h
theorem Wl.pu {k n : Nat} {d : D} (h : Wl k n d) : d.pu = true := by
  induction n generalizing d with
  | zero => cases d <;> first | rfl | exact h.elim
  | succ n ih =>
    rcases h with h | ⟨ds, h, hx⟩
    · cases d <;> first | rfl | exact h.elim
    · have q : D.pus ds = true := pus_iff.mpr fun x m => ih (hx x m)
      rcases h with rfl | rfl
      · exact q
      · exact q
/-- how much there is in it -/
def wt : D → Nat
  | .int i => i.natAbs.log2 + 2
  | .str s => max 10 s.length
  | .tup ds => go ds + 1
  | .lst ds => go ds + 1
  | _ => 1
where go : List D → Nat
  | [] => 0
  | d :: ds => wt d + 1 + go ds
def numB : D → Bool
  | .int i => decide (0 ≤ i)
  | _ => false
@[simp] theorem ev_lenS {s : Str} {S : Store} (h : s.length ≤ 10000000) : oLen [.str s] S = ret (.int s.length) S := by
  show (match lenD S (.str s) with
    | some n => ret (D.int n) S
    | none => none) = _
  simp only [lenD]
  rw [if_pos (show s.length ≤ line from h)]
end Pv
namespace Pv
open PySem PySem.Spec
section
variable {ρ : Env} {S : Store}
theorem ev_eObj {x : Str} {ks : List Str} {F : Fn} {fs : Env → Store → Out (List D)} : eObj x ks F fs ρ S = lz (fs ρ S) fun ds S1 => (match ds with
  | [a, b, c] => lz (F [.tup [a, b, c]] S1) fun _ S2 => ret (.ob x ks [a, b, c]) S2
  | _ => none) := rfl
theorem ev_eGet3 {x n1 n2 n3 : Str} {f : Env → Store → Out D} : eGet3 x n1 n2 n3 f ρ S = lz (f ρ S) fun d S1 => (match d with
  | .ob c ks [a, b, e] => guard' (decide (c = x) && decide (ks = [n1, n2, n3])) (ret (.tup [a, b, e]) S1)
  | _ => none) := rfl
theorem ev_eGet1 {x n : Str} {f : Env → Store → Out D} : eGet1 x n f ρ S = lz (f ρ S) fun d S1 => (match d with
  | .ob c ks ds => (match (ks.zip ds).lookup n with
    | some a => guard' (decide (c = x)) (ret a S1)
    | none => none)
  | _ => none) := rfl
theorem ev_eMeth {x m : Str} {j : Nat} {F : Fn} {dd : List D} {fo : Env → Store → Out D} {fs : Env → Store → Out (List D)} : eMeth x m j F dd fo fs ρ S = lz (fo ρ S) fun d S1 => (match d with
  | .ob c ks es => guard' (decide (c = x) && !ks.contains m) (lz (fs ρ S1) fun ds S2 => guard' (decide (1 + ds.length + dd.length = j)) (F (.ob c ks es :: (ds ++ dd)) S2))
  | _ => none) := rfl
theorem ev_eExt {f : Env → Store → Out D} {fs : Env → Store → Out (List D)} : eExt f fs ρ S = lz (f ρ S) fun x S1 => guard' (isList S1 x) (lz (fs ρ S1) fun ds S2 => oExt x ds S2) := rfl
theorem ev_eChain3 {o o' o'' : D → D → Store → Out D} {fa fb fd fe : Env → Store → Out D} : eChain3 o o' o'' fa fb fd fe ρ S = lz (fa ρ S) fun x S1 => lz (fb ρ S1) fun y S2 => lz (o x y S2) fun d S3 => chJ o' o'' fd fe ρ y d S3 := rfl
theorem ev_chJ {o' o'' : D → D → Store → Out D} {fd fe : Env → Store → Out D} {y w : D} : chJ o' o'' fd fe ρ y w S = (match w with
  | .bl true => lz (fd ρ S) fun z S4 => lz (o' y z S4) fun d S5 => chK o'' fe ρ z d S5
  | .bl false => ret (.bl false) S
  | _ => none) := rfl
theorem ev_eCallMb {F : Fn} {n m : Nat} {dd : List D} {fs fk : Env → Store → Out (List D)} : eCallMb F n m dd fs fk ρ S = lz (fs ρ S) fun ds S1 => lz (fk ρ S1) fun es S2 => guard' (ds.length == n && es.length == m) (F (ds ++ dd ++ es) S2) := rfl
theorem ev_sPut2 {fo fi fo2 fi2 fe : Env → Store → Out D} : sPut2 fo fi fo2 fi2 fe ρ S = lz (fe ρ S) fun d S1 => (match d with
  | .tup [a, b] => lz (fo ρ S1) fun x S2 => lz (fi ρ S2) fun i S3 => (match oPut x i a S3 with
    | some S4 => lz (fo2 ρ S4) fun x2 S5 => lz (fi2 ρ S5) fun i2 S6 => (match oPut x2 i2 b S6 with
      | some S7 => ret (.nx ρ) S7
      | none => none)
    | none => none)
  | _ => none) := rfl
theorem ev_eRepl {y z : Str} {f : Env → Store → Out D} : eRepl y z f ρ S = lz (f ρ S) fun d S1 => (match d with
  | .str x => guard' (decide (x.length + (x.length + 1) * z.length ≤ 16777216)) (ret (.str (Txt.replace x y z)) S1)
  | _ => none) := rfl
end
theorem evo : type_of% @ev_eObj ∧ type_of% @ev_eGet3 ∧ type_of% @ev_eGet1 ∧ type_of% @ev_eMeth ∧ type_of% @ev_eExt ∧ type_of% @ev_eChain3 ∧ type_of% @ev_chJ ∧ type_of% @ev_eCallMb ∧ type_of% @ev_sPut2 ∧ type_of% @ev_eRepl := ⟨@ev_eObj, @ev_eGet3, @ev_eGet1, @ev_eMeth, @ev_eExt, @ev_eChain3, @ev_chJ, @ev_eCallMb, @ev_sPut2, @ev_eRepl⟩
end Pv
namespace Pv
open PySem PySem.Spec
section
variable {ρ : Env} {S : Store} {α : Type} {x cn : Str} {F : Fn} {ks : List Str} {ds es dd : List D} {o : D → D → Store → Out D} {a b d : D} {fl : List (Str × D)}
theorem ev_nEnd : nEnd ρ S fl = ret fl S := rfl
theorem ev_nDrop {f : Env → Store → Out D} {g : Ini} : nDrop f g ρ S fl = lz (f ρ S) fun _ S1 => g ρ S1 fl := rfl
theorem ev_nIf {t : Env → Store → Out Bool} {f : SemS} {g : Ini} : nIf t f g ρ S fl = lz (t ρ S) fun b S1 => if b = true then exF (f ρ S1) else g ρ S1 fl := rfl
theorem ev_nFld {n : Str} {f : Env → Store → Out D} {g : Ini} : nFld n f g ρ S fl = lz (f ρ S) fun d S1 => guard' (!(fl.map (·.1)).contains n && decide (fl.length < 900)) (g ρ S1 (fl ++ [(n, d)])) := rfl
theorem ev_exF {y : Xd} : (exF (exx y S) : Out α) = exx y S := rfl
theorem ev_iniF {n : Nat} {g : Ini} : iniF n g ds S = g (none :: (ds.map some ++ List.replicate (n - 1 - ds.length) none)) S [] := rfl
theorem ev_eNew {m : Nat} {G : List D → Store → Out (List (Str × D))} {fs : Env → Store → Out (List D)} : eNew x m G dd fs ρ S = lz (fs ρ S) fun ds S1 => guard' ((ds ++ dd).length == m) (lz (G (ds ++ dd) S1) (obK x)) := rfl
theorem ev_eNewO {m n1 n2 : Nat} {G : List D → Store → Out (List (Str × D))} {fs fk : Env → Store → Out (List D)} : eNewO x m n1 n2 G fs fk ρ S = lz (fs ρ S) fun ds S1 => lz (fk ρ S1) fun es S2 => guard' (ds.length == n1 && es.length == n2) (guard' ((ds ++ es ++ []).length == m) (lz (G (ds ++ es ++ []) S2) (obK x))) := rfl
theorem ev_obK {p : Str × D} : obK x (p :: fl) S = ret (.ob x ((p :: fl).map (·.1)) ((p :: fl).map (·.2))) S := rfl
theorem ev_eProp {f : Env → Store → Out D} : eProp x F f ρ S = lz (f ρ S) fun d S1 => (match d with
  | .ob c ks ds => guard' (decide (c = x)) (noEx (F [.ob c ks ds] S1))
  | _ => none) := rfl
theorem ev_noEx : noEx (ret d S) = ret d S := rfl
theorem ev_byL : byL x F o (.ob cn ks ds) b S = guard' (decide (cn = x) && okY x S b) (F [.ob cn ks ds, b] S) := rfl
theorem ev_byC : byC x F o (.ob cn ks ds) b S = blO (guard' (decide (cn = x) && okY x S b) (F [.ob cn ks ds, b] S)) := rfl
theorem ev_byR {n : String} (h : tyD S a = some n) : byR x F o a (.ob cn ks ds) S = guard' (decide (cn = x) && tysB.contains n) (F [.ob cn ks ds, a] S) := by
  unfold byR
  rw [h]
theorem ev_blO {b : Bool} : blO (ret (.bl b) S) = ret (.bl b) S := rfl
theorem ev_by1 {want : D → Bool} {o : List D → Store → Out D} : by1 x F want o [.ob cn ks es] S = guard' (decide (cn = x)) (match F [.ob cn ks es] S with
    | some (.ok d, S') => guard' (want d) (some (.ok d, S'))
    | some (.ex y, S') => some (.ex y, S')
    | none => none) := rfl
theorem ev_by1r {want : D → Bool} : (match (ret d S : Out D) with
    | some (.ok d, S') => guard' (want d) (some (.ok d, S'))
    | some (.ex y, S') => some (.ex y, S')
    | none => none) = guard' (want d) (ret d S) := rfl
theorem ev_wBl {b : Bool} : wBl (.bl b) = true := rfl
theorem ev_wStr {s : Str} : wStr (.str s) = true := rfl
theorem ev_okYo : okY x S (.ob cn ks ds) = decide (cn = x) := rfl
theorem okY_ty0 {n : String} (h : tyD S a = some n) (hn : tysB.contains n = true) : okY x S a = true := by
  unfold okY
  cases a with
  | ob c ks ds => cases h
  | _ => simp only [h, hn]
theorem ev_okY1 : okY x S .non = true := by rw [okY_ty0 (n := "NoneType") rfl (by decide)]
theorem ev_okY2 {b : Bool} : okY x S (.bl b) = true := by rw [okY_ty0 (n := "bool") rfl (by decide)]
theorem ev_okY3 {i : Int} : okY x S (.int i) = true := by rw [okY_ty0 (n := "int") rfl (by decide)]
theorem ev_okY4 {i : Str} : okY x S (.str i) = true := by rw [okY_ty0 (n := "str") rfl (by decide)]
theorem ev_okY5 {i : List D} : okY x S (.tup i) = true := by rw [okY_ty0 (n := "tuple") rfl (by decide)]
theorem ev_okY6 {i : List D} : okY x S (.lst i) = true := by rw [okY_ty0 (n := "list") rfl (by decide)]
theorem oIsC_ty {ss : List (Str × Bool)} {n : String} (h : tyD S a = some n) (hn : tysB.contains n = true) : oIsC ss a S = ret (.bl false) S := by
  unfold oIsC isC
  cases a with
  | ob c ks ds => cases h
  | _ => simp only [h, hn, if_true]
theorem ev_oIsC1 {ss : List (Str × Bool)} : oIsC ss .non S = ret (.bl false) S := oIsC_ty (n := "NoneType") rfl (by decide)
theorem ev_oIsC2 {ss : List (Str × Bool)} {b : Bool} : oIsC ss (.bl b) S = ret (.bl false) S := oIsC_ty (n := "bool") rfl (by decide)
theorem ev_oIsC3 {ss : List (Str × Bool)} {b : Int} : oIsC ss (.int b) S = ret (.bl false) S := oIsC_ty (n := "int") rfl (by decide)
theorem ev_oIsC4 {ss : List (Str × Bool)} {b : Str} : oIsC ss (.str b) S = ret (.bl false) S := oIsC_ty (n := "str") rfl (by decide)
theorem ev_oIsC5 {ss : List (Str × Bool)} {b : List D} : oIsC ss (.tup b) S = ret (.bl false) S := oIsC_ty (n := "tuple") rfl (by decide)
theorem ev_oIsC6 {ss : List (Str × Bool)} {b : List D} : oIsC ss (.lst b) S = ret (.bl false) S := oIsC_ty (n := "list") rfl (by decide)
theorem ev_oBool1 {i : Int} : oBool [.int i] S = ret (.bl (i != 0)) S := rfl
theorem ev_oBool2 {b : Bool} : oBool [.bl b] S = ret (.bl b) S := rfl
end
theorem evv : type_of% @ev_nEnd ∧ type_of% @ev_nDrop ∧ type_of% @ev_nIf ∧ type_of% @ev_nFld ∧ type_of% @ev_exF ∧ type_of% @ev_iniF ∧ type_of% @ev_eNew ∧ type_of% @ev_eNewO ∧ type_of% @ev_obK ∧ type_of% @ev_eProp ∧ type_of% @ev_noEx ∧ type_of% @ev_byL ∧ type_of% @ev_byC ∧ type_of% @ev_blO ∧ type_of% @ev_by1 ∧ type_of% @ev_by1r ∧ type_of% @ev_wBl ∧ type_of% @ev_wStr ∧ type_of% @ev_okYo ∧ type_of% @ev_okY1 ∧ type_of% @ev_okY2 ∧ type_of% @ev_okY3 ∧ type_of% @ev_okY4 ∧ type_of% @ev_okY5 ∧ type_of% @ev_okY6 ∧ type_of% @ev_oIsC1 ∧ type_of% @ev_oIsC2 ∧ type_of% @ev_oIsC3 ∧ type_of% @ev_oIsC4 ∧ type_of% @ev_oIsC5 ∧ type_of% @ev_oIsC6 ∧ type_of% @ev_oBool1 ∧ type_of% @ev_oBool2 :=
  ⟨@ev_nEnd, @ev_nDrop, @ev_nIf, @ev_nFld, @ev_exF, @ev_iniF, @ev_eNew, @ev_eNewO, @ev_obK, @ev_eProp, @ev_noEx, @ev_byL, @ev_byC, @ev_blO, @ev_by1, @ev_by1r, @ev_wBl, @ev_wStr, @ev_okYo, @ev_okY1, @ev_okY2, @ev_okY3, @ev_okY4, @ev_okY5, @ev_okY6, @ev_oIsC1, @ev_oIsC2, @ev_oIsC3, @ev_oIsC4, @ev_oIsC5, @ev_oIsC6, @ev_oBool1, @ev_oBool2⟩
/-- a comprehension over a list of the store that its turns do not change -/
theorem compL_cell {α : Type} {tg : Tg} {fe : Env → Store → Out D} {j : Nat} {ρ : Env} {S : Store} {f g : α → D} {xs : List α} (hj : S[j]? = some (.lst (xs.map f))) (h : ∀ x ∈ xs, ∃ ρ1, setT tg (f x) ρ = some ρ1 ∧ fe ρ1 S = ret (g x) S) (hl : xs.length ≤ line) :
    ∀ (m k : Nat) (acc : List D), k ≤ xs.length → acc.length = k → xs.length - k < m → compL tg none fe (.seq (.cell j)) ρ m k acc S = ret (acc ++ (xs.drop k).map g) S
  | 0, _, _, _, _, hm => absurd hm (Nat.not_lt_zero _)
  | m + 1, k, acc, hk, ha, hm => by
    have e : (Src.seq (.cell j)).at_ S k = some ((xs.map f)[k]?) := by
      show (match asL S (.cell j) with
        | some ds => some ds[k]?
        | none => none) = _
      have : asL S (.cell j) = some (xs.map f) := by rw [ev_asLC, hj]
      rw [this]
    unfold compL
    rw [e]
    by_cases q : k < xs.length
    · obtain ⟨ρ1, h1, h2⟩ := h xs[k] (List.getElem_mem q)
      have e2 : (xs.map f)[k]? = some (f xs[k]) := by rw [List.getElem?_map, List.getElem?_eq_getElem q]; rfl
      rw [e2]
      have h3 : decide (acc.length < line) = true := decide_eq_true (by omega)
      have ih := compL_cell hj h hl m (k + 1) (acc ++ [g xs[k]]) q (by simp [ha]) (by omega)
      have h4 : (match setT tg (f xs[k]) ρ with
        | some ρ1 => bndN (cndE none ρ1 S) fun b S1 => if b then bndN (fe ρ1 S1) fun x S2 => guard' (decide (acc.length < line)) (compL tg none fe (.seq (.cell j)) ρ m (k + 1) (acc ++ [x]) S2) else compL tg none fe (.seq (.cell j)) ρ m (k + 1) acc S1
        | none => none) = compL tg none fe (.seq (.cell j)) ρ m (k + 1) (acc ++ [g xs[k]]) S := by
        rw [h1]
        show bndN (fe ρ1 S) (fun x S2 => guard' (decide (acc.length < line)) (compL tg none fe (.seq (.cell j)) ρ m (k + 1) (acc ++ [x]) S2)) = _
        rw [h2]
        show guard' (decide (acc.length < line)) (compL tg none fe (.seq (.cell j)) ρ m (k + 1) (acc ++ [g xs[k]]) S) = _
        rw [h3]
        rfl
      refine h4.trans (ih.trans ?_)
      rw [List.drop_eq_getElem_cons q, List.map_cons, List.append_assoc]
      rfl
    · have q2 : (xs.map f)[k]? = none := List.getElem?_eq_none (by simpa using q)
      rw [q2, List.drop_eq_nil_of_le (by omega)]
      simp
end Pv
namespace K23
open PySem PySem.Spec Pv
/-- one number is drawn -/
theorem e_draw {t : Tp} {R : Store} {m : Int} (hS : okS R) (hc : t.ct < 1048576) (hm : 0 < m) (hm2 : m < 2147483648) : ∃ (v : Nat) (t' : Tp), F_law_draw [.cell 0, .int m] (t.c :: R) = ret (.int v) (t'.c :: R) ∧ (v : Int) < m ∧ t'.ct ≤ t.ct + 1 := by
  have out : ∀ (x : Int) (t' : Tp), F_law_draw [.cell 0, .int m] (t.c :: R) = ret (.int (x % m)) (t'.c :: R) → t'.ct ≤ t.ct + 1 → ∃ (v : Nat) (t' : Tp), F_law_draw [.cell 0, .int m] (t.c :: R) = ret (.int v) (t'.c :: R) ∧ (v : Int) < m ∧ t'.ct ≤ t.ct + 1 := fun x t' e h => by
    have h0 := Int.emod_nonneg x (show m ≠ 0 by omega)
    have h1 := Int.emod_lt_of_pos x hm
    refine ⟨(x % m).toNat, t', ?_, by omega, h⟩
    rw [Int.toNat_of_nonneg h0]
    exact e
  have mk : ∀ (d : D) (t' : Tp), B_law_draw [some (.cell 0), some (.int m), none, none, none, none] (t.c :: R) = ret (.rt d) (t'.c :: R) → d.pu = true → F_law_draw [.cell 0, .int m] (t.c :: R) = ret d (t'.c :: R) := fun d t' h hd => def_st (b := false) (nl := 6) (ds := [.cell 0, .int m]) h hd hS.tp rfl
  by_cases hr : 0 < t.re
  · refine out t.re ⟨t.ns, t.sp, t.re / m, t.ct + 1⟩ (mk _ _ ?_ rfl) (Nat.le_refl _)
    simp (disch := first | assumption | (simp only [Pv.evl]; omega) | omega | fail) only [Pv.evs0, Pv.evs1, Pv.evs2, Pv.evs3, List.reduceReplicate, reduceIte, Nat.reduceAdd, Nat.reduceSub, Nat.reduceBEq, String.reduceEq, Int.reduceNeg, Int.reduceAdd, Int.reduceSub, B_law_draw, Tp.c, hr]
    rfl
  · have key : ∀ w : Int, (if t.ns = [] then (53 : Int) else (t.ns[t.sp % t.ns.length]?).getD 0) = w → ∃ (x : Int) (t' : Tp), B_law_draw [some (.cell 0), some (.int m), none, none, none, none] (t.c :: R) = ret (.rt (.int (x % m))) (t'.c :: R) ∧ t'.ct ≤ t.ct + 1 := fun w hw => by
      have hn : ∀ (ρ : Pv.Env) (k : Int) (S : Store), S = Cell.lst [.lst (t.ns.map D.int), .int ((t.sp : Int) + 1), .int t.re, .int ((t.ct : Int) + 1)] :: R → ρ[0]? = some (some (.cell 0)) → ρ[3]? = some (some (.int t.sp)) → (eIf (eTru (eBin oNe (eBin oIx (eVar 0) (eC (.int 0))) (eLst eNil))) (eBin oIx (eBin oIx (eVar 0) (eC (.int 0))) (eBin oMod (eBl oInt (eCons (eVar 3) eNil)) (eBl oLen (eCons (eBin oIx (eVar 0) (eC (.int 0))) eNil)))) (eC (.int 53))) ρ S = ret (.int w) S := by
        rintro ρ k S rfl h0 h3
        by_cases q : t.ns = []
        · rw [if_pos q] at hw
          subst hw
          simp (disch := first | assumption | (simp only [Pv.evl]; omega) | omega | fail) only [Pv.evs0, Pv.evs1, Pv.evs2, Pv.evs3, List.reduceReplicate, reduceIte, Nat.reduceAdd, Nat.reduceSub, Nat.reduceBEq, String.reduceEq, Int.reduceNeg, Int.reduceAdd, Int.reduceSub, h0, h3, q]
        · rw [if_neg q] at hw
          have hl : 0 < t.ns.length := List.length_pos_iff.mpr q
          have hm := Nat.mod_lt t.sp hl
          rw [List.getElem?_eq_getElem hm] at hw
          have e : (t.sp : Int) % (t.ns.length : Int) = ((t.sp % t.ns.length : Nat) : Int) := by omega
          simp (disch := first | assumption | (simp only [Pv.evl]; omega) | omega | fail) only [Pv.evs0, Pv.evs1, Pv.evs2, Pv.evs3, List.reduceReplicate, reduceIte, Nat.reduceAdd, Nat.reduceSub, Nat.reduceBEq, String.reduceEq, Int.reduceNeg, Int.reduceAdd, Int.reduceSub, h0, h3, q, e]
          rw [List.getElem?_eq_getElem hm]
          simp at hw
          simp [hw]
      have c1 := lmS (i := 48017) (j := (t.ct : Int) + 1) (by omega) (by omega)
      have c2 := lmS (i := 8111) (j := (t.ct : Int) + 1) (by omega) (by omega)
      have c3 := lmS (i := 8111 * ((t.ct : Int) + 1)) (j := (t.ct : Int) + 1) (by omega) (by omega)
      have hq : (0 : Int) ≤ 8111 * ((t.ct : Int) + 1) * ((t.ct : Int) + 1) ∧ 8111 * ((t.ct : Int) + 1) * ((t.ct : Int) + 1) < 8111 * 1048577 * 1048577 := by
        have h1 : (t.ct : Int) + 1 < 1048577 := by omega
        have h2 : 0 ≤ (t.ct : Int) + 1 := by omega
        refine ⟨Int.mul_nonneg (by omega) h2, ?_⟩
        have h3 : 8111 * ((t.ct : Int) + 1) < 8111 * 1048577 := by omega
        exact Int.lt_of_le_of_lt (Int.mul_le_mul_of_nonneg_right (Int.le_of_lt h3) h2) (by omega)
      generalize he : 8111 * ((t.ct : Int) + 1) * ((t.ct : Int) + 1) = sq at hq
      rw [B_law_draw, seq_nx (ρ' := [some (.cell 0), some (.int m), none, none, none, none]) (S' := Cell.lst [.lst (t.ns.map D.int), .int t.sp, .int t.re, .int ((t.ct : Int) + 1)] :: R) (by simp (disch := first | assumption | (simp only [Pv.evl]; omega) | omega | fail) only [Pv.evs0, Pv.evs1, Pv.evs2, Pv.evs3, List.reduceReplicate, reduceIte, Nat.reduceAdd, Nat.reduceSub, Nat.reduceBEq, String.reduceEq, Int.reduceNeg, Int.reduceAdd, Int.reduceSub, Tp.c]), seq_nx (ρ' := [some (.cell 0), some (.int m), none, none, none, none]) (S' := Cell.lst [.lst (t.ns.map D.int), .int t.sp, .int t.re, .int ((t.ct : Int) + 1)] :: R) (by simp (disch := first | assumption | (simp only [Pv.evl]; omega) | omega | fail) only [Pv.evs0, Pv.evs1, Pv.evs2, Pv.evs3, List.reduceReplicate, reduceIte, Nat.reduceAdd, Nat.reduceSub, Nat.reduceBEq, String.reduceEq, Int.reduceNeg, Int.reduceAdd, Int.reduceSub, hr]), seq_nx (ρ' := [some (.cell 0), some (.int m), none, some (.int t.sp), none, none]) (S' := Cell.lst [.lst (t.ns.map D.int), .int t.sp, .int t.re, .int ((t.ct : Int) + 1)] :: R) (by simp (disch := first | assumption | (simp only [Pv.evl]; omega) | omega | fail) only [Pv.evs0, Pv.evs1, Pv.evs2, Pv.evs3, List.reduceReplicate, reduceIte, Nat.reduceAdd, Nat.reduceSub, Nat.reduceBEq, String.reduceEq, Int.reduceNeg, Int.reduceAdd, Int.reduceSub]), seq_nx (ρ' := [some (.cell 0), some (.int m), none, some (.int t.sp), none, none]) (S' := Cell.lst [.lst (t.ns.map D.int), .int ((t.sp : Int) + 1), .int t.re, .int ((t.ct : Int) + 1)] :: R) (by simp (disch := first | assumption | (simp only [Pv.evl]; omega) | omega | fail) only [Pv.evs0, Pv.evs1, Pv.evs2, Pv.evs3, List.reduceReplicate, reduceIte, Nat.reduceAdd, Nat.reduceSub, Nat.reduceBEq, String.reduceEq, Int.reduceNeg, Int.reduceAdd, Int.reduceSub]), seq_nx (ρ' := [some (.cell 0), some (.int m), none, some (.int t.sp), some (.int w), none]) (S' := Cell.lst [.lst (t.ns.map D.int), .int ((t.sp : Int) + 1), .int t.re, .int ((t.ct : Int) + 1)] :: R) (by rw [ev_sSet, hn _ 0 _ rfl rfl rfl]; rfl)]
      by_cases q : 1000000000000000000 ≤ w ∧ t.sp < t.ns.length
      · refine ⟨w, ⟨t.ns, t.sp + 1, w / m, t.ct + 1⟩, ?_, Nat.le_refl _⟩
        have e18 : (10 : Int) ^ (Int.toNat 18) = 1000000000000000000 := rfl
        simp (disch := first | assumption | (simp only [Pv.evl]; omega) | omega | fail) only [Pv.evs0, Pv.evs1, Pv.evs2, Pv.evs3, List.reduceReplicate, reduceIte, Nat.reduceAdd, Nat.reduceSub, Nat.reduceBEq, String.reduceEq, Int.reduceNeg, Int.reduceAdd, Int.reduceSub, e18, q.1, q.2, Tp.c]
        rw [if_pos (by omega)]
        rfl
      · refine ⟨((w % 1999999927 + 48017 * ((t.ct : Int) + 1) + 173) ^ Int.toNat 3 % 2147483423 + 8111 * ((t.ct : Int) + 1) * ((t.ct : Int) + 1) + 67) ^ Int.toNat 5 % 2147483477 / 64, ⟨t.ns, t.sp + 1, t.re, t.ct + 1⟩, ?_, Nat.le_refl _⟩
        have e18 : (10 : Int) ^ (Int.toNat 18) = 1000000000000000000 := rfl
        have e : (t.sp : Int) + 1 = ((t.sp + 1 : Nat) : Int) := by omega
        by_cases q1 : 1000000000000000000 ≤ w
        · have q2 : ¬ t.sp < t.ns.length := fun h => q ⟨q1, h⟩
          have q2 : ¬ (t.sp : Int) < t.ns.length := by omega
          simp (disch := first | assumption | (simp only [Pv.evl]; omega) | omega | fail) only [Pv.evs0, Pv.evs1, Pv.evs2, Pv.evs3, List.reduceReplicate, reduceIte, Nat.reduceAdd, Nat.reduceSub, Nat.reduceBEq, String.reduceEq, Int.reduceNeg, Int.reduceAdd, Int.reduceSub, e18, q1, q2, Tp.c]
          rfl
        · simp (disch := first | assumption | (simp only [Pv.evl]; omega) | omega | fail) only [Pv.evs0, Pv.evs1, Pv.evs2, Pv.evs3, List.reduceReplicate, reduceIte, Nat.reduceAdd, Nat.reduceSub, Nat.reduceBEq, String.reduceEq, Int.reduceNeg, Int.reduceAdd, Int.reduceSub, e18, q1, Tp.c]
          rfl
    obtain ⟨x, t', e, h⟩ := key _ rfl
    exact out x t' (mk _ _ e rfl) h
end K23
namespace K23
open PySem PySem.Spec Pv
/-- a number or none -/
def aD : Option Nat → D
  | none => .non
  | some n => .int n
theorem aD_pu (a : Option Nat) : (aD a).pu = true := by cases a <;> rfl
abbrev W (a : Option Nat) : D := .ob "Width" ["_number"] [aD a]
theorem W_pu (a : Option Nat) : (W a).pu = true := by cases a <;> rfl
theorem look1 {d : D} : ((["_number"] : List Str).zip [d]).lookup ("_number" : Str) = some d := rfl
theorem e_is_integer {S : Store} (hS : okS S) {i : Int} : F_is_integer [.int i] S = ret (.bl true) S := def_eq (by simp (disch := first | assumption | (simp only [Pv.evl]; omega) | omega | fail) only [Pv.evs0, Pv.evs1, Pv.evs2, Pv.evs3, List.reduceReplicate, reduceIte, Nat.reduceAdd, Nat.reduceSub, Nat.reduceBEq, String.reduceEq, Int.reduceNeg, Int.reduceAdd, Int.reduceSub, B_is_integer]) rfl hS
theorem e_is_number {S : Store} (hS : okS S) {i : Int} : F_is_number [.int i] S = ret (.bl (decide (0 ≤ i))) S := def_eq (by simp (disch := first | assumption | (simp only [Pv.evl]; omega) | omega | fail) only [Pv.evs0, Pv.evs1, Pv.evs2, Pv.evs3, List.reduceReplicate, reduceIte, Nat.reduceAdd, Nat.reduceSub, Nat.reduceBEq, String.reduceEq, Int.reduceNeg, Int.reduceAdd, Int.reduceSub, B_is_number, e_is_integer hS]) rfl hS
theorem num_dg (n : Nat) : ∀ c ∈ TL.numL n, 48 ≤ c ∧ c ≤ 57 := by
  induction n using Nat.strongRecOn with
  | _ n ih =>
    by_cases h : n < 10
    · rw [TL.numL_lt h]
      intro c hc
      have : c = 48 + n := by simpa using hc
      omega
    · have h10 : 10 ≤ n := by omega
      rw [TL.numL_step h10]
      have hm := Nat.mod_lt n (show 0 < 10 by decide)
      intro c hc
      rcases List.mem_append.mp hc with hc | hc
      · exact ih (n / 10) (by omega) c hc
      · have : c = 48 + n % 10 := by simpa using hc
        omega
theorem tx_small {n : Nat} : ∀ c ∈ (Str.ofString (toString (n : Int))).cps.toList, c < 128 := fun c hc => by
  rw [SX.num_S n] at hc
  have := num_dg n c (by simpa [SX.S] using hc)
  omega
theorem tx_len {n : Nat} (h : n < 10 ^ 60) : (Str.ofString (toString (n : Int))).length ≤ 61 := by
  rw [ofString_length]
  exact int_text_length_le10 (k := 60) (by decide) (by omega)
theorem Fi.strW {n b : Nat} {s : Str} (h : ∀ c ∈ s.cps.toList, c < 128) (hb : s.length ≤ b) : Fi n b (.str s) := by
  refine ⟨⟨.str s, rfl, rfl, rfl, Nat.zero_le _, ?_, rfl, ?_⟩, hb⟩
  · simp only [PyData.leavesShort, List.all_eq_true, decide_eq_true_eq]
    exact fun c m => Nat.lt_trans (h c m) (by decide)
  · show PyData.strOk s = true
    unfold PyData.strOk
    rw [Array.all_eq_true']
    intro c hc
    have := h c (by simpa using hc)
    simp only [decide_eq_true_eq]
    omega
theorem log_d {i : Nat} (h : i < 10 ^ 60) : ((i : Nat) : Int).natAbs.log2 < 1920 := by
  have : ((i : Nat) : Int).natAbs = i := by omega
  rw [this]
  by_cases z : i = 0
  · rw [z]; decide
  · have h2 : i < 2 ^ 1920 := Nat.lt_of_lt_of_le h (by decide)
    exact (Nat.log2_lt z).mpr h2
theorem str_int {n : Nat} (h : n < 10 ^ 60) {S : Store} : oStr [.int n] S = ret (.str (Str.ofString (toString (n : Int)))) S := by
  have e : oStr [.int n] S = guard' (decide (((n : Nat) : Int).natAbs.log2 < 1920)) (ret (.str (Str.ofString (toString (n : Int)))) S) := rfl
  rw [e, decide_eq_true (log_d h)]
  rfl
theorem str_str {s : Str} {S : Store} : oStr [.str s] S = ret (.str s) S := rfl
theorem ev_m1 {o : D → D → Store → Out D} {f g : Pv.Env → Store → Out D} {ρ : Pv.Env} {S : Store} : eM1 o f g ρ S = lz (f ρ S) fun x S1 => guard' (isStr x) (lz (g ρ S1) fun y S2 => o x y S2) := rfl
theorem isSt {s : Str} : isStr (.str s) = true := rfl
theorem e_text {S : Store} (hS : okS S) {n : Nat} (h : n < 10 ^ 60) : F_number_text [.int n] S = ret (.str (Str.ofString (toString (n : Int)))) S := by
  have lt : ¬ ((1000000000000000000000000000000000000000000000000000000000000 : Int) ≤ ((n : Nat) : Int)) := by omega
  have si := str_int (S := S ++ [.lst []]) h
  have wl (ρ : Pv.Env) (T : Store) (m : Nat) (b : SemS) (hr : ρ[1]? = some (some (.int n))) : whileL (eTru (eBin oGe (eVar 1) (eC (.int 1000000000000000000000000000000000000000000000000000000000000)))) b (m + 1) ρ T = ret (.nx ρ) T := by
    have t : eTru (eBin oGe (eVar 1) (eC (.int 1000000000000000000000000000000000000000000000000000000000000))) ρ T = ret false T := by
      simp (disch := first | assumption | (simp only [Pv.evl]; omega) | omega | fail) only [Pv.evs0, Pv.evs1, Pv.evs2, Pv.evs3, List.reduceReplicate, reduceIte, Nat.reduceAdd, Nat.reduceSub, Nat.reduceBEq, String.reduceEq, Int.reduceNeg, Int.reduceAdd, Int.reduceSub, hr, lt]
      try simp [lt]
    unfold whileL
    rw [t]
    rfl
  have w1 := wl [some (.int n), some (.int n), some (.cell S.length)] (S ++ [.lst []]) 999999 L_number_text_0 rfl
  generalize hx : Str.ofString (toString (n : Int)) = x at si
  have hl : x.length ≤ 61 := by rw [← hx]; exact tx_len h
  have rv1 : oRev (.cell S.length) (S ++ [.lst [.str x]]) = ret (.lst [.str x]) (S ++ [.lst [.str x]]) := by
    have e : asL (S ++ [Cell.lst [.str x]]) (.cell S.length) = some [.str x] := by unfold asL; simp
    unfold oRev
    simp only [e]
    rfl
  have jn : oJoin (.str "") (.lst [.str x]) (S ++ [.lst [.str x]]) = ret (.str x) (S ++ [.lst [.str x]]) := by
    have z : (Str.ofString "").length = 0 := by decide +kernel
    have e : oJoin (.str "") (.lst [.str x]) (S ++ [.lst [.str x]]) = guard' (decide (x.length + 0 + 1 * (Str.ofString "").length ≤ line)) (ret (.str (Txt.join "" [x])) (S ++ [.lst [.str x]])) := rfl
    rw [e, z, decide_eq_true (show x.length + 0 + 1 * 0 ≤ line from Nat.le_trans (by omega : _ ≤ 100) (by decide))]
    rfl
  refine def_to (T := [.lst [.str x]]) ?_ rfl hS (okS.nil.cons rfl)
  simp (disch := first | assumption | (simp only [Pv.evl]; omega) | omega | fail) only [Pv.evs0, Pv.evs1, Pv.evs2, Pv.evs3, List.reduceReplicate, reduceIte, Nat.reduceAdd, Nat.reduceSub, Nat.reduceBEq, String.reduceEq, Int.reduceNeg, Int.reduceAdd, Int.reduceSub, B_number_text, w1, si, rv1, jn, ev_m1, isSt]
theorem eqO {S : Store} {n : Nat} : oNe (aD none) (.int n) S = ret (.bl true) S := rfl
theorem e_init {S : Store} (hS : okS S) {a : Option Nat} : F_Width___init__ [aD a] S = ret [(Str.ofString "_number", aD a)] S := by
  unfold F_Width___init__
  cases a with
  | none => simp (disch := first | assumption | (simp only [Pv.evl]; omega) | omega | fail) only [Pv.evs0, Pv.evs1, Pv.evs2, Pv.evs3, List.reduceReplicate, reduceIte, Nat.reduceAdd, Nat.reduceSub, Nat.reduceBEq, String.reduceEq, Int.reduceNeg, Int.reduceAdd, Int.reduceSub, evv, B_Width___init__, aD]; try rfl
  | some n => simp (disch := first | assumption | (simp only [Pv.evl]; omega) | omega | fail) only [Pv.evs0, Pv.evs1, Pv.evs2, Pv.evs3, List.reduceReplicate, reduceIte, Nat.reduceAdd, Nat.reduceSub, Nat.reduceBEq, String.reduceEq, Int.reduceNeg, Int.reduceAdd, Int.reduceSub, evv, B_Width___init__, aD, e_is_number hS]; first | rfl | (simp; rfl)
theorem e_number {S : Store} (hS : okS S) {a : Option Nat} : F_Width_number [W a] S = ret (aD a) S := by
  refine def_eq ?_ (aD_pu a) hS
  simp (disch := first | assumption | (simp only [Pv.evl]; omega) | omega | fail) only [Pv.evs0, Pv.evs1, Pv.evs2, Pv.evs3, List.reduceReplicate, reduceIte, Nat.reduceAdd, Nat.reduceSub, Nat.reduceBEq, String.reduceEq, Int.reduceNeg, Int.reduceAdd, Int.reduceSub, B_Width_number, evo, look1]
theorem ne0 {a : Option Nat} {S : Store} : oNe (aD a) (.int 0) S = ret (.bl (!decide (a = some 0))) S := by
  cases a with
  | none => rfl
  | some n =>
    have e : decide (((n : Nat) : Int) = 0) = decide (some n = some 0) := decide_eq_decide.mpr (by simp)
    show oNe (.int n) (.int 0) S = _
    rw [ev_neI, e]
theorem e_bool {S : Store} (hS : okS S) {a : Option Nat} : F_Width___bool__ [W a] S = ret (.bl (!decide (a = some 0))) S := by
  refine def_eq ?_ rfl hS
  simp (disch := first | assumption | (simp only [Pv.evl]; omega) | omega | fail) only [Pv.evs0, Pv.evs1, Pv.evs2, Pv.evs3, List.reduceReplicate, reduceIte, Nat.reduceAdd, Nat.reduceSub, Nat.reduceBEq, String.reduceEq, Int.reduceNeg, Int.reduceAdd, Int.reduceSub, B_Width___bool__, evo, evv, look1, ne0]
/-- what is written of it -/
def wt : Option Nat → Str
  | none => "endless"
  | some n => Str.ofString (toString (n : Int))
theorem isN {a : Option Nat} : (aD a).isNon = decide (a = none) := by cases a <;> rfl
/-- small enough -/
def Sm (a : Option Nat) : Prop := ∀ n, a = some n → n < 10 ^ 60
theorem e_str {S : Store} (hS : okS S) {a : Option Nat} (h : Sm a) : F_Width___str__ [W a] S = ret (.str (wt a)) S := by
  refine def_eq ?_ rfl hS
  cases a with
  | none => simp (disch := first | assumption | (simp only [Pv.evl]; omega) | omega | fail) only [Pv.evs0, Pv.evs1, Pv.evs2, Pv.evs3, List.reduceReplicate, reduceIte, Nat.reduceAdd, Nat.reduceSub, Nat.reduceBEq, String.reduceEq, Int.reduceNeg, Int.reduceAdd, Int.reduceSub, B_Width___str__, evo, look1, isN, wt]
  | some n =>
    have t := e_text hS (h n rfl)
    have e : aD (some n) = .int n := rfl
    simp (disch := first | assumption | (simp only [Pv.evl]; omega) | omega | fail) only [Pv.evs0, Pv.evs1, Pv.evs2, Pv.evs3, List.reduceReplicate, reduceIte, Nat.reduceAdd, Nat.reduceSub, Nat.reduceBEq, String.reduceEq, Int.reduceNeg, Int.reduceAdd, Int.reduceSub, B_Width___str__, evo, look1, isN, wt, e, t, str_str]
end K23
namespace K23
open PySem PySem.Spec Pv
/-- a value that is no Width -/
inductive Od : D → Prop
  | non : Od .non
  | bl (b : Bool) : Od (.bl b)
  | int (i : Int) : Od (.int i)
  | str (s : Str) : Od (.str s)
  | tup {ds : List D} (h : D.pus ds = true) : Od (.tup ds)
  | lst {ds : List D} (h : D.pus ds = true) : Od (.lst ds)
theorem Od.pu {d : D} (h : Od d) : d.pu = true := by cases h <;> first | rfl | assumption
def numB : D → Bool
  | .int i => decide (0 ≤ i)
  | _ => false
theorem isi_int {d : D} (h : Od d) {S : Store} : oIsi "int" d S = ret (.bl (match d with | .int _ => true | .bl _ => true | _ => false)) S := by cases h <;> rfl
theorem isi_bool {d : D} (h : Od d) {S : Store} : oIsi "bool" d S = ret (.bl (match d with | .bl _ => true | _ => false)) S := by cases h <;> rfl
theorem e_isi {S : Store} (hS : okS S) {d : D} (h : Od d) : F_is_integer [d] S = ret (.bl (match d with | .int _ => true | _ => false)) S := by
  refine def_eq ?_ (by cases h <;> rfl) hS
  have a := isi_int h (S := S)
  have b := isi_bool h (S := S)
  cases h <;> simp (disch := first | assumption | (simp only [Pv.evl]; omega) | omega | fail) only [Pv.evs0, Pv.evs1, Pv.evs2, Pv.evs3, List.reduceReplicate, reduceIte, Nat.reduceAdd, Nat.reduceSub, Nat.reduceBEq, String.reduceEq, Int.reduceNeg, Int.reduceAdd, Int.reduceSub, B_is_integer, a, b]
theorem e_isn {S : Store} (hS : okS S) {d : D} (h : Od d) : F_is_number [d] S = ret (.bl (numB d)) S := by
  refine def_eq ?_ (by cases h <;> rfl) hS
  have a := e_isi hS h
  cases h <;> simp (disch := first | assumption | (simp only [Pv.evl]; omega) | omega | fail) only [Pv.evs0, Pv.evs1, Pv.evs2, Pv.evs3, List.reduceReplicate, reduceIte, Nat.reduceAdd, Nat.reduceSub, Nat.reduceBEq, String.reduceEq, Int.reduceNeg, Int.reduceAdd, Int.reduceSub, B_is_number, a, numB]
def leW (a b : Option Nat) : Bool := match b with
  | none => true
  | some m => (match a with
    | none => false
    | some n => decide (n ≤ m))
theorem eqW {a b : Option Nat} {S : Store} : oEq (aD a) (aD b) S = ret (.bl (decide (a = b))) S := by
  cases a with
  | none => cases b with
    | none => rfl
    | some m => rfl
  | some n => cases b with
    | none => rfl
    | some m =>
      have e : decide (((n : Nat) : Int) = ((m : Nat) : Int)) = decide (some n = some m) := decide_eq_decide.mpr (by simp [Int.ofNat_inj])
      show oEq (.int n) (.int m) S = _
      rw [ev_eqI, e]
theorem ss1 {S : Store} {a : Option Nat} : oIsC ss_Width (W a) S = ret (.bl true) S := rfl
theorem ssO {S : Store} {d : D} (h : Od d) : oIsC ss_Width d S = ret (.bl false) S := by
  cases h
  · exact ev_oIsC1
  · exact ev_oIsC2
  · exact ev_oIsC3
  · exact ev_oIsC4
  · exact ev_oIsC5
  · exact ev_oIsC6
theorem e_eq {S : Store} (hS : okS S) {a b : Option Nat} : F_Width___eq__ [W a, W b] S = ret (.bl (decide (a = b))) S := by
  refine def_eq ?_ rfl hS
  have q := eqW (a := a) (b := b) (S := S)
  simp (disch := first | assumption | (simp only [Pv.evl]; omega) | omega | fail) only [Pv.evs0, Pv.evs1, Pv.evs2, Pv.evs3, List.reduceReplicate, reduceIte, Nat.reduceAdd, Nat.reduceSub, Nat.reduceBEq, String.reduceEq, Int.reduceNeg, Int.reduceAdd, Int.reduceSub, B_Width___eq__, evo, look1, ss1, q]
theorem e_eqO {S : Store} (hS : okS S) {a : Option Nat} {d : D} (h : Od d) : F_Width___eq__ [W a, d] S = ret (.bl false) S := by
  refine def_eq ?_ rfl hS
  simp (disch := first | assumption | (simp only [Pv.evl]; omega) | omega | fail) only [Pv.evs0, Pv.evs1, Pv.evs2, Pv.evs3, List.reduceReplicate, reduceIte, Nat.reduceAdd, Nat.reduceSub, Nat.reduceBEq, String.reduceEq, Int.reduceNeg, Int.reduceAdd, Int.reduceSub, B_Width___eq__, evo, look1, ssO h]
theorem e_le {S : Store} (hS : okS S) {a b : Option Nat} : F_Width___le__ [W a, W b] S = ret (.bl (leW a b)) S := by
  refine def_eq ?_ rfl hS
  cases a <;> cases b <;> simp (disch := first | assumption | (simp only [Pv.evl]; omega) | omega | fail) only [Pv.evs0, Pv.evs1, Pv.evs2, Pv.evs3, List.reduceReplicate, reduceIte, Nat.reduceAdd, Nat.reduceSub, Nat.reduceBEq, String.reduceEq, Int.reduceNeg, Int.reduceAdd, Int.reduceSub, B_Width___le__, evo, look1, ss1, isN, leW, aD, Int.ofNat_le]
theorem e_ge {S : Store} (hS : okS S) {a b : Option Nat} : F_Width___ge__ [W a, W b] S = ret (.bl (leW b a)) S := by
  refine def_eq ?_ rfl hS
  cases a <;> cases b <;> simp (disch := first | assumption | (simp only [Pv.evl]; omega) | omega | fail) only [Pv.evs0, Pv.evs1, Pv.evs2, Pv.evs3, List.reduceReplicate, reduceIte, Nat.reduceAdd, Nat.reduceSub, Nat.reduceBEq, String.reduceEq, Int.reduceNeg, Int.reduceAdd, Int.reduceSub, B_Width___ge__, evo, look1, ss1, isN, leW, aD, Int.ofNat_le]
end K23
namespace K23
open PySem PySem.Spec Pv
def xNo (w : Str) : Xd := ⟨"NotUsable", [("at", .int (-1)), ("word", .str w)]⟩
theorem isN0 : D.isNon .non = true := rfl
theorem isN1 {i : Int} : D.isNon (.int i) = false := rfl
theorem iN {S : Store} (hS : okS S) : F_Width___init__ [.non] S = ret [(Str.ofString "_number", .non)] S := e_init hS (a := none)
theorem iS {S : Store} (hS : okS S) {n : Nat} : F_Width___init__ [.int n] S = ret [(Str.ofString "_number", .int n)] S := e_init hS (a := some n)
theorem e_add {S : Store} (hS : okS S) {a : Option Nat} {n : Nat} : F_Width___add__ [W a, .int n] S = ret (W (a.map (· + n))) S := by
  refine def_eq ?_ (W_pu _) hS
  have i0 := iN hS
  cases a with
  | none => simp (disch := first | assumption | (simp only [Pv.evl]; omega) | omega | fail) only [Pv.evs0, Pv.evs1, Pv.evs2, Pv.evs3, List.reduceReplicate, reduceIte, Nat.reduceAdd, Nat.reduceSub, Nat.reduceBEq, String.reduceEq, Int.reduceNeg, Int.reduceAdd, Int.reduceSub, B_Width___add__, evo, evv, look1, isN0, e_is_number hS, i0, aD]; first | rfl | (simp; rfl)
  | some m =>
    have e : (m : Int) + (n : Int) = ((m + n : Nat) : Int) := by omega
    have i1 := iS hS (n := m + n)
    simp (disch := first | assumption | (simp only [Pv.evl]; omega) | omega | fail) only [Pv.evs0, Pv.evs1, Pv.evs2, Pv.evs3, List.reduceReplicate, reduceIte, Nat.reduceAdd, Nat.reduceSub, Nat.reduceBEq, String.reduceEq, Int.reduceNeg, Int.reduceAdd, Int.reduceSub, B_Width___add__, evo, evv, look1, isN1, e_is_number hS, aD, e, i1]
    first | rfl | (simp; rfl)
theorem e_addO {S : Store} (hS : okS S) {a : Option Nat} {d : D} (h : Od d) (hn : numB d = false) : F_Width___add__ [W a, d] S = exx (xNo "other") S := by
  refine def_ex ?_ rfl hS
  simp (disch := first | assumption | (simp only [Pv.evl]; omega) | omega | fail) only [Pv.evs0, Pv.evs1, Pv.evs2, Pv.evs3, List.reduceReplicate, reduceIte, Nat.reduceAdd, Nat.reduceSub, Nat.reduceBEq, String.reduceEq, Int.reduceNeg, Int.reduceAdd, Int.reduceSub, B_Width___add__, evo, evv, evx, e_isn hS h, hn]
  first | rfl | (simp; rfl)
end K23
namespace K23
open PySem PySem.Spec Pv
theorem okO {d : D} (h : Od d) {S : Store} : okY "Width" S d = true := by
  cases h
  · exact ev_okY1
  · exact ev_okY2
  · exact ev_okY3
  · exact ev_okY4
  · exact ev_okY5
  · exact ev_okY6
theorem tyO {d : D} (h : Od d) {S : Store} : ∃ n, tyD S d = some n ∧ tysB.contains n = true := by
  cases h
  · exact ⟨"NoneType", rfl, by decide⟩
  · exact ⟨"bool", rfl, by decide⟩
  · exact ⟨"int", rfl, by decide⟩
  · exact ⟨"str", rfl, by decide⟩
  · exact ⟨"tuple", rfl, by decide⟩
  · exact ⟨"list", rfl, by decide⟩
/-- x op d, d no Width -/
theorem byLO {F : Fn} {o : D → D → Store → Out D} {a : Option Nat} {d : D} (h : Od d) {S : Store} : byL "Width" F o (W a) d S = F [W a, d] S := by
  rw [ev_byL, okO h]
  rfl
theorem byLW {F : Fn} {o : D → D → Store → Out D} {a b : Option Nat} {S : Store} : byL "Width" F o (W a) (W b) S = F [W a, W b] S := rfl
theorem byRO {F : Fn} {o : D → D → Store → Out D} {a : Option Nat} {d : D} (h : Od d) {S : Store} : byR "Width" F o d (W a) S = F [W a, d] S := by
  obtain ⟨n, h1, h2⟩ := tyO h (S := S)
  rw [ev_byR h1, h2]
  rfl
theorem byCO {F : Fn} {o : D → D → Store → Out D} {a : Option Nat} {d : D} (h : Od d) {S : Store} : byC "Width" F o (W a) d S = blO (F [W a, d] S) := by
  rw [ev_byC, okO h]
  rfl
theorem byCW {F : Fn} {o : D → D → Store → Out D} {a b : Option Nat} {S : Store} : byC "Width" F o (W a) (W b) S = blO (F [W a, W b] S) := rfl
theorem blR {b : Bool} {S : Store} : blO (ret (.bl b) S) = ret (.bl b) S := rfl
theorem e_radd {S : Store} (hS : okS S) {a : Option Nat} {n : Nat} : F_Width___radd__ [W a, .int n] S = ret (W (a.map (· + n))) S := by
  refine def_eq ?_ (W_pu _) hS
  have q := byLO (F := F_Width___add__) (o := oAdd) (a := a) (S := S) (.int n)
  rw [e_add hS] at q
  simp (disch := first | assumption | (simp only [Pv.evl]; omega) | omega | fail) only [Pv.evs0, Pv.evs1, Pv.evs2, Pv.evs3, List.reduceReplicate, reduceIte, Nat.reduceAdd, Nat.reduceSub, Nat.reduceBEq, String.reduceEq, Int.reduceNeg, Int.reduceAdd, Int.reduceSub, B_Width___radd__, q]
theorem e_raddO {S : Store} (hS : okS S) {a : Option Nat} {d : D} (h : Od d) (hn : numB d = false) : F_Width___radd__ [W a, d] S = exx (xNo "other") S := by
  refine def_ex ?_ rfl hS
  have q := byLO (F := F_Width___add__) (o := oAdd) (a := a) (S := S) h
  rw [e_addO hS h hn] at q
  simp (disch := first | assumption | (simp only [Pv.evl]; omega) | omega | fail) only [Pv.evs0, Pv.evs1, Pv.evs2, Pv.evs3, List.reduceReplicate, reduceIte, Nat.reduceAdd, Nat.reduceSub, Nat.reduceBEq, String.reduceEq, Int.reduceNeg, Int.reduceAdd, Int.reduceSub, B_Width___radd__, q, evx]
theorem iA {S : Store} (hS : okS S) {a : Option Nat} : F_Width___init__ [aD a] S = ret [(Str.ofString "_number", aD a)] S := e_init hS
theorem e_and {S : Store} (hS : okS S) {a b : Option Nat} : F_Width___and__ [W a, W b] S = ret (W (if leW a b then a else b)) S := by
  refine def_eq ?_ (W_pu _) hS
  have q := byCW (F := F_Width___le__) (o := oLe) (a := a) (b := b) (S := S)
  rw [e_le hS, blR] at q
  have i1 := iA hS (a := a)
  have i2 := iA hS (a := b)
  cases hb : leW a b <;> rw [hb] at q <;> simp (disch := first | assumption | (simp only [Pv.evl]; omega) | omega | fail) only [Pv.evs0, Pv.evs1, Pv.evs2, Pv.evs3, List.reduceReplicate, reduceIte, Nat.reduceAdd, Nat.reduceSub, Nat.reduceBEq, String.reduceEq, Int.reduceNeg, Int.reduceAdd, Int.reduceSub, B_Width___and__, evo, evv, look1, ss1, q, i1, i2] <;> first | rfl | (simp; rfl)
theorem e_or {S : Store} (hS : okS S) {a b : Option Nat} : F_Width___or__ [W a, W b] S = ret (W (if leW b a then a else b)) S := by
  refine def_eq ?_ (W_pu _) hS
  have q := byCW (F := F_Width___ge__) (o := oGe) (a := a) (b := b) (S := S)
  rw [e_ge hS, blR] at q
  have i1 := iA hS (a := a)
  have i2 := iA hS (a := b)
  cases hb : leW b a <;> rw [hb] at q <;> simp (disch := first | assumption | (simp only [Pv.evl]; omega) | omega | fail) only [Pv.evs0, Pv.evs1, Pv.evs2, Pv.evs3, List.reduceReplicate, reduceIte, Nat.reduceAdd, Nat.reduceSub, Nat.reduceBEq, String.reduceEq, Int.reduceNeg, Int.reduceAdd, Int.reduceSub, B_Width___or__, evo, evv, look1, ss1, q, i1, i2] <;> first | rfl | (simp; rfl)
theorem e_andO {S : Store} (hS : okS S) {a : Option Nat} {d : D} (h : Od d) : F_Width___and__ [W a, d] S = exx (xNo "other") S := by
  refine def_ex ?_ rfl hS
  simp (disch := first | assumption | (simp only [Pv.evl]; omega) | omega | fail) only [Pv.evs0, Pv.evs1, Pv.evs2, Pv.evs3, List.reduceReplicate, reduceIte, Nat.reduceAdd, Nat.reduceSub, Nat.reduceBEq, String.reduceEq, Int.reduceNeg, Int.reduceAdd, Int.reduceSub, B_Width___and__, evv, evx, ssO h]
  first | rfl | (simp; rfl)
theorem e_orO {S : Store} (hS : okS S) {a : Option Nat} {d : D} (h : Od d) : F_Width___or__ [W a, d] S = exx (xNo "other") S := by
  refine def_ex ?_ rfl hS
  simp (disch := first | assumption | (simp only [Pv.evl]; omega) | omega | fail) only [Pv.evs0, Pv.evs1, Pv.evs2, Pv.evs3, List.reduceReplicate, reduceIte, Nat.reduceAdd, Nat.reduceSub, Nat.reduceBEq, String.reduceEq, Int.reduceNeg, Int.reduceAdd, Int.reduceSub, B_Width___or__, evv, evx, ssO h]
  first | rfl | (simp; rfl)
end K23
namespace K23
open PySem PySem.Spec Pv
theorem by1_str {S : Store} (hS : okS S) {a : Option Nat} (h : Sm a) : by1 "Width" F_Width___str__ wStr oStr [W a] S = ret (.str (wt a)) S := by
  rw [ev_by1, e_str hS h]
  rfl
theorem by1_bool {S : Store} (hS : okS S) {a : Option Nat} : by1 "Width" F_Width___bool__ wBl oBool [W a] S = ret (.bl (!decide (a = some 0))) S := by
  rw [ev_by1, e_bool hS]
  rfl
theorem fi_a {a : Option Nat} (h : Sm a) {n b : Nat} : Fi n b (aD a) := by
  cases a with
  | none => exact Fi.non
  | some n =>
    have := h n rfl
    refine Fi.int ?_
    have : 10 ^ 60 < 2 ^ 200 := by decide
    show ((n : Nat) : Int).natAbs < 2 ^ 200
    omega
theorem wt_len {a : Option Nat} (h : Sm a) : (wt a).length ≤ 61 := by
  cases a with
  | none => decide
  | some n => exact tx_len (h n rfl)
theorem fi_wt {a : Option Nat} (h : Sm a) {n : Nat} : Fi n 61 (.str (wt a)) := by
  refine Fi.strW ?_ (wt_len h)
  cases a with
  | none => decide
  | some n => exact tx_small
theorem fi_row {a : Option Nat} (h : Sm a) : Fi 1 (3 * 62) (.lst [aD a, .str (wt a), .bl (!decide (a = some 0))]) := by
  refine Fi.lst (b := 61) (k := 3) (fun d m => ?_) (Nat.le_refl _)
  simp only [List.mem_cons, List.not_mem_nil, or_false] at m
  rcases m with rfl | rfl | rfl
  · exact fi_a h
  · exact fi_wt h
  · exact Fi.bl
theorem e_fits {S : Store} (hS : okS S) {a : Option Nat} (h : Sm a) : F_law_fits [W a, aD a] S = ret (.bl true) S := by
  refine def_eq ?_ rfl hS
  have r := (fi_row h).rep (S := S)
  have b1 := by1_str hS h
  have b2 := by1_bool hS (a := a)
  have n0 := ne0 (a := a) (S := S)
  have nm := e_number hS (a := a)
  cases a with
  | none =>
    simp only [W, aD, wt] at r b1 b2 n0 nm
    simp (disch := first | assumption | (simp only [Pv.evl]; omega) | omega | fail) only [Pv.evs0, Pv.evs1, Pv.evs2, Pv.evs3, List.reduceReplicate, reduceIte, Nat.reduceAdd, Nat.reduceSub, Nat.reduceBEq, String.reduceEq, Int.reduceNeg, Int.reduceAdd, Int.reduceSub, B_law_fits, evv, b1, b2, n0, nm, r, isN0, aD, W]
  | some n =>
    have t := str_int (h n rfl) (S := S)
    simp only [W, aD, wt] at r b1 b2 n0 nm
    simp (disch := first | assumption | (simp only [Pv.evl]; omega) | omega | fail) only [Pv.evs0, Pv.evs1, Pv.evs2, Pv.evs3, List.reduceReplicate, reduceIte, Nat.reduceAdd, Nat.reduceSub, Nat.reduceBEq, String.reduceEq, Int.reduceNeg, Int.reduceAdd, Int.reduceSub, B_law_fits, evv, b1, b2, n0, nm, r, isN1, aD, t, W]
end K23
namespace K23
open PySem PySem.Spec Pv
theorem fi_bls {bs : List Bool} (h : bs.length ≤ 5) : Fi 1 5 (.lst (bs.map D.bl)) := by
  refine (Fi.lst (n := 0) (b := 0) (k := 5) (fun d m => ?_) (by simpa using h)).mono (by decide) (by decide)
  obtain ⟨b, _, rfl⟩ := List.mem_map.mp m
  exact Fi.bl
/-- the two tests of numbers -/
theorem le_n {a b : Option Nat} {S : Store} {ρ : Pv.Env} {i j : Nat} (h1 : ρ[i]? = some (some (aD a))) (h2 : ρ[j]? = some (some (aD b))) : eOr (eBin (oIs false) (eVar j) (eC .non)) (eAnd (eBin (oIs true) (eVar i) (eC .non)) (eBin oLe (eVar i) (eVar j))) ρ S = ret (.bl (leW a b)) S := by
  cases a <;> cases b <;> simp only [aD] at h1 h2 <;> simp (disch := first | assumption | (simp only [Pv.evl]; omega) | omega | fail) only [Pv.evs0, Pv.evs1, Pv.evs2, Pv.evs3, List.reduceReplicate, reduceIte, Nat.reduceAdd, Nat.reduceSub, Nat.reduceBEq, String.reduceEq, Int.reduceNeg, Int.reduceAdd, Int.reduceSub, h1, h2, isN0, isN1, leW, Int.ofNat_le]
theorem ge_n {a b : Option Nat} {S : Store} {ρ : Pv.Env} {i j : Nat} (h1 : ρ[i]? = some (some (aD a))) (h2 : ρ[j]? = some (some (aD b))) : eOr (eBin (oIs false) (eVar i) (eC .non)) (eAnd (eBin (oIs true) (eVar j) (eC .non)) (eBin oGe (eVar i) (eVar j))) ρ S = ret (.bl (leW b a)) S := by
  cases a <;> cases b <;> simp only [aD] at h1 h2 <;> simp (disch := first | assumption | (simp only [Pv.evl]; omega) | omega | fail) only [Pv.evs0, Pv.evs1, Pv.evs2, Pv.evs3, List.reduceReplicate, reduceIte, Nat.reduceAdd, Nat.reduceSub, Nat.reduceBEq, String.reduceEq, Int.reduceNeg, Int.reduceAdd, Int.reduceSub, h1, h2, isN0, isN1, leW, Int.ofNat_le]
theorem e_pair {S : Store} (hS : okS S) {a b : Option Nat} (ha : Sm a) (hb : Sm b) : F_law_pair_right [W a, W b, aD a, aD b] S = ret (.bl true) S := by
  refine def_eq ?_ rfl hS
  have q := eqW (a := a) (b := b) (S := S)
  have c1 := byCW (F := F_Width___eq__) (o := oEq) (a := a) (b := b) (S := S)
  have c2 := byCW (F := F_Width___le__) (o := oLe) (a := a) (b := b) (S := S)
  have c3 := byCW (F := F_Width___ge__) (o := oGe) (a := a) (b := b) (S := S)
  have c4 := byCW (F := F_Width___le__) (o := oLe) (a := b) (b := a) (S := S)
  have c5 := byCW (F := F_Width___ge__) (o := oGe) (a := b) (b := a) (S := S)
  rw [e_eq hS, blR] at c1
  rw [e_le hS, blR] at c2 c4
  rw [e_ge hS, blR] at c3 c5
  have d1 := byLW (F := F_Width___and__) (o := oNo) (a := a) (b := b) (S := S)
  have d2 := byLW (F := F_Width___or__) (o := oNo) (a := a) (b := b) (S := S)
  rw [e_and hS] at d1
  rw [e_or hS] at d2
  have r := (fi_bls (bs := [decide (a = b), leW a b, leW b a, leW b a, leW a b]) (Nat.le_refl _)).rep (S := S)
  simp only [List.map_cons, List.map_nil] at r
  have l1 := le_n (a := a) (b := b) (S := S) (ρ := [some (W a), some (W b), some (aD a), some (aD b), some (.bl (decide (a = b))), none, none, none, none, none]) (i := 2) (j := 3) rfl rfl
  have l2 := ge_n (a := a) (b := b) (S := S) (ρ := [some (W a), some (W b), some (aD a), some (aD b), some (.bl (decide (a = b))), some (.bl (leW a b)), none, none, none, none]) (i := 2) (j := 3) rfl rfl
  have fa := e_fits hS ha
  have fb := e_fits hS hb
  unfold B_law_pair_right
  rw [seq_nx (ρ' := [some (W a), some (W b), some (aD a), some (aD b), some (.bl (decide (a = b))), none, none, none, none, none]) (S' := S) (by simp (disch := first | assumption | (simp only [Pv.evl]; omega) | omega | fail) only [Pv.evs0, Pv.evs1, Pv.evs2, Pv.evs3, List.reduceReplicate, reduceIte, Nat.reduceAdd, Nat.reduceSub, Nat.reduceBEq, String.reduceEq, Int.reduceNeg, Int.reduceAdd, Int.reduceSub, q])]
  rw [seq_nx (ρ' := [some (W a), some (W b), some (aD a), some (aD b), some (.bl (decide (a = b))), some (.bl (leW a b)), none, none, none, none]) (S' := S) (by
    show bnd _ _ = _
    rw [l1]
    rfl)]
  rw [seq_nx (ρ' := [some (W a), some (W b), some (aD a), some (aD b), some (.bl (decide (a = b))), some (.bl (leW a b)), some (.bl (leW b a)), none, none, none]) (S' := S) (by
    show bnd _ _ = _
    rw [l2]
    rfl)]
  have both : leW a b = true → leW b a = true → a = b := fun h1 h2 => by
    cases a <;> cases b <;> simp only [leW, decide_eq_true_eq] at h1 h2 <;> first | rfl | (cases h1; done) | (cases h2; done) | skip
    congr 1
    omega
  have tot : leW a b = false → leW b a = true := fun h1 => by
    cases a <;> cases b <;> simp only [leW, decide_eq_true_eq, decide_eq_false_iff_not] at h1 ⊢ <;> first | (cases h1; done) | skip
    omega
  cases h1 : leW a b with
  | true =>
    have e2 : (if leW b a = true then a else b) = b := by
      by_cases h2 : leW b a = true
      · rw [if_pos h2]; exact both h1 h2
      · rw [if_neg h2]
    rw [h1, if_pos rfl] at d1
    rw [e2] at d2
    rw [h1] at c2 c5 r
    simp (disch := first | assumption | (simp only [Pv.evl]; omega) | omega | fail) only [Pv.evs0, Pv.evs1, Pv.evs2, Pv.evs3, List.reduceReplicate, reduceIte, Nat.reduceAdd, Nat.reduceSub, Nat.reduceBEq, String.reduceEq, Int.reduceNeg, Int.reduceAdd, Int.reduceSub, c1, c2, c3, c4, c5, r, d1, d2, fa, fb]
  | false =>
    have h2 := tot h1
    rw [h1, if_neg Bool.false_ne_true] at d1
    rw [h2, if_pos rfl] at d2
    rw [h1] at c2 c5 r
    simp (disch := first | assumption | (simp only [Pv.evl]; omega) | omega | fail) only [Pv.evs0, Pv.evs1, Pv.evs2, Pv.evs3, List.reduceReplicate, reduceIte, Nat.reduceAdd, Nat.reduceSub, Nat.reduceBEq, String.reduceEq, Int.reduceNeg, Int.reduceAdd, Int.reduceSub, c1, c2, c3, c4, c5, r, d1, d2, fa, fb]
theorem e_sum {S : Store} (hS : okS S) {a : Option Nat} {n : Nat} (ha : Sm a) (hs : Sm (a.map (· + n))) : F_law_sum_right [W a, aD a, .int n] S = ret (.bl true) S := by
  refine def_eq ?_ rfl hS
  have b1 := byLO (F := F_Width___add__) (o := oAdd) (a := a) (S := S) (.int n)
  have b2 := byRO (F := F_Width___radd__) (o := oAdd) (a := a) (S := S) (.int n)
  rw [e_add hS] at b1
  rw [e_radd hS] at b2
  have f1 := e_fits hS hs
  have f2 := e_fits hS ha
  cases a with
  | none =>
    simp only [W, aD, Option.map] at b1 b2 f1 f2
    simp (disch := first | assumption | (simp only [Pv.evl]; omega) | omega | fail) only [Pv.evs0, Pv.evs1, Pv.evs2, Pv.evs3, List.reduceReplicate, reduceIte, Nat.reduceAdd, Nat.reduceSub, Nat.reduceBEq, String.reduceEq, Int.reduceNeg, Int.reduceAdd, Int.reduceSub, B_law_sum_right, aD, W, isN0, b1, b2, f1, f2]
  | some m =>
    have e : (m : Int) + (n : Int) = ((m + n : Nat) : Int) := by omega
    simp only [W, aD, Option.map] at b1 b2 f1 f2
    simp (disch := first | assumption | (simp only [Pv.evl]; omega) | omega | fail) only [Pv.evs0, Pv.evs1, Pv.evs2, Pv.evs3, List.reduceReplicate, reduceIte, Nat.reduceAdd, Nat.reduceSub, Nat.reduceBEq, String.reduceEq, Int.reduceNeg, Int.reduceAdd, Int.reduceSub, B_law_sum_right, aD, W, isN1, b1, b2, f1, f2, e]
end K23
namespace K23
open PySem PySem.Spec Pv
theorem sb_2 : sb "NotUsable" "ChargeError" = some true := by decide +kernel
theorem e_refusal {S : Store} (hS : okS S) {w : Str} : F_law_refusal [.err "NotUsable" ["at", "word"] [.int (-1), .str w]] S = ret (.tup [.str "no", .str "usable", .str w, .int (-1)]) S := by
  refine def_eq ?_ rfl hS
  rfl
abbrev noD (w : Str) : D := .tup [.str "no", .str "usable", .str w, .int (-1)]
theorem said_no {S : Store} (hS : okS S) {w : Str} : saidK sb "ChargeError" "told" F_law_refusal (exx (xNo w) S) = ret (noD w) S :=
  saidK_exx sb_2 (e_refusal hS) rfl
theorem fi_no {w : Str} (h : ∀ c ∈ w.cps.toList, c < 128) (hl : w.length ≤ 61) : Fi 1 (4 * 62) (noD w) := by
  refine Fi.tup (b := 61) (k := 4) (fun d m => ?_) (Nat.le_refl _)
  simp only [List.mem_cons, List.not_mem_nil, or_false] at m
  rcases m with rfl | rfl | rfl | rfl
  · exact Fi.strW (by decide) (by decide)
  · exact Fi.strW (by decide) (by decide)
  · exact Fi.strW h hl
  · exact Fi.int (by decide)
theorem fi_o : Fi 1 (4 * 62) (noD "other") := fi_no (by decide) (by decide)
theorem fi_n : Fi 1 (4 * 62) (noD "number") := fi_no (by decide) (by decide)
theorem ne_no {S : Store} : oNe (noD "other") (noD "other") S = ret (.bl false) S := by
  have e : deq (noD "other") (noD "other") = true := by decide +kernel
  rw [fi_o.ne fi_o, e]
  rfl
theorem eq_no {S : Store} : oEq (noD "other") (noD "other") S = ret (.bl true) S := by
  have e : deq (noD "other") (noD "other") = true := by decide +kernel
  rw [fi_o.eq fi_o, e]
theorem ne_nb {S : Store} : oNe (noD "number") (noD "number") S = ret (.bl false) S := by
  have e : deq (noD "number") (noD "number") = true := by decide +kernel
  rw [fi_n.ne fi_n, e]
  rfl
theorem e_refused {S : Store} (hS : okS S) {a : Option Nat} {d : D} (h : Od d) (ha : Sm a) (hs : ∀ i : Int, d = .int i → 0 ≤ i → Sm (a.map (· + i.toNat))) : F_law_refused_right [W a, aD a, d] S = ret (.bl true) S := by
  refine def_eq ?_ rfl hS
  have b1 := byLO (F := F_Width___and__) (o := oNo) (a := a) (S := S) h
  have b2 := byLO (F := F_Width___or__) (o := oNo) (a := a) (S := S) h
  have b3 := byLO (F := F_Width___add__) (o := oAdd) (a := a) (S := S) h
  have b4 := byRO (F := F_Width___radd__) (o := oAdd) (a := a) (S := S) h
  have c1 := byCO (F := F_Width___eq__) (o := oEq) (a := a) (S := S) h
  rw [e_andO hS h] at b1
  rw [e_orO hS h] at b2
  rw [e_eqO hS h, blR] at c1
  have sn := said_no hS (w := "other")
  have i1 := isi_int h (S := S)
  have i2 := isi_bool h (S := S)
  cases hn : numB d with
  | false =>
    rw [e_addO hS h hn] at b3
    rw [e_raddO hS h hn] at b4
    cases h with
    | int i =>
      have : ¬ (0 : Int) ≤ i := by simpa [numB] using hn
      simp (disch := first | assumption | (simp only [Pv.evl]; omega) | omega | fail) only [Pv.evs0, Pv.evs1, Pv.evs2, Pv.evs3, List.reduceReplicate, reduceIte, Nat.reduceAdd, Nat.reduceSub, Nat.reduceBEq, String.reduceEq, Int.reduceNeg, Int.reduceAdd, Int.reduceSub, B_law_refused_right, evx, b1, b2, b3, b4, c1, sn, ne_no, eq_no, i1, i2, this]
    | _ => simp (disch := first | assumption | (simp only [Pv.evl]; omega) | omega | fail) only [Pv.evs0, Pv.evs1, Pv.evs2, Pv.evs3, List.reduceReplicate, reduceIte, Nat.reduceAdd, Nat.reduceSub, Nat.reduceBEq, String.reduceEq, Int.reduceNeg, Int.reduceAdd, Int.reduceSub, B_law_refused_right, evx, b1, b2, b3, b4, c1, sn, ne_no, eq_no, i1, i2]
  | true =>
    cases h with
    | int i =>
      have h0 : (0 : Int) ≤ i := by simpa [numB] using hn
      have s := e_sum hS ha (hs i rfl h0)
      have e : ((i.toNat : Nat) : Int) = i := Int.toNat_of_nonneg h0
      rw [e] at s
      simp (disch := first | assumption | (simp only [Pv.evl]; omega) | omega | fail) only [Pv.evs0, Pv.evs1, Pv.evs2, Pv.evs3, List.reduceReplicate, reduceIte, Nat.reduceAdd, Nat.reduceSub, Nat.reduceBEq, String.reduceEq, Int.reduceNeg, Int.reduceAdd, Int.reduceSub, B_law_refused_right, evx, b1, b2, c1, sn, ne_no, eq_no, i1, i2, h0, s]
    | _ => cases hn
end K23
namespace K23
open PySem PySem.Spec Pv
theorem e_tape {d : D} {ns : List Int} (h : scr d ns) (hl : ns.length ≤ 63) : F_law_tape [d] [] = ret (.cell 0) [(⟨ns, 0, 0, 0⟩ : Tp).c] := by
  have hc : cutG (ns.map D.int) none (some 63) = ns.map D.int := by
    rw [show (63 : Int) = ((63 : Nat) : Int) from rfl, cut_to, List.take_of_length_le (by simpa using hl)]
  refine def_new (S := []) (ds := [.lst (ns.map D.int), .int 0, .int 0, .int 0]) ?_ okS.nil (by simp)
  rcases h with rfl | rfl
  · simp (disch := first | assumption | (simp only [Pv.evl]; omega) | omega | fail) only [Pv.evs0, Pv.evs1, Pv.evs2, Pv.evs3, List.reduceReplicate, reduceIte, Nat.reduceAdd, Nat.reduceSub, Nat.reduceBEq, String.reduceEq, Int.reduceNeg, Int.reduceAdd, Int.reduceSub, B_law_tape, hc]
  · have hf : ∀ S : Store, oSl (.frz (ns.map D.int)) none (some 63) S = ret (.lst (cutG (ns.map D.int) none (some 63))) S := fun _ => rfl
    simp (disch := first | assumption | (simp only [Pv.evl]; omega) | omega | fail) only [Pv.evs0, Pv.evs1, Pv.evs2, Pv.evs3, List.reduceReplicate, reduceIte, Nat.reduceAdd, Nat.reduceSub, Nat.reduceBEq, String.reduceEq, Int.reduceNeg, Int.reduceAdd, Int.reduceSub, B_law_tape, hf, hc]
/-- as great as a drawn number may be -/
def Am (a : Option Nat) : Prop := ∀ n, a = some n → n ≤ 10 ^ 59 + 3
theorem Am.sm {a : Option Nat} (h : Am a) : Sm a := fun n e => by have := h n e; omega
theorem Am.add {a : Option Nat} (h : Am a) {m : Nat} (hm : m ≤ 10 ^ 59 + 3) : Sm (a.map (· + m)) := fun n e => by
  cases a with
  | none => cases e
  | some k =>
    have := h k rfl
    have e : k + m = n := by simpa using e
    omega
theorem e_amount {t : Tp} {R : Store} (hS : okS R) (hc : t.ct + 2 < 1048576) : ∃ (n : Nat) (t' : Tp), F_law_amount [.cell 0] (t.c :: R) = ret (.int n) (t'.c :: R) ∧ n ≤ 10 ^ 59 + 2 ∧ t'.ct ≤ t.ct + 2 := by
  obtain ⟨v, t1, e1, hv, ht1⟩ := e_draw (t := t) (m := 5) hS (by omega) (by omega) (by omega)
  by_cases h3 : (v : Int) < 3
  · obtain ⟨m, hm, em⟩ : ∃ n : Nat, n ∈ [4, 10, 120] ∧ L2.atI [D.int 4, .int 10, .int 120] (v : Int) = some (.int n) := by
      obtain ⟨n, hm, e⟩ := at_nats [4, 10, 120] (v := v) (by simp; omega)
      exact ⟨n, hm, e⟩
    have b : 0 < m ∧ m ≤ 120 := (by decide : ∀ n ∈ [4, 10, 120], 0 < n ∧ n ≤ 120) m hm
    obtain ⟨x, t2, e2, hx, ht2⟩ := e_draw (t := t1) (m := m) hS (by omega) (by omega) (by omega)
    refine ⟨x, t2, def_st ?_ rfl hS.tp rfl, by omega, by omega⟩
    simp (disch := first | assumption | (simp only [Pv.evl]; omega) | omega | fail) only [Pv.evs0, Pv.evs1, Pv.evs2, Pv.evs3, List.reduceReplicate, reduceIte, Nat.reduceAdd, Nat.reduceSub, Nat.reduceBEq, String.reduceEq, Int.reduceNeg, Int.reduceAdd, Int.reduceSub, B_law_amount, e1, h3, em, e2]
  · obtain ⟨x, t2, e2, hx, ht2⟩ := e_draw (t := t1) (m := 4) hS (by omega) (by omega) (by omega)
    by_cases h4 : (v : Int) = 3
    · refine ⟨10 ^ 18 - 2 + x, t2, def_st ?_ rfl hS.tp rfl, by omega, by omega⟩
      have e : (10 : Int) ^ (18 : Int).toNat - 2 + (x : Int) = ((10 ^ 18 - 2 + x : Nat) : Int) := by
        have : (10 : Int) ^ (18 : Int).toNat = 1000000000000000000 := by decide
        rw [this]
        omega
      simp (disch := first | assumption | (simp only [Pv.evl]; omega) | omega | fail) only [Pv.evs0, Pv.evs1, Pv.evs2, Pv.evs3, List.reduceReplicate, reduceIte, Nat.reduceAdd, Nat.reduceSub, Nat.reduceBEq, String.reduceEq, Int.reduceNeg, Int.reduceAdd, Int.reduceSub, B_law_amount, e1, h3, h4, e2, e, Int.reduceLT]
    · refine ⟨10 ^ 59 - 2 + x, t2, def_st ?_ rfl hS.tp rfl, by omega, by omega⟩
      have e : (10 : Int) ^ (59 : Int).toNat - 2 + (x : Int) = ((10 ^ 59 - 2 + x : Nat) : Int) := by
        have : (10 : Int) ^ (59 : Int).toNat = 100000000000000000000000000000000000000000000000000000000000 := by decide
        rw [this]
        omega
      simp (disch := first | assumption | (simp only [Pv.evl]; omega) | omega | fail) only [Pv.evs0, Pv.evs1, Pv.evs2, Pv.evs3, List.reduceReplicate, reduceIte, Nat.reduceAdd, Nat.reduceSub, Nat.reduceBEq, String.reduceEq, Int.reduceNeg, Int.reduceAdd, Int.reduceSub, B_law_amount, e1, h3, h4, e2, e, Int.reduceLT]
theorem comp_am {e0 e2 e4 e5 e6 e7 e8 e9 e10 : Option D} : ∀ (ks : List Nat) (acc : List D) (t : Tp), t.ct + ks.length * 2 + 10 < 1048576 → acc.length + ks.length ≤ 1000 →
    ∃ (ns : List Nat) (t' : Tp), compP (.nm 3) none (eCall (ar 1 F_law_amount) [] (eCons (eVar 1) eNil)) [e0, some (.cell 0), e2, none, e4, e5, e6, e7, e8, e9, e10] (ks.map fun k => D.int (k : Nat)) acc [t.c] = ret (acc ++ ns.map fun n => D.int (n : Nat)) [t'.c] ∧ ns.length = ks.length ∧ (∀ n ∈ ns, n ≤ 10 ^ 59 + 2) ∧ t'.ct ≤ t.ct + ks.length * 2
  | [], acc, t, _, _ => ⟨[], t, by simp, rfl, fun _ m => (nomatch m), by simp⟩
  | k :: ks, acc, t, hc, hl => by
    simp only [List.length_cons, Nat.add_mul, Nat.one_mul] at hc hl
    obtain ⟨n, t1, e1, b1, ht1⟩ := e_amount (t := t) okS.nil (by omega)
    obtain ⟨ns, t', ih, l, th, ht⟩ := comp_am ks (acc ++ [.int n]) t1 (by omega) (by simp; omega) (e0 := e0) (e2 := e2) (e4 := e4) (e5 := e5) (e6 := e6) (e7 := e7) (e8 := e8) (e9 := e9) (e10 := e10)
    refine ⟨n :: ns, t', ?_, by simp [l], fun x m => ?_, by simp only [List.length_cons, Nat.add_mul, Nat.one_mul]; omega⟩
    · rw [List.map_cons, compP1]
      simp (disch := first | assumption | (simp only [Pv.evl]; omega) | omega | fail) only [Pv.evs0, Pv.evs1, Pv.evs2, Pv.evs3, List.reduceReplicate, reduceIte, Nat.reduceAdd, Nat.reduceSub, Nat.reduceBEq, String.reduceEq, Int.reduceNeg, Int.reduceAdd, Int.reduceSub, e1]
      rw [ih]
      simp
    · rcases List.mem_cons.mp m with rfl | m
      · exact b1
      · exact th x m
end K23
namespace K23
open PySem PySem.Spec Pv
section
variable {S : Store} (hS : okS S) {as : List (Option Nat)} (hA : ∀ a ∈ as, Am a) (hl : as.length ≤ 1000) (hc : S[1]? = some (.lst (as.map aD)))
include hS hA hl hc
theorem at_a {i : Nat} {a : Option Nat} (h : as[i]? = some a) : oIx (.cell 1) (.int i) S = ret (aD a) S := by
  have hi := (List.getElem?_eq_some_iff.mp h).1
  have e : (as.map aD)[i]? = some (aD a) := by rw [List.getElem?_map, h]; rfl
  simp (disch := first | assumption | (simp only [Pv.evl]; omega) | omega | fail) only [Pv.evs0, Pv.evs1, Pv.evs2, Pv.evs3, List.reduceReplicate, reduceIte, Nat.reduceAdd, Nat.reduceSub, Nat.reduceBEq, String.reduceEq, Int.reduceNeg, Int.reduceAdd, Int.reduceSub, hc, e]
omit hS hA hc in
theorem at_w {i : Nat} {a : Option Nat} (h : as[i]? = some a) {T : Store} : oIx (.lst (as.map W)) (.int i) T = ret (W a) T := by
  have hi := (List.getElem?_eq_some_iff.mp h).1
  have e : (as.map W)[i]? = some (W a) := by rw [List.getElem?_map, h]; rfl
  simp (disch := first | assumption | (simp only [Pv.evl]; omega) | omega | fail) only [Pv.evs0, Pv.evs1, Pv.evs2, Pv.evs3, List.reduceReplicate, reduceIte, Nat.reduceAdd, Nat.reduceSub, Nat.reduceBEq, String.reduceEq, Int.reduceNeg, Int.reduceAdd, Int.reduceSub, e]
theorem loop_j {i : Nat} {a : Option Nat} (ha : as[i]? = some a) {e0 e1 e3 e5 e8 e9 e10 : Option D} : ∀ (ks : List Nat) (e7 : Option D), (∀ k ∈ ks, k < as.length) → ∃ e7', forP (.nm 7) L_law_2 (ks.map fun k => D.int (k : Nat)) [e0, e1, some (.cell 1), e3, some (.lst (as.map W)), e5, some (.int i), e7, e8, e9, e10] S = ret (.nx [e0, e1, some (.cell 1), e3, some (.lst (as.map W)), e5, some (.int i), e7', e8, e9, e10]) S
  | [], e7, _ => ⟨e7, rfl⟩
  | k :: ks, e7, hk => by
    have hk0 := hk k (List.mem_cons_self ..)
    obtain ⟨e7', ih⟩ := loop_j ha ks (some (.int k)) (fun x m => hk x (List.mem_cons_of_mem _ m)) (e0 := e0) (e1 := e1) (e3 := e3) (e5 := e5) (e8 := e8) (e9 := e9) (e10 := e10)
    refine ⟨e7', ?_⟩
    have hb : as[k]? = some as[k] := List.getElem?_eq_getElem hk0
    generalize as[k] = b at hb
    have ma := hA a (List.mem_of_getElem? ha)
    have mb := hA b (List.mem_of_getElem? hb)
    have a1 := at_a hS hA hl hc ha
    have a2 := at_a hS hA hl hc hb
    have w1 := at_w hl ha (T := S)
    have w2 := at_w hl hb (T := S)
    have p := e_pair hS ma.sm mb.sm
    rw [List.map_cons, forP1]
    cases b with
    | none =>
      simp (disch := first | assumption | (simp only [Pv.evl]; omega) | omega | fail) only [Pv.evs0, Pv.evs1, Pv.evs2, Pv.evs3, List.reduceReplicate, reduceIte, Nat.reduceAdd, Nat.reduceSub, Nat.reduceBEq, String.reduceEq, Int.reduceNeg, Int.reduceAdd, Int.reduceSub, a1, a2, w1, w2, p, isN]
      exact ih
    | some n =>
      have s := e_sum hS ma.sm (ma.add (mb n rfl))
      have en : aD (some n) = .int n := rfl
      rw [en] at a2 p
      simp (disch := first | assumption | (simp only [Pv.evl]; omega) | omega | fail) only [Pv.evs0, Pv.evs1, Pv.evs2, Pv.evs3, List.reduceReplicate, reduceIte, Nat.reduceAdd, Nat.reduceSub, Nat.reduceBEq, String.reduceEq, Int.reduceNeg, Int.reduceAdd, Int.reduceSub, a1, a2, w1, w2, p, isN1, en, s]
      exact ih
theorem loop_i {e0 e1 e3 e5 e8 e9 e10 : Option D} : ∀ (ks : List Nat) (e6 e7 : Option D), (∀ k ∈ ks, k < as.length) → ∃ e6' e7', forP (.nm 6) L_law_3 (ks.map fun k => D.int (k : Nat)) [e0, e1, some (.cell 1), e3, some (.lst (as.map W)), e5, e6, e7, e8, e9, e10] S = ret (.nx [e0, e1, some (.cell 1), e3, some (.lst (as.map W)), e5, e6', e7', e8, e9, e10]) S
  | [], e6, e7, _ => ⟨e6, e7, rfl⟩
  | k :: ks, e6, e7, hk => by
    have hk0 := hk k (List.mem_cons_self ..)
    have ha : as[k]? = some as[k] := List.getElem?_eq_getElem hk0
    obtain ⟨f7, lj⟩ := loop_j hS hA hl hc ha (List.range as.length) e7 (fun x m => List.mem_range.mp m) (e0 := e0) (e1 := e1) (e3 := e3) (e5 := e5) (e8 := e8) (e9 := e9) (e10 := e10)
    obtain ⟨e6', e7', ih⟩ := loop_i ks (some (.int k)) f7 (fun x m => hk x (List.mem_cons_of_mem _ m)) (e0 := e0) (e1 := e1) (e3 := e3) (e5 := e5) (e8 := e8) (e9 := e9) (e10 := e10)
    refine ⟨e6', e7', ?_⟩
    have hlen : oLen [.cell 1] S = ret (.int as.length) S := by simp (disch := first | assumption | (simp only [Pv.evl]; omega) | omega | fail) only [Pv.evs0, Pv.evs1, Pv.evs2, Pv.evs3, List.reduceReplicate, reduceIte, Nat.reduceAdd, Nat.reduceSub, Nat.reduceBEq, String.reduceEq, Int.reduceNeg, Int.reduceAdd, Int.reduceSub, hc]
    rw [List.map_cons, forP1]
    simp (disch := first | assumption | (simp only [Pv.evl]; omega) | omega | fail) only [Pv.evs0, Pv.evs1, Pv.evs2, Pv.evs3, List.reduceReplicate, reduceIte, Nat.reduceAdd, Nat.reduceSub, Nat.reduceBEq, String.reduceEq, Int.reduceNeg, Int.reduceAdd, Int.reduceSub, hlen, lj]
    exact ih
end
end K23
namespace K23
open PySem PySem.Spec Pv
/-- what may be put to a Width -/
def Ok (d : D) : Prop := Od d ∧ ∀ i : Int, d = .int i → 0 ≤ i → i ≤ 10 ^ 59 + 3
theorem loop_o {as : List (Option Nat)} (hA : ∀ a ∈ as, Am a) (h8 : as.length = 8) {od : List D} (ho : ∀ d ∈ od, Ok d) {e0 e5 e6 e7 e10 : Option D} : ∀ (ks : List Nat) (e3 e9 : Option D) (t : Tp), (∀ k ∈ ks, k < od.length) → t.ct + ks.length < 1048576 →
    ∃ (e3' e9' : Option D) (t' : Tp), forP (.nm 3) L_law_1 (ks.map fun k => D.int (k : Nat)) [e0, some (.cell 0), some (.cell 1), e3, some (.lst (as.map W)), e5, e6, e7, some (.lst od), e9, e10] [t.c, .lst (as.map aD)] = ret (.nx [e0, some (.cell 0), some (.cell 1), e3', some (.lst (as.map W)), e5, e6, e7, some (.lst od), e9', e10]) [t'.c, .lst (as.map aD)] ∧ t'.ct ≤ t.ct + ks.length
  | [], e3, e9, t, _, _ => ⟨e3, e9, t, rfl, Nat.le_refl _⟩
  | k :: ks, e3, e9, t, hk, hc => by
    have hk0 := hk k (List.mem_cons_self ..)
    simp only [List.length_cons] at hc
    have pa : D.pus (as.map aD) = true := pus_map aD_pu as
    have hR : okS [Cell.lst (as.map aD)] := okS.nil.cons pa
    obtain ⟨v, t1, e1, hv, ht1⟩ := e_draw (t := t) (m := 8) hR (by omega) (by omega) (by omega)
    have hv8 : v < as.length := by omega
    have hd : od[k]? = some od[k] := List.getElem?_eq_getElem hk0
    have hok := ho _ (List.mem_of_getElem? hd)
    generalize od[k] = d at hd hok
    have ha : as[v]? = some as[v] := List.getElem?_eq_getElem hv8
    have ma := hA _ (List.mem_of_getElem? ha)
    generalize as[v] = a at ha ma
    obtain ⟨e3', e9', t', ih, ht⟩ := loop_o hA h8 ho ks (some (.int k)) (some (.int v)) t1 (fun x m => hk x (List.mem_cons_of_mem _ m)) (by omega) (e0 := e0) (e5 := e5) (e6 := e6) (e7 := e7) (e10 := e10)
    have hS := hR.tp (t := t1)
    have a1 := at_a hS hA (by omega) rfl ha
    have w1 := at_w (by omega) ha (T := [t1.c, .lst (as.map aD)])
    have r := e_refused hS hok.1 ma.sm (fun i ei h0 => ma.add (by have := hok.2 i ei h0; omega))
    have hlen : oLen [.lst (as.map W)] [t.c, .lst (as.map aD)] = ret (.int 8) [t.c, .lst (as.map aD)] := by
      have : oLen [.lst (as.map W)] [t.c, .lst (as.map aD)] = ret (.int ((as.map W).length : Nat)) [t.c, .lst (as.map aD)] := rfl
      rw [this, List.length_map, h8]
      rfl
    refine ⟨e3', e9', t', ?_, by simp only [List.length_cons]; omega⟩
    rw [List.map_cons, forP1]
    simp (disch := first | assumption | (simp only [Pv.evl]; omega) | omega | fail) only [Pv.evs0, Pv.evs1, Pv.evs2, Pv.evs3, List.reduceReplicate, reduceIte, Nat.reduceAdd, Nat.reduceSub, Nat.reduceBEq, String.reduceEq, Int.reduceNeg, Int.reduceAdd, Int.reduceSub, hlen, e1, a1, w1, hd, r]
    exact ih
theorem e_initO {S : Store} (hS : okS S) {d : D} (h : Od d) (hn : numB d = false) (h0 : d ≠ .non) : F_Width___init__ [d] S = exx (xNo "number") S := by
  have i := e_isn hS h
  have n : d.isNon = false := by cases h <;> first | rfl | exact absurd rfl h0
  unfold F_Width___init__
  simp (disch := first | assumption | (simp only [Pv.evl]; omega) | omega | fail) only [Pv.evs0, Pv.evs1, Pv.evs2, Pv.evs3, List.reduceReplicate, reduceIte, Nat.reduceAdd, Nat.reduceSub, Nat.reduceBEq, String.reduceEq, Int.reduceNeg, Int.reduceAdd, Int.reduceSub, evv, evx, B_Width___init__, i, n, hn]
  first | rfl | (simp; rfl)
theorem loop_b {S : Store} (hS : okS S) {e0 e1 e2 e3 e4 e5 e6 e7 e8 e9 : Option D} : ∀ (ds : List D) (e10 : Option D), (∀ d ∈ ds, Od d ∧ numB d = false ∧ d ≠ .non) → ∃ e10', forP (.nm 10) L_law_0 ds [e0, e1, e2, e3, e4, e5, e6, e7, e8, e9, e10] S = ret (.nx [e0, e1, e2, e3, e4, e5, e6, e7, e8, e9, e10']) S
  | [], e10, _ => ⟨e10, rfl⟩
  | d :: ds, e10, hd => by
    obtain ⟨h1, h2, h3⟩ := hd d (List.mem_cons_self ..)
    obtain ⟨e10', ih⟩ := loop_b hS ds (some d) (fun x m => hd x (List.mem_cons_of_mem _ m)) (e0 := e0) (e1 := e1) (e2 := e2) (e3 := e3) (e4 := e4) (e5 := e5) (e6 := e6) (e7 := e7) (e8 := e8) (e9 := e9)
    have i := e_initO hS h1 h2 h3
    have sn := said_no hS (w := "number")
    refine ⟨e10', ?_⟩
    rw [forP1]
    simp (disch := first | assumption | (simp only [Pv.evl]; omega) | omega | fail) only [Pv.evs0, Pv.evs1, Pv.evs2, Pv.evs3, List.reduceReplicate, reduceIte, Nat.reduceAdd, Nat.reduceSub, Nat.reduceBEq, String.reduceEq, Int.reduceNeg, Int.reduceAdd, Int.reduceSub, evv, evx, i, sn, ne_nb]
    exact ih
end K23
namespace K23
open PySem PySem.Spec Pv
theorem e_made {S : Store} (hS : okS S) {ρ : Pv.Env} {i : Nat} {a : Option Nat} (h : ρ[i]? = some (some (aD a))) : eIf (eTru (eBin (oIs true) (eVar i) (eC .non))) (eNew "Width" 1 F_Width___init__ [] (eCons (eVar i) eNil)) (eNew "Width" 1 F_Width___init__ [.non] eNil) ρ S = ret (W a) S := by
  have i0 := iN hS
  cases a with
  | none =>
    simp only [aD] at h
    simp (disch := first | assumption | (simp only [Pv.evl]; omega) | omega | fail) only [Pv.evs0, Pv.evs1, Pv.evs2, Pv.evs3, List.reduceReplicate, reduceIte, Nat.reduceAdd, Nat.reduceSub, Nat.reduceBEq, String.reduceEq, Int.reduceNeg, Int.reduceAdd, Int.reduceSub, h, isN0, evv, i0]
    rfl
  | some n =>
    simp only [aD] at h
    have i1 := iS hS (n := n)
    simp (disch := first | assumption | (simp only [Pv.evl]; omega) | omega | fail) only [Pv.evs0, Pv.evs1, Pv.evs2, Pv.evs3, List.reduceReplicate, reduceIte, Nat.reduceAdd, Nat.reduceSub, Nat.reduceBEq, String.reduceEq, Int.reduceNeg, Int.reduceAdd, Int.reduceSub, h, isN1, evv, i1]
    rfl
theorem law_ok {d : D} {ns : List Int} (hd : scr d ns) (hl : ns.length ≤ 63) : ∃ S, F_law [d] [] = ret (.bl true) S := by
  have e0 := e_tape hd hl
  obtain ⟨ms, t1, c1, l1, b1, ht1⟩ := comp_am (e0 := some d) (e2 := none) (e4 := none) (e5 := none) (e6 := none) (e7 := none) (e8 := none) (e9 := none) (e10 := none) (List.range 5) [] ⟨ns, 0, 0, 0⟩ (by simp) (by simp)
  simp only [List.length_range, List.nil_append] at c1 l1 ht1
  match ms, l1, b1, c1 with
  | [n0, n1, n2, n3, n4], _, b1, c1 =>
  have hR0 : okS [Cell.lst [.int n0, .int n1, .int n2, .int n3, .int n4, .int 0, .non]] := okS.nil.cons rfl
  obtain ⟨v, t2, e2, hv, ht2⟩ := e_draw (t := t1) (m := 2) hR0 (by simp at ht1; omega) (by omega) (by omega)
  have bn := fun n (m : n ∈ [n0, n1, n2, n3, n4]) => b1 n m
  have q0 := bn n0 (by simp)
  have q1 := bn n1 (by simp)
  have q2 := bn n2 (by simp)
  have q3 := bn n3 (by simp)
  have q4 := bn n4 (by simp)
  obtain ⟨nl, hnl, hl7⟩ : ∃ nl : Nat, nl ≤ 10 ^ 59 + 3 ∧ (if (v : Int) = 0 then (.int n0 : D) else .int ((n0 : Int) + 1)) = .int nl := by
    by_cases h : (v : Int) = 0
    · exact ⟨n0, by omega, by rw [if_pos h]⟩
    · exact ⟨n0 + 1, by omega, by rw [if_neg h]; rfl⟩
  have app : ∀ (ρ : Pv.Env), ρ[1]? = some (some (.cell 0)) → ρ[2]? = some (some (.cell 1)) → eApp (eVar 2) (eCons (eIf (bOr (eTru (eBin oEq (eCall (ar 2 F_law_draw) [] (eCons (eVar 1) (eCons (eC (.int 2)) eNil))) (eC (.int 0)))) (eTru (eBin (oIs false) (eBin oIx (eVar 2) (eC (.int 0))) (eC .non)))) (eBin oIx (eVar 2) (eC (.int 0))) (eBin oAdd (eBin oIx (eVar 2) (eC (.int 0))) (eC (.int 1)))) eNil) ρ
      [t1.c, .lst [.int n0, .int n1, .int n2, .int n3, .int n4, .int 0, .non]] = ret .non [t2.c, .lst ([some n0, some n1, some n2, some n3, some n4, some 0, none, some nl].map aD)] := fun ρ h1 h2 => by
    by_cases h : (v : Int) = 0
    · rw [if_pos h] at hl7
      have e : n0 = nl := by
        have := D.int.inj hl7
        omega
      simp (disch := first | assumption | (simp only [Pv.evl]; omega) | omega | fail) only [Pv.evs0, Pv.evs1, Pv.evs2, Pv.evs3, List.reduceReplicate, reduceIte, Nat.reduceAdd, Nat.reduceSub, Nat.reduceBEq, String.reduceEq, Int.reduceNeg, Int.reduceAdd, Int.reduceSub, h1, h2, e2, h, isN1]
      rw [← e]
      rfl
    · rw [if_neg h] at hl7
      simp (disch := first | assumption | (simp only [Pv.evl]; omega) | omega | fail) only [Pv.evs0, Pv.evs1, Pv.evs2, Pv.evs3, List.reduceReplicate, reduceIte, Nat.reduceAdd, Nat.reduceSub, Nat.reduceBEq, String.reduceEq, Int.reduceNeg, Int.reduceAdd, Int.reduceSub, h1, h2, e2, h, isN1]
      rw [hl7]
      rfl
  generalize has : ([some n0, some n1, some n2, some n3, some n4, some 0, none, some nl] : List (Option Nat)) = as at app
  have h8 : as.length = 8 := by rw [← has]; rfl
  have hA : ∀ a ∈ as, Am a := by
    rw [← has]
    intro a m n e
    subst e
    simp only [List.mem_cons, Option.some.injEq, reduceCtorEq, List.not_mem_nil, or_false, false_or] at m
    omega
  have pa : D.pus (as.map aD) = true := pus_map aD_pu as
  have hR : okS [Cell.lst (as.map aD)] := okS.nil.cons pa
  have hS2 := hR.tp (t := t2)
  have g0 : as[0]? = some (some n0) := by rw [← has]; rfl
  have g1 : as[1]? = some (some n1) := by rw [← has]; rfl
  have g2 : as[2]? = some (some n2) := by rw [← has]; rfl
  have g3 : as[3]? = some (some n3) := by rw [← has]; rfl
  have a0 := at_a hS2 hA (by omega) rfl g0
  have a1 := at_a hS2 hA (by omega) rfl g1
  obtain ⟨f6, f7, li⟩ := loop_i hS2 hA (by omega) rfl (List.range 8) none none (fun k m => by have := List.mem_range.mp m; omega) (e0 := some d) (e1 := some (.cell 0)) (e3 := none) (e5 := none) (e8 := none) (e9 := none) (e10 := none)
  have x0 := str_int (n := n0) (by omega) (S := [t2.c, .lst (as.map aD)])
  let od : List D := [.non, .bl true, .bl false, .int (-1), .str "endless", .str "3", .tup [], .lst [], .tup [.int 3], .int n0, .str (Str.ofString (toString (n0 : Int))), .int (-1 - n1)]
  have ho : ∀ x ∈ od, Ok x := by
    intro x m
    simp only [od, List.mem_cons, List.not_mem_nil, or_false] at m
    rcases m with rfl | rfl | rfl | rfl | rfl | rfl | rfl | rfl | rfl | rfl | rfl | rfl
    · exact ⟨.non, fun i e => nomatch e⟩
    · exact ⟨.bl _, fun i e => nomatch e⟩
    · exact ⟨.bl _, fun i e => nomatch e⟩
    · exact ⟨.int _, fun i e h => by cases e; omega⟩
    · exact ⟨.str _, fun i e => nomatch e⟩
    · exact ⟨.str _, fun i e => nomatch e⟩
    · exact ⟨.tup rfl, fun i e => nomatch e⟩
    · exact ⟨.lst rfl, fun i e => nomatch e⟩
    · exact ⟨.tup rfl, fun i e => nomatch e⟩
    · exact ⟨.int _, fun i e h => by cases e; omega⟩
    · exact ⟨.str _, fun i e => nomatch e⟩
    · exact ⟨.int _, fun i e h => by cases e; omega⟩
  obtain ⟨f3, f9, t3, lo, ht3⟩ := loop_o hA h8 ho (List.range 12) none none t2 (fun k m => by have := List.mem_range.mp m; simp [od]; omega) (by simp at ht1 ⊢; omega) (e0 := some d) (e5 := none) (e6 := f6) (e7 := f7) (e10 := none)
  have hS3 := hR.tp (t := t3)
  have z2 := at_a hS3 hA (by omega) rfl g2
  have z3 := at_a hS3 hA (by omega) rfl g3
  obtain ⟨f10, lb⟩ := loop_b hS3 [.bl true, .bl false, .int (-1), .str "3", .tup [], .lst [], .str "endless", .tup [.int 0], .int (-1 - n2)] none (by
    intro x m
    simp only [List.mem_cons, List.not_mem_nil, or_false] at m
    rcases m with rfl | rfl | rfl | rfl | rfl | rfl | rfl | rfl | rfl
    · exact ⟨.bl _, rfl, fun e => nomatch e⟩
    · exact ⟨.bl _, rfl, fun e => nomatch e⟩
    · exact ⟨.int _, rfl, fun e => nomatch e⟩
    · exact ⟨.str _, rfl, fun e => nomatch e⟩
    · exact ⟨.tup rfl, rfl, fun e => nomatch e⟩
    · exact ⟨.lst rfl, rfl, fun e => nomatch e⟩
    · exact ⟨.str _, rfl, fun e => nomatch e⟩
    · exact ⟨.tup rfl, rfl, fun e => nomatch e⟩
    · exact ⟨.int _, by simp [numB]; omega, fun e => nomatch e⟩) (e0 := some d) (e1 := some (.cell 0)) (e2 := some (.cell 1)) (e3 := f3) (e4 := some (.lst (as.map W))) (e5 := none) (e6 := f6) (e7 := f7) (e8 := some (.lst od)) (e9 := f9)
  have fit3 := e_fits hS3 (a := some n3) (fun n e => by cases e; omega)
  have fitN := e_fits hS3 (a := none) (fun n e => nomatch e)
  have i3 := iS hS3 (n := n3)
  have iN3 := iN hS3
  have hlen : oLen [.cell 1] [t2.c, .lst (as.map aD)] = ret (.int 8) [t2.c, .lst (as.map aD)] := by
    have : oLen [.cell 1] [t2.c, .lst (as.map aD)] = ret (.int ((as.map aD).length : Nat)) [t2.c, .lst (as.map aD)] := rfl
    rw [this, List.length_map, h8]
    rfl
  refine ⟨[t3.c].take 0, def_rt (S := []) (S1 := [t3.c, .lst (as.map aD)]) ?_ rfl hS3⟩
  rw [B_law]
  refine (seq_nx (ρ' := [some d, some (.cell 0), none, none, none, none, none, none, none, none, none]) (S' := [(⟨ns, 0, 0, 0⟩ : Tp).c]) ?_).trans ?_
  · simp (disch := first | assumption | (simp only [Pv.evl]; omega) | omega | fail) only [Pv.evs0, Pv.evs1, Pv.evs2, Pv.evs3, List.reduceReplicate, reduceIte, Nat.reduceAdd, Nat.reduceSub, Nat.reduceBEq, String.reduceEq, Int.reduceNeg, Int.reduceAdd, Int.reduceSub, e0]
  refine (seq_nx (ρ' := [some d, some (.cell 0), some (.cell 1), none, none, none, none, none, none, none, none]) (S' := [t1.c, .lst [.int n0, .int n1, .int n2, .int n3, .int n4, .int 0, .non]]) ?_).trans ?_
  · have h5 : (5 : Int).toNat = 5 := rfl
    simp (disch := first | assumption | (simp only [Pv.evl]; omega) | omega | fail) only [Pv.evs0, Pv.evs1, Pv.evs2, Pv.evs3, List.reduceReplicate, reduceIte, Nat.reduceAdd, Nat.reduceSub, Nat.reduceBEq, String.reduceEq, Int.reduceNeg, Int.reduceAdd, Int.reduceSub, h5, c1]
  refine (seq_nx (ρ' := [some d, some (.cell 0), some (.cell 1), none, none, none, none, none, none, none, none]) (S' := [t2.c, .lst (as.map aD)]) ?_).trans ?_
  · rw [ev_sDrop, app _ rfl rfl]
    rfl
  refine (seq_nx (ρ' := [some d, some (.cell 0), some (.cell 1), none, some (.lst (as.map W)), none, none, none, none, none, none]) (S' := [t2.c, .lst (as.map aD)]) ?_).trans ?_
  · have cm := compL_cell (tg := .nm 5) (S := [t2.c, .lst (as.map aD)]) (j := 1) (f := aD) (g := W) (xs := as) (ρ := [some d, some (.cell 0), some (.cell 1), none, none, none, none, none, none, none, none]) (fe := (eIf (eTru (eBin (oIs true) (eVar 5) (eC .non))) (eNew "Width" 1 F_Width___init__ [] (eCons (eVar 5) eNil)) (eNew "Width" 1 F_Width___init__ [.non] eNil))) rfl (fun x _ => ⟨_, rfl, e_made hS2 (i := 5) rfl⟩) (by rw [h8]; decide) 1000000 0 [] (by omega) rfl (by omega)
    rw [List.drop_zero, List.nil_append] at cm
    simp (disch := first | assumption | (simp only [Pv.evl]; omega) | omega | fail) only [Pv.evs0, Pv.evs1, Pv.evs2, Pv.evs3, List.reduceReplicate, reduceIte, Nat.reduceAdd, Nat.reduceSub, Nat.reduceBEq, String.reduceEq, Int.reduceNeg, Int.reduceAdd, Int.reduceSub, cm]
  have e8 : (8 : Int).toNat = 8 := rfl
  have e12 : (12 : Int).toNat = 12 := rfl
  have hlo : oLen [.lst od] [t2.c, .lst (as.map aD)] = ret (.int 12) [t2.c, .lst (as.map aD)] := rfl
  refine (seq_nx (ρ' := [some d, some (.cell 0), some (.cell 1), none, some (.lst (as.map W)), none, f6, f7, none, none, none]) (S' := [t2.c, .lst (as.map aD)]) ?_).trans ?_
  · simp (disch := first | assumption | (simp only [Pv.evl]; omega) | omega | fail) only [Pv.evs0, Pv.evs1, Pv.evs2, Pv.evs3, List.reduceReplicate, reduceIte, Nat.reduceAdd, Nat.reduceSub, Nat.reduceBEq, String.reduceEq, Int.reduceNeg, Int.reduceAdd, Int.reduceSub, hlen, e8, li]
  refine (seq_nx (ρ' := [some d, some (.cell 0), some (.cell 1), none, some (.lst (as.map W)), none, f6, f7, some (.lst od), none, none]) (S' := [t2.c, .lst (as.map aD)]) ?_).trans ?_
  · have a0' : oIx (.cell 1) (.int 0) [t2.c, .lst (as.map aD)] = ret (.int n0) [t2.c, .lst (as.map aD)] := a0
    have a1' : oIx (.cell 1) (.int 1) [t2.c, .lst (as.map aD)] = ret (.int n1) [t2.c, .lst (as.map aD)] := a1
    simp (disch := first | assumption | (simp only [Pv.evl]; omega) | omega | fail) only [Pv.evs0, Pv.evs1, Pv.evs2, Pv.evs3, List.reduceReplicate, reduceIte, Nat.reduceAdd, Nat.reduceSub, Nat.reduceBEq, String.reduceEq, Int.reduceNeg, Int.reduceAdd, Int.reduceSub, a0', a1', x0]
    rfl
  refine (seq_nx (ρ' := [some d, some (.cell 0), some (.cell 1), f3, some (.lst (as.map W)), none, f6, f7, some (.lst od), f9, none]) (S' := [t3.c, .lst (as.map aD)]) ?_).trans ?_
  · simp (disch := first | assumption | (simp only [Pv.evl]; omega) | omega | fail) only [Pv.evs0, Pv.evs1, Pv.evs2, Pv.evs3, List.reduceReplicate, reduceIte, Nat.reduceAdd, Nat.reduceSub, Nat.reduceBEq, String.reduceEq, Int.reduceNeg, Int.reduceAdd, Int.reduceSub, hlo, e12, lo]
  refine (seq_nx (ρ' := [some d, some (.cell 0), some (.cell 1), f3, some (.lst (as.map W)), none, f6, f7, some (.lst od), f9, f10]) (S' := [t3.c, .lst (as.map aD)]) ?_).trans ?_
  · have z2' : oIx (.cell 1) (.int 2) [t3.c, .lst (as.map aD)] = ret (.int n2) [t3.c, .lst (as.map aD)] := z2
    simp (disch := first | assumption | (simp only [Pv.evl]; omega) | omega | fail) only [Pv.evs0, Pv.evs1, Pv.evs2, Pv.evs3, List.reduceReplicate, reduceIte, Nat.reduceAdd, Nat.reduceSub, Nat.reduceBEq, String.reduceEq, Int.reduceNeg, Int.reduceAdd, Int.reduceSub, z2', lb]
  have z3' : oIx (.cell 1) (.int 3) [t3.c, .lst (as.map aD)] = ret (.int n3) [t3.c, .lst (as.map aD)] := z3
  simp only [W, aD] at fit3 fitN
  simp (disch := first | assumption | (simp only [Pv.evl]; omega) | omega | fail) only [Pv.evs0, Pv.evs1, Pv.evs2, Pv.evs3, List.reduceReplicate, reduceIte, Nat.reduceAdd, Nat.reduceSub, Nat.reduceBEq, String.reduceEq, Int.reduceNeg, Int.reduceAdd, Int.reduceSub, evv, z3', i3, iN3, fit3, fitN, Bool.and_self]
end K23
namespace K23
open PySem PySem.Spec Pv
theorem holds : PySem.Challenge.rw_enoughcharge_k23_width_values.Holds := holds_of fun ns d hl _ h => law_ok h hl
end K23
set_option maxRecDepth 100000 in
theorem PySem.Challenge.cw_enoughcharge_k23_width_values_holds : PySem.Challenge.rw_enoughcharge_k23_width_values.Holds := by
  exact K23.holds
