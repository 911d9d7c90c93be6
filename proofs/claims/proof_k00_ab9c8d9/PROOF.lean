import PyProof.Rows.All
import Wide.All
import OpenK.AllK
import Wide.FinOn
import HandS.ForMost
import HandS.Wide
import HandS.Style
import HandS.Strs
import HandS.Conv
import HandS.Zip
import HandS.Exc
import HandS.ExcValue
import HandS.RaiseMore
import HandS.TupLe
import HandS.TryOnly
import HandS.ExcOwn
import HandS.WordsExc
import HandS.Star
import HandS.IsInst
import HandS.SetKeys
import HandS.BoundDict
import HandS.WideBits
import HandS.OwnEq
import PySem.Challenge.RW_buzzround_k00_errors
import HandS.SetBool
import KE.KDictLaws
import HandS.Walk
import HandS.Iter
import HandS.Sort
import HandS.Evl
import OpenK.KMeth
import HandS.Defaults
import KE.KOpsOwn
import HandS.Codes
import HandS.EndBits
import PyProof.ReprRoads
import KE.GoesEnum
import KE.GoesMore
import PyProof.EnumMake
import HandS.Deep
import KE.DataFind
import HandS.ExcInit
import HandS.ExcField
import HandS.Text
import KE.KExcIs
import PyProof.LongRange
import PyProof.StrLawsRepr
set_option Elab.async false
set_option linter.all false
set_option maxRecDepth 100000
set_option maxHeartbeats 4000000
set_option exponentiation.threshold 300
/-! a dict by flat tuples of whole numbers, truth values, None -/
namespace L2
open PySem
abbrev FK := List (Option Int)
def fkLeaf : Option Int → Int
  | none => reduceHash 0xFCA86420
  | some i => hashInt i
def fkHash (k : FK) : Int := reduceHash (Builtin.Tuple.tupleHashOf (k.map fkLeaf))
def entF (x : FK × Addr × Value) : DictEntry := ⟨fkHash x.1, .ref x.2.1, x.2.2⟩
def FKs (kvs : List (FK × Addr × V)) (xs : List (FK × Addr × Value)) : Prop := Paired (fun (p : FK × Addr × V) (q : FK × Addr × Value) => p.1 = q.1 ∧ p.2.1 = q.2.1 ∧ RelV p.2.2 q.2.2) kvs xs
def DNO (a : Addr) (kvs : List (FK × Addr × V)) : HO := .ext fun h => kvs.length ≤ sizeLine ∧ (a == sysModules) = false ∧ ∃ xs : List (FK × Addr × Value), FKs kvs xs ∧ ∃ o es ep, h.get? a = some o ∧ o.ExactDict ∧ o.data = .dict es ep ∧ es.toList = xs.map entF ∧ (xs.map (·.1)).Nodup
end L2

/-! values without addresses: a reading of the readings -/
namespace A
open PySem L2
/-- what may change, and what a cache keeps -/
structure Cfg where
  K : PySem.W.Frag
  τ : Type
  mu : HO → Prop
  Iv : τ → Hp → (Addr → Option (Option τ)) → HO → Prop
  ml : ∀ xs, mu (.lst xs)
  κ : Type
  Cl : κ → HO → Prop
abbrev Mt (G : Cfg) := Addr → Option (Option G.τ)
/-- later: what does not change stays, what changes was so or is new, a cache stays one -/
structure Le {G : Cfg} (H : Hp) (T : Mt G) (H' : Hp) (T' : Mt G) : Prop where
  kp : ∀ b o, H b = some o → T b = none → H' b = some o
  tm : ∀ a, T' a ≠ none → T a ≠ none ∨ H a = none
  ca : ∀ a c, T a = some (some c) → T' a = some (some c)
theorem Le.refl {G : Cfg} (H : Hp) (T : Mt G) : Le H T H T := ⟨fun _ _ e _ => e, fun _ e => .inl e, fun _ _ e => e⟩
theorem Le.trans {G : Cfg} {H H1 H2 : Hp} {T T1 T2 : Mt G} (a : Le H T H1 T1) (b : Le H1 T1 H2 T2) : Le H T H2 T2 := by
  have key : ∀ x, T1 x ≠ none → T x ≠ none ∨ H x = none := a.tm
  refine ⟨fun x o e t => ?_, fun x e => ?_, fun x c e => b.ca _ _ (a.ca _ _ e)⟩
  · refine b.kp _ _ (a.kp _ _ e t) ?_
    cases h : T1 x with
    | none => rfl
    | some m =>
      rcases key x (by rw [h]; intro z; cases z) with z | z
      · exact absurd t z
      · rw [z] at e; cases e
  · rcases b.tm x e with z | z
    · exact key x z
    · cases t : T x with
      | some m => exact .inl (by intro w; cases w)
      | none =>
        refine .inr ?_
        cases h : H x with
        | none => rfl
        | some o => rw [a.kp _ _ h t] at z; cases z
/-- values as data; an object by what is told of it, once and for all later -/
inductive D (G : Cfg) where
  | non | bl (b : Bool) | int (i : Int) | str (s : Str)
  | tup (ds : List (D G)) | lst (ds : List (D G))
  | ob (φ : Hp → Mt G → V → Prop)
variable {G : Cfg}
def Tp (K : PySem.W.Frag) (a : Addr) (xs : List V) : Prop := ∃ (o : Obj) (its : Array Value) (n : Nat), K.lookup a = some o ∧ o.cls = .type "tuple" ∧ o.data = .seq its n ∧ its.size ≤ sizeLine ∧ Vals xs its.toList
mutual
def VD (H : Hp) (T : Mt G) : D G → V → Prop
  | .non, v => v = .non
  | .bl b, v => v = .bl b
  | .int i, v => v = .int i
  | .str s, v => v = .str s
  | .tup ds, v => ∃ a xs, v = .ref a ∧ ((Rd H a (.tup xs) ∧ T a = none) ∨ Tp G.K a xs) ∧ VDs H T ds xs
  | .lst ds, v => ∃ a xs, v = .ref a ∧ (H a = some (.lst xs) ∧ T a = none) ∧ VDs H T ds xs
  | .ob φ, v => ∃ H0 T0, Le H0 T0 H T ∧ φ H0 T0 v
def VDs (H : Hp) (T : Mt G) : List (D G) → List V → Prop
  | [], xs => xs = []
  | d :: ds, xs => ∃ x r, xs = x :: r ∧ VD H T d x ∧ VDs H T ds r
end
theorem Rd.le {H H' : Hp} {T T' : Mt G} (h : Le H T H' T') {a : Addr} {u : HO} (r : Rd H a u) (t : T a = none) : Rd H' a u ∧ T' a = none := by
  have hn : T' a = none := by
    cases e : T' a with
    | none => rfl
    | some m =>
      rcases h.tm a (by rw [e]; intro z; cases z) with z | z
      · exact absurd t z
      · rcases r with r | ⟨o, r⟩ <;> rw [z] at r <;> cases r
  rcases r with r | ⟨o, r⟩
  · exact ⟨.inl (h.kp _ _ r t), hn⟩
  · exact ⟨.inr ⟨o, h.kp _ _ r t⟩, hn⟩
mutual
theorem VD.le {H H' : Hp} {T T' : Mt G} (h : Le H T H' T') : ∀ {d : D G} {v : V}, VD H T d v → VD H' T' d v
  | .non, _, e => e
  | .bl _, _, e => e
  | .int _, _, e => e
  | .str _, _, e => e
  | .tup ds, v, ⟨a, xs, e, r, k⟩ => ⟨a, xs, e, r.imp (fun r => Rd.le h r.1 r.2) id, VDs.le h k⟩
  | .lst ds, v, ⟨a, xs, e, r, k⟩ => ⟨a, xs, e, ⟨h.kp _ _ r.1 r.2, (Rd.le h (.inl r.1) r.2).2⟩, VDs.le h k⟩
  | .ob φ, v, ⟨H0, T0, l, q⟩ => ⟨H0, T0, l.trans h, q⟩
theorem VDs.le {H H' : Hp} {T T' : Mt G} (h : Le H T H' T') : ∀ {ds : List (D G)} {xs : List V}, VDs H T ds xs → VDs H' T' ds xs
  | [], _, e => e
  | d :: ds, xs, ⟨x, r, e, k, j⟩ => ⟨x, r, e, VD.le h k, VDs.le h j⟩
end
theorem VDs.length {H : Hp} {T : Mt G} : ∀ {ds : List (D G)} {xs : List V}, VDs H T ds xs → xs.length = ds.length
  | [], _, e => by rw [show _ = [] from e]; rfl
  | d :: ds, xs, ⟨x, r, e, k, j⟩ => by rw [e, List.length_cons, List.length_cons, VDs.length j]
theorem VDs.get {H : Hp} {T : Mt G} : ∀ {ds : List (D G)} {xs : List V}, VDs H T ds xs → ∀ {i : Nat} {d : D G}, ds[i]? = some d → ∃ x, xs[i]? = some x ∧ VD H T d x
  | [], _, _, i, d, e => by simp at e
  | d :: ds, xs, ⟨x, r, e, k, j⟩, i, d', h => by
    subst e
    cases i with
    | zero => simp at h; subst h; exact ⟨x, rfl, k⟩
    | succ i => simp at h ⊢; exact VDs.get j h
theorem VDs.app {H : Hp} {T : Mt G} : ∀ {ds es : List (D G)} {xs ys : List V}, VDs H T ds xs → VDs H T es ys → VDs H T (ds ++ es) (xs ++ ys)
  | [], es, _, ys, e, k => by rw [show _ = [] from e]; exact k
  | d :: ds, es, xs, ys, ⟨x, r, e, k, j⟩, q => ⟨x, r ++ ys, by rw [e]; rfl, k, VDs.app j q⟩
theorem VDs.snoc {H : Hp} {T : Mt G} {ds : List (D G)} {xs : List V} {d : D G} {v : V} (h : VDs H T ds xs) (k : VD H T d v) : VDs H T (ds ++ [d]) (xs ++ [v]) := VDs.app h ⟨v, [], rfl, k, rfl⟩
theorem VDs.drop {H : Hp} {T : Mt G} : ∀ {ds : List (D G)} {xs : List V} (n : Nat), VDs H T ds xs → VDs H T (ds.drop n) (xs.drop n)
  | ds, xs, 0, h => h
  | [], xs, n + 1, e => by rw [show xs = [] from e]; simp; rfl
  | d :: ds, xs, n + 1, ⟨x, r, e, k, j⟩ => by subst e; exact VDs.drop n j
theorem VDs.take {H : Hp} {T : Mt G} : ∀ {ds : List (D G)} {xs : List V} (n : Nat), VDs H T ds xs → VDs H T (ds.take n) (xs.take n)
  | ds, xs, 0, h => by rw [List.take_zero, List.take_zero]; rfl
  | [], xs, n + 1, e => by rw [show xs = [] from e]; simp; rfl
  | d :: ds, xs, n + 1, ⟨x, r, e, k, j⟩ => by subst e; exact ⟨x, _, rfl, k, VDs.take n j⟩
theorem VDs.rev {H : Hp} {T : Mt G} : ∀ {ds : List (D G)} {xs : List V}, VDs H T ds xs → VDs H T ds.reverse xs.reverse
  | [], _, e => by rw [show _ = [] from e]; rfl
  | d :: ds, xs, ⟨x, r, e, k, j⟩ => by subst e; rw [List.reverse_cons, List.reverse_cons]; exact VDs.snoc (VDs.rev j) k
/-- a value in a slot: data, or a list (or another object) of the def's own that may change -/
inductive SV (G : Cfg) where
  | d (x : D G) | cel (i : Nat)
inductive Cell (G : Cfg) where
  | dead | lst (ds : List (D G)) | any (c : G.κ) | obj (C : Addr) (fs : List (Str × SV G)) | dct (lk : Bool) (kvs : List (D G × D G))
abbrev Cs (G : Cfg) := List (Cell G)
structure AS (G : Cfg) where
  ρ : List (Option (SV G))
  cs : Cs G
/-- the world: what stands where, what may change, where the cells are -/
structure Wd (G : Cfg) where
  H : Hp
  T : Mt G
  ads : List Addr
def VS (Ω : Wd G) : SV G → V → Prop
  | .d x, v => VD Ω.H Ω.T x v
  | .cel i, v => ∃ a, Ω.ads[i]? = some a ∧ v = .ref a
def VSs (Ω : Wd G) : List (SV G) → List V → Prop
  | [], xs => xs = []
  | d :: ds, xs => ∃ x r, xs = x :: r ∧ VS Ω d x ∧ VSs Ω ds r
def leafD : D G → Option (Option Int)
  | .non => some none
  | .bl b => some (some (if b then 1 else 0))
  | .int i => some (some i)
  | _ => none
def leavesD : List (D G) → Option FK
  | [] => some []
  | d :: r => match leafD d, leavesD r with
    | some k, some ks => some (k :: ks)
    | _, _ => none
/-- the key that a value is -/
def fkD : D G → Option FK
  | .tup ds => leavesD ds
  | _ => none
def DctR (H : Hp) (T : Mt G) : List (D G × D G) → List (FK × Addr × V) → Prop
  | [], xs => xs = []
  | p :: r, xs => ∃ f b v t, xs = (f, b, v) :: t ∧ fkD p.1 = some f ∧ VD H T p.1 (.ref b) ∧ VD H T p.2 v ∧ DctR H T r t
theorem DctR.le {H H' : Hp} {T T' : Mt G} (h : Le H T H' T') : ∀ {kvs : List (D G × D G)} {xs : List (FK × Addr × V)}, DctR H T kvs xs → DctR H' T' kvs xs
  | [], _, e => e
  | p :: r, _, ⟨f, b, v, t, e, h1, h2, h3, h4⟩ => ⟨f, b, v, t, e, h1, h2.le h, h3.le h, DctR.le h h4⟩
def CellOk (Ω : Wd G) (a : Addr) : Cell G → Prop
  | .dead => True
  | .lst ds => Ω.T a = some none ∧ ∃ xs, Ω.H a = some (.lst xs) ∧ VDs Ω.H Ω.T ds xs
  | .any c => Ω.T a = some none ∧ ∃ o, Ω.H a = some o ∧ G.Cl c o
  | .obj C fs => Ω.T a = some none ∧ ∃ dx gs, Ω.H a = some (.ins C dx gs) ∧ gs.map (·.1) = fs.map (·.1) ∧ VSs Ω (fs.map (·.2)) (gs.map (·.2))
  | .dct lk kvs => Ω.T a = some none ∧ ∃ o xs, Ω.H a = some o ∧ (if lk then ∃ ob, o = .frz ob (DNO a xs) else o = DNO a xs) ∧ DctR Ω.H Ω.T kvs xs
def Wle (Ω Ω' : Wd G) : Prop := Le Ω.H Ω.T Ω'.H Ω'.T ∧ Ω.ads <+: Ω'.ads
theorem Wle.refl (Ω : Wd G) : Wle Ω Ω := ⟨Le.refl _ _, List.prefix_refl _⟩
theorem Wle.trans {Ω Ω1 Ω2 : Wd G} (a : Wle Ω Ω1) (b : Wle Ω1 Ω2) : Wle Ω Ω2 := ⟨a.1.trans b.1, a.2.trans b.2⟩
theorem pre_get {α : Type} {l m : List α} (h : l <+: m) {i : Nat} {x : α} (e : l[i]? = some x) : m[i]? = some x := by
  obtain ⟨t, rfl⟩ := h
  rw [List.getElem?_append_left (List.getElem?_eq_some_iff.mp e).1]
  exact e
theorem VS.le {Ω Ω' : Wd G} (h : Wle Ω Ω') : ∀ {x : SV G} {v : V}, VS Ω x v → VS Ω' x v
  | .d x, v, e => VD.le h.1 e
  | .cel i, v, ⟨a, e, r⟩ => ⟨a, pre_get h.2 e, r⟩
theorem VSs.le {Ω Ω' : Wd G} (h : Wle Ω Ω') : ∀ {xs : List (SV G)} {vs : List V}, VSs Ω xs vs → VSs Ω' xs vs
  | [], _, e => e
  | d :: ds, xs, ⟨x, r, e, k, j⟩ => ⟨x, r, e, VS.le h k, VSs.le h j⟩
/-- what is well at any time -/
structure Good (H : Hp) (T : Mt G) : Prop where
  ex : ∀ a, T a ≠ none → ∃ o, H a = some o ∧ G.mu o
  iv : ∀ a c, T a = some (some c) → ∃ o, H a = some o ∧ ∃ H0 T0, Le H0 T0 H T ∧ G.Iv c H0 T0 o
/-- the entry: what stood there, and which of what may change was handed over -/
structure Fr (G : Cfg) where
  H : Hp
  T : Mt G
  P : Addr → Prop
structure Rel (Φ : Fr G) (S : AS G) (σ : L2.St) (Ω : Wd G) : Prop where
  good : Good Ω.H Ω.T
  le0 : Le Φ.H Φ.T Ω.H Ω.T
  fr : ∀ a, Φ.T a = some none → ¬ Φ.P a → Ω.T a = some none ∧ Ω.H a = Φ.H a
  nd : Ω.ads.Nodup
  own : ∀ a, a ∈ Ω.ads → Φ.P a ∨ Φ.H a = none
  len : Ω.ads.length = S.cs.length
  al : ∀ a, a ∈ Ω.ads → Ω.H a ≠ none
  cells : ∀ (i : Nat) (c : Cell G) (a : Addr), S.cs[i]? = some c → Ω.ads[i]? = some a → CellOk Ω a c
  sl : S.ρ.length = σ.length
  slots : ∀ (i : Nat) (d : SV G), S.ρ[i]? = some (some d) → ∃ v, σ[i]? = some (some v) ∧ VS Ω d v
  g0 : Good Φ.H Φ.T
end A

namespace A
open PySem L2
variable {G : Cfg} {Φ : Fr G} {S : AS G} {σ : L2.St} {Ω : Wd G}
theorem nd_inj {α : Type} {l : List α} (h : l.Nodup) {i j : Nat} {x : α} (h1 : l[i]? = some x) (h2 : l[j]? = some x) : i = j := by
  obtain ⟨l1, e1⟩ := List.getElem?_eq_some_iff.mp h1
  obtain ⟨l2, e2⟩ := List.getElem?_eq_some_iff.mp h2
  have P := List.pairwise_iff_getElem.mp h
  rcases Nat.lt_trichotomy i j with c | c | c
  · exact absurd (e1.trans e2.symm) (P i j l1 l2 c)
  · exact c
  · exact absurd (e2.trans e1.symm) (P j i l2 l1 c)
theorem Good.tn {H : Hp} {T : Mt G} (g : Good H T) {a : Addr} (h : H a = none) : T a = none := by
  cases e : T a with
  | none => rfl
  | some m =>
    obtain ⟨o, z, _⟩ := g.ex a (by rw [e]; intro z; cases z)
    rw [z] at h; cases h
/-- what was not there at present was not there at the entry, or was handed over -/
theorem Rel.fresh (R : Rel Φ S σ Ω) {a : Addr} (h : Ω.H a = none) : Φ.P a ∨ Φ.H a = none := by
  cases e : Φ.H a with
  | none => exact .inr rfl
  | some o =>
    cases t : Φ.T a with
    | none => rw [R.le0.kp _ _ e t] at h; cases h
    | some m =>
      cases m with
      | some c =>
        have := R.le0.ca _ _ t
        rw [R.good.tn h] at this; cases this
      | none =>
        by_cases p : Φ.P a
        · exact .inl p
        · have := (R.fr a t p).2
          rw [h, e] at this; cases this
theorem CellOk.le {Ω Ω' : Wd G} (h : Wle Ω Ω') {a : Addr} {c : Cell G} (hT : Ω.T a = some none → Ω'.T a = some none) (hH : Ω.T a = some none → ∀ o, Ω.H a = some o → Ω'.H a = some o) (k : CellOk Ω a c) : CellOk Ω' a c := by
  cases c with
  | dead => trivial
  | lst ds =>
    obtain ⟨t, xs, e, v⟩ := k
    exact ⟨hT t, xs, hH t _ e, v.le h.1⟩
  | any φ =>
    obtain ⟨t, o, e, v⟩ := k
    exact ⟨hT t, o, hH t _ e, v⟩
  | obj C fs =>
    obtain ⟨t, dx, gs, e, en, v⟩ := k
    exact ⟨hT t, dx, gs, hH t _ e, en, v.le h⟩
  | dct lk kvs =>
    obtain ⟨t, o, xs, e, eo, v⟩ := k
    exact ⟨hT t, o, xs, hH t _ e, eo, v.le h.1⟩
/-- all that was is as it was; new things stand beside it -/
theorem le_same {H H' : Hp} {T : Mt G} (s : Same H H') : Le H T H' T := ⟨fun b o e _ => s b o e, fun a e => .inl e, fun _ _ e => e⟩
theorem Good.same {H H' : Hp} {T : Mt G} (g : Good H T) (s : Same H H') : Good H' T := by
  refine ⟨fun a e => ?_, fun a c e => ?_⟩
  · obtain ⟨o, h1, h2⟩ := g.ex a e
    exact ⟨o, s _ _ h1, h2⟩
  · obtain ⟨o, h1, H0, T0, l, q⟩ := g.iv a c e
    exact ⟨o, s _ _ h1, H0, T0, l.trans (le_same s), q⟩
theorem wle_same {H' : Hp} (s : Same Ω.H H') : Wle Ω ⟨H', Ω.T, Ω.ads⟩ := ⟨le_same s, List.prefix_refl _⟩
theorem Rel.same (R : Rel Φ S σ Ω) {H' : Hp} (s : Same Ω.H H') : Rel Φ S σ ⟨H', Ω.T, Ω.ads⟩ := by
  have w : Wle Ω ⟨H', Ω.T, Ω.ads⟩ := wle_same s
  refine ⟨R.good.same s, R.le0.trans w.1, fun a t p => ?_, R.nd, R.own, R.len, fun a m z => ?_, fun i c a h1 h2 => (R.cells i c a h1 h2).le w id (fun _ o e => s _ _ e), R.sl, fun i d h => ?_, R.g0⟩
  · obtain ⟨h1, h2⟩ := R.fr a t p
    refine ⟨h1, ?_⟩
    obtain ⟨o, e, _⟩ := R.good.ex a (by rw [h1]; intro z; cases z)
    show H' a = Φ.H a
    rw [← h2, e]; exact s _ _ e
  · obtain ⟨o, e⟩ : ∃ o, Ω.H a = some o := by
      cases e : Ω.H a with
      | none => exact absurd e (R.al a m)
      | some o => exact ⟨o, rfl⟩
    have z' : H' a = none := z
    rw [s _ _ e] at z'; cases z'
  · obtain ⟨v, h1, h2⟩ := R.slots i d h
    exact ⟨v, h1, h2.le w⟩
theorem same_upd {H : Hp} {p : Addr} {o : HO} (h : H p = none) : Same H (upd H p o) := fun x u e => by rw [upd_ne (ne_of_none e h)]; exact e
theorem Rel.set (R : Rel Φ S σ Ω) {i : Nat} {x : SV G} {v : V} (h : VS Ω x v) : Rel Φ ⟨S.ρ.set i (some x), S.cs⟩ (σ.set i (some v)) Ω := by
  refine { R with sl := by simp [R.sl], slots := fun j d e => ?_ }
  by_cases c : i = j
  · subst c
    have hl : i < S.ρ.length := by
      have := (List.getElem?_eq_some_iff.mp e).1
      simpa using this
    have e2 : (S.ρ.set i (some x))[i]? = some (some d) := e
    rw [List.getElem?_set_self hl] at e2
    cases e2
    exact ⟨v, by rw [List.getElem?_set_self (by rw [← R.sl]; exact hl)], h⟩
  · have e2 : (S.ρ.set i (some x))[j]? = some (some d) := e
    rw [List.getElem?_set_ne c] at e2
    obtain ⟨u, h1, h2⟩ := R.slots j d e2
    exact ⟨u, by rw [List.getElem?_set_ne c]; exact h1, h2⟩
/-- fewer slots are known -/
theorem Rel.forget (R : Rel Φ S σ Ω) {ρ' : List (Option (SV G))} {σ' : L2.St} (hl : ρ'.length = σ'.length) (h : ∀ (i : Nat) (d : SV G), ρ'[i]? = some (some d) → ∃ v, σ'[i]? = some (some v) ∧ VS Ω d v) : Rel Φ ⟨ρ', S.cs⟩ σ' Ω := { R with sl := hl, slots := h }
def mset (T : Mt G) (a : Addr) (m : Option (Option G.τ)) : Mt G := fun b => if b = a then m else T b
theorem mset_same {T : Mt G} {a : Addr} {m} : mset T a m a = m := by unfold mset; rw [if_pos rfl]
theorem mset_ne {T : Mt G} {a b : Addr} {m} (h : b ≠ a) : mset T a m b = T b := by unfold mset; rw [if_neg h]
theorem le_new {H : Hp} {T : Mt G} (g : Good H T) {p : Addr} {o : HO} {m} (h : H p = none) : Le H T (upd H p o) (mset T p m) := by
  refine ⟨fun b u e _ => same_upd h b u e, fun a e => ?_, fun a c e => ?_⟩
  · by_cases z : a = p
    · subst z; exact .inr h
    · rw [mset_ne z] at e; exact .inl e
  · have z : a ≠ p := fun z => by subst z; rw [g.tn h] at e; cases e
    rw [mset_ne z]; exact e
theorem Good.new {H : Hp} {T : Mt G} (g : Good H T) {p : Addr} {o : HO} (h : H p = none) (ho : G.mu o) : Good (upd H p o) (mset T p (some none)) := by
  refine ⟨fun a e => ?_, fun a c e => ?_⟩
  · by_cases z : a = p
    · subst z; exact ⟨o, upd_same, ho⟩
    · rw [mset_ne z] at e
      obtain ⟨u, h1, h2⟩ := g.ex a e
      exact ⟨u, by rw [upd_ne z]; exact h1, h2⟩
  · have z : a ≠ p := fun z => by subst z; rw [mset_same] at e; cases e
    rw [mset_ne z] at e
    obtain ⟨u, h1, H0, T0, l, q⟩ := g.iv a c e
    exact ⟨u, by rw [upd_ne z]; exact h1, H0, T0, l.trans (le_new g h), q⟩
/-- a new thing that may change, beside the cells -/
theorem Rel.new (R : Rel Φ S σ Ω) {p : Addr} {o : HO} (h : Ω.H p = none) (ho : G.mu o) : Rel Φ S σ ⟨upd Ω.H p o, mset Ω.T p (some none), Ω.ads⟩ ∧ Wle Ω ⟨upd Ω.H p o, mset Ω.T p (some none), Ω.ads⟩ ∧ p ∉ Ω.ads := by
  have np : p ∉ Ω.ads := fun z => R.al p z h
  have w : Wle Ω ⟨upd Ω.H p o, mset Ω.T p (some none), Ω.ads⟩ := ⟨le_new R.good h, List.prefix_refl _⟩
  have ne : ∀ {a}, Ω.T a ≠ none → a ≠ p := fun e z => by subst z; exact e (R.good.tn h)
  refine ⟨⟨R.good.new h ho, R.le0.trans w.1, fun a t q => ?_, R.nd, R.own, R.len, fun a m z => ?_, fun i c a h1 h2 => (R.cells i c a h1 h2).le w (fun t => ?_) (fun t o e => ?_), R.sl, fun i d e => ?_, R.g0⟩, w, np⟩
  · obtain ⟨h1, h2⟩ := R.fr a t q
    have := ne (a := a) (by rw [h1]; intro z; cases z)
    exact ⟨by show mset _ _ _ _ = _; rw [mset_ne this]; exact h1, by show upd _ _ _ _ = _; rw [upd_ne this]; exact h2⟩
  · have : a ≠ p := fun z => by subst z; exact np m
    have z' : upd Ω.H p o a = none := z
    rw [upd_ne this] at z'
    exact R.al a m z'
  · show mset _ _ _ _ = _
    rw [mset_ne (ne (by rw [t]; intro z; cases z))]; exact t
  · show upd _ _ _ _ = _
    rw [upd_ne (ne (by rw [t]; intro z; cases z))]; exact e
  · obtain ⟨v, h1, h2⟩ := R.slots i d e
    exact ⟨v, h1, h2.le w⟩
/-- .. it becomes a cell -/
theorem Rel.addCell (R : Rel Φ S σ Ω) {p : Addr} {c : Cell G} (np : p ∉ Ω.ads) (hp : Ω.H p ≠ none) (ho : Φ.P p ∨ Φ.H p = none) (hc : CellOk Ω p c) : Rel Φ ⟨S.ρ, S.cs ++ [c]⟩ σ ⟨Ω.H, Ω.T, Ω.ads ++ [p]⟩ ∧ Wle Ω ⟨Ω.H, Ω.T, Ω.ads ++ [p]⟩ ∧ VS ⟨Ω.H, Ω.T, Ω.ads ++ [p]⟩ (.cel S.cs.length) (.ref p) := by
  have w : Wle Ω ⟨Ω.H, Ω.T, Ω.ads ++ [p]⟩ := ⟨Le.refl _ _, List.prefix_append _ _⟩
  refine ⟨{ R with nd := ?_, own := ?_, len := by simp [R.len], al := ?_, cells := ?_, slots := ?_ }, w, p, ?_, rfl⟩
  · rw [List.nodup_append]
    exact ⟨R.nd, by simp, fun a ha b hb e => by rw [List.mem_singleton.mp hb] at e; exact np (e ▸ ha)⟩
  · intro a m
    rcases List.mem_append.mp m with z | z
    · exact R.own a z
    · rw [List.mem_singleton.mp z]; exact ho
  · intro a m
    rcases List.mem_append.mp m with z | z
    · exact R.al a z
    · rw [List.mem_singleton.mp z]; exact hp
  · intro i c' a h1 h2
    have h1 : (S.cs ++ [c])[i]? = some c' := h1
    have h2 : (Ω.ads ++ [p])[i]? = some a := h2
    by_cases z : i < S.cs.length
    · rw [List.getElem?_append_left z] at h1
      rw [List.getElem?_append_left (by rw [R.len]; exact z)] at h2
      exact (R.cells i c' a h1 h2).le w id fun _ _ e => e
    · rw [List.getElem?_append_right (by omega)] at h1
      rw [List.getElem?_append_right (by rw [R.len]; omega), R.len] at h2
      have e0 : i - S.cs.length = 0 := by
        by_cases z : i - S.cs.length = 0
        · exact z
        · rw [List.getElem?_eq_none (by simp; omega)] at h1; cases h1
      rw [e0] at h1 h2
      cases h1; cases h2
      exact hc.le w id fun _ _ e => e
  · intro i d e
    obtain ⟨v, h1, h2⟩ := R.slots i d e
    exact ⟨v, h1, h2.le w⟩
  · show (Ω.ads ++ [p])[S.cs.length]? = some p
    rw [List.getElem?_append_right (by rw [R.len]; exact Nat.le_refl _), R.len]
    simp
/-- what may change is written -/
theorem le_put {H : Hp} {T : Mt G} {p : Addr} {o : HO} (t : T p ≠ none) : Le H T (upd H p o) T := ⟨fun b u e h => by rw [upd_ne (fun z => by subst z; exact t h)]; exact e, fun a e => .inl e, fun _ _ e => e⟩
theorem Good.put {H : Hp} {T : Mt G} (g : Good H T) {p : Addr} {o : HO} (t : T p = some none) (ho : G.mu o) : Good (upd H p o) T := by
  refine ⟨fun a e => ?_, fun a c e => ?_⟩
  · by_cases z : a = p
    · subst z; exact ⟨o, upd_same, ho⟩
    · obtain ⟨u, h1, h2⟩ := g.ex a e
      exact ⟨u, by rw [upd_ne z]; exact h1, h2⟩
  · have z : a ≠ p := fun z => by subst z; rw [t] at e; cases e
    obtain ⟨u, h1, H0, T0, l, q⟩ := g.iv a c e
    exact ⟨u, by rw [upd_ne z]; exact h1, H0, T0, l.trans (le_put (by rw [t]; intro z; cases z)), q⟩
theorem Rel.nfr (R : Rel Φ S σ Ω) {p : Addr} (h : Φ.P p ∨ Φ.H p = none) : ¬ (Φ.T p = some none ∧ ¬ Φ.P p) := fun ⟨t, q⟩ => by
  rcases h with z | z
  · exact q z
  · rw [R.g0.tn z] at t; cases t
/-- a thing beside the cells is written -/
theorem Rel.put (R : Rel Φ S σ Ω) {p : Addr} {o : HO} (t : Ω.T p = some none) (np : p ∉ Ω.ads) (hp : Φ.P p ∨ Φ.H p = none) (ho : G.mu o) : Rel Φ S σ ⟨upd Ω.H p o, Ω.T, Ω.ads⟩ ∧ Wle Ω ⟨upd Ω.H p o, Ω.T, Ω.ads⟩ := by
  have w : Wle Ω ⟨upd Ω.H p o, Ω.T, Ω.ads⟩ := ⟨le_put (by rw [t]; intro z; cases z), List.prefix_refl _⟩
  refine ⟨⟨R.good.put t ho, R.le0.trans w.1, fun a t' q => ?_, R.nd, R.own, R.len, fun a m z => ?_, fun i c a h1 h2 => (R.cells i c a h1 h2).le w id (fun t o e => ?_), R.sl, fun i d e => ?_, R.g0⟩, w⟩
  · obtain ⟨h1, h2⟩ := R.fr a t' q
    have : a ≠ p := fun z => by subst z; exact R.nfr hp ⟨t', q⟩
    exact ⟨h1, by show upd _ _ _ _ = _; rw [upd_ne this]; exact h2⟩
  · have : a ≠ p := fun z => by subst z; exact np m
    have z' : upd Ω.H p o a = none := z
    rw [upd_ne this] at z'
    exact R.al a m z'
  · have : a ≠ p := fun z => by subst z; exact np (List.mem_of_getElem? h2)
    show upd _ _ _ _ = _
    rw [upd_ne this]; exact e
  · obtain ⟨v, h1, h2⟩ := R.slots i d e
    exact ⟨v, h1, h2.le w⟩
/-- a cell is written -/
theorem Rel.write (R : Rel Φ S σ Ω) {i : Nat} {p : Addr} {o : HO} {c : Cell G} (hp : Ω.ads[i]? = some p) (t : Ω.T p = some none) (ho : G.mu o) (hc : CellOk ⟨upd Ω.H p o, Ω.T, Ω.ads⟩ p c) :
    Rel Φ ⟨S.ρ, S.cs.set i c⟩ σ ⟨upd Ω.H p o, Ω.T, Ω.ads⟩ ∧ Wle Ω ⟨upd Ω.H p o, Ω.T, Ω.ads⟩ := by
  have w : Wle Ω ⟨upd Ω.H p o, Ω.T, Ω.ads⟩ := ⟨le_put (by rw [t]; intro z; cases z), List.prefix_refl _⟩
  have mp := List.mem_of_getElem? hp
  refine ⟨⟨R.good.put t ho, R.le0.trans w.1, fun a t' q => ?_, R.nd, R.own, by simp [R.len], fun a m z => ?_, fun j c' a h1 h2 => ?_, R.sl, fun i d e => ?_, R.g0⟩, w⟩
  · obtain ⟨h1, h2⟩ := R.fr a t' q
    have : a ≠ p := fun z => by subst z; exact R.nfr (R.own _ mp) ⟨t', q⟩
    exact ⟨h1, by show upd _ _ _ _ = _; rw [upd_ne this]; exact h2⟩
  · by_cases e : a = p
    · subst e
      have z' : upd Ω.H a o a = none := z
      rw [upd_same] at z'; cases z'
    · have z' : upd Ω.H p o a = none := z
      rw [upd_ne e] at z'
      exact R.al a m z'
  · have h1 : (S.cs.set i c)[j]? = some c' := h1
    have h2 : Ω.ads[j]? = some a := h2
    by_cases e : i = j
    · subst e
      have hl : i < S.cs.length := by have := (List.getElem?_eq_some_iff.mp h1).1; simpa using this
      rw [List.getElem?_set_self hl] at h1
      cases h1
      rw [hp] at h2
      cases h2
      exact hc
    · rw [List.getElem?_set_ne e] at h1
      have ap : a ≠ p := fun z => by
        subst z
        exact e (nd_inj R.nd hp h2)
      exact (R.cells j c' a h1 h2).le w id fun _ o e => by show upd _ _ _ _ = _; rw [upd_ne ap]; exact e
  · obtain ⟨v, h1, h2⟩ := R.slots i d e
    exact ⟨v, h1, h2.le w⟩
/-- what may change becomes still -/
theorem le_still {H : Hp} {T : Mt G} {p : Addr} (t : T p = some none) : Le H T H (mset T p none) := ⟨fun b u e _ => e, fun a e => .inl (fun z => by
  by_cases c : a = p
  · subst c; rw [mset_same] at e; exact e rfl
  · rw [mset_ne c] at e; exact e z), fun a c e => by
  have z : a ≠ p := fun z => by subst z; rw [t] at e; cases e
  rw [mset_ne z]; exact e⟩
theorem Good.still {H : Hp} {T : Mt G} (g : Good H T) {p : Addr} (t : T p = some none) : Good H (mset T p none) := by
  refine ⟨fun a e => ?_, fun a c e => ?_⟩
  · refine g.ex a fun z => ?_
    by_cases c : a = p
    · subst c; rw [mset_same] at e; exact e rfl
    · rw [mset_ne c] at e; exact e z
  · have z : a ≠ p := fun z => by subst z; rw [mset_same] at e; cases e
    rw [mset_ne z] at e
    obtain ⟨u, h1, H0, T0, l, q⟩ := g.iv a c e
    exact ⟨u, h1, H0, T0, l.trans (le_still t), q⟩
theorem Rel.still (R : Rel Φ S σ Ω) {p : Addr} (t : Ω.T p = some none) (np : p ∉ Ω.ads) (hp : Φ.P p ∨ Φ.H p = none) : Rel Φ S σ ⟨Ω.H, mset Ω.T p none, Ω.ads⟩ ∧ Wle Ω ⟨Ω.H, mset Ω.T p none, Ω.ads⟩ := by
  have w : Wle Ω ⟨Ω.H, mset Ω.T p none, Ω.ads⟩ := ⟨le_still t, List.prefix_refl _⟩
  refine ⟨⟨R.good.still t, R.le0.trans w.1, fun a t' q => ?_, R.nd, R.own, R.len, R.al, fun i c a h1 h2 => (R.cells i c a h1 h2).le w (fun t' => ?_) (fun _ _ e => e), R.sl, fun i d e => ?_, R.g0⟩, w⟩
  · obtain ⟨h1, h2⟩ := R.fr a t' q
    have : a ≠ p := fun z => by subst z; exact R.nfr hp ⟨t', q⟩
    exact ⟨by show mset _ _ _ _ = _; rw [mset_ne this]; exact h1, h2⟩
  · have : a ≠ p := fun z => by subst z; exact np (List.mem_of_getElem? h2)
    show mset _ _ _ _ = _
    rw [mset_ne this]; exact t'
  · obtain ⟨v, h1, h2⟩ := R.slots i d e
    exact ⟨v, h1, h2.le w⟩
/-- a cell becomes data -/
theorem Rel.freeze (R : Rel Φ S σ Ω) {i : Nat} {p : Addr} {ds : List (D G)} (hp : Ω.ads[i]? = some p) (hc : S.cs[i]? = some (.lst ds)) : Rel Φ ⟨S.ρ, S.cs.set i .dead⟩ σ ⟨Ω.H, mset Ω.T p none, Ω.ads⟩ ∧ Wle Ω ⟨Ω.H, mset Ω.T p none, Ω.ads⟩ ∧ VD Ω.H (mset Ω.T p none) (.lst ds) (.ref p) := by
  obtain ⟨t, xs, eX, vs⟩ := R.cells i _ p hc hp
  have w : Wle Ω ⟨Ω.H, mset Ω.T p none, Ω.ads⟩ := ⟨le_still t, List.prefix_refl _⟩
  have mp := List.mem_of_getElem? hp
  refine ⟨⟨R.good.still t, R.le0.trans w.1, fun a t' q => ?_, R.nd, R.own, by simp [R.len], R.al, fun j c' a h1 h2 => ?_, R.sl, fun i d e => ?_, R.g0⟩, w, p, xs, rfl, ⟨eX, mset_same⟩, vs.le w.1⟩
  · obtain ⟨h1, h2⟩ := R.fr a t' q
    have : a ≠ p := fun z => by subst z; exact R.nfr (R.own _ mp) ⟨t', q⟩
    exact ⟨by show mset _ _ _ _ = _; rw [mset_ne this]; exact h1, h2⟩
  · have h1 : (S.cs.set i .dead)[j]? = some c' := h1
    have h2 : Ω.ads[j]? = some a := h2
    by_cases e : i = j
    · subst e
      have hl : i < S.cs.length := by have := (List.getElem?_eq_some_iff.mp h1).1; simpa using this
      rw [List.getElem?_set_self hl] at h1
      cases h1
      trivial
    · rw [List.getElem?_set_ne e] at h1
      have ap : a ≠ p := fun z => by
        subst z
        exact e (nd_inj R.nd hp h2)
      exact (R.cells j c' a h1 h2).le w (fun t => by show mset _ _ _ _ = _; rw [mset_ne ap]; exact t) fun _ o e => e
  · obtain ⟨v, h1, h2⟩ := R.slots i d e
    exact ⟨v, h1, h2.le w⟩
/-- an inner entry -/
def Fr.at (Ω : Wd G) : Fr G := ⟨Ω.H, Ω.T, (· ∈ Ω.ads)⟩
theorem Rel.enter (R : Rel Φ S σ Ω) : Rel (Fr.at Ω) S σ Ω := { R with le0 := Le.refl _ _, fr := fun a t _ => ⟨t, rfl⟩, own := fun a m => .inl m, g0 := R.good }
theorem Rel.leave {S1 : AS G} {σ1 : L2.St} {Ω1 : Wd G} (R : Rel Φ S σ Ω) (R1 : Rel (Fr.at Ω) S1 σ1 Ω1) : Rel Φ S1 σ1 Ω1 := by
  refine { R1 with le0 := R.le0.trans R1.le0, fr := fun a t p => ?_, own := fun a m => ?_, g0 := R.g0 }
  · obtain ⟨h1, h2⟩ := R.fr a t p
    have np : ¬ a ∈ Ω.ads := fun z => R.nfr (R.own a z) ⟨t, p⟩
    obtain ⟨k1, k2⟩ := R1.fr a h1 np
    exact ⟨k1, k2.trans h2⟩
  · rcases R1.own a m with z | z
    · exact R.own a z
    · exact R.fresh z
/-- behind a call that lets all others be -/
theorem Rel.after (R : Rel Φ S σ Ω) {H' : Hp} {T' : Mt G} (l : Le Ω.H Ω.T H' T') (g : Good H' T') (k : ∀ a, Ω.T a = some none → T' a = some none ∧ H' a = Ω.H a) : Rel Φ S σ ⟨H', T', Ω.ads⟩ ∧ Wle Ω ⟨H', T', Ω.ads⟩ := by
  have w : Wle Ω ⟨H', T', Ω.ads⟩ := ⟨l, List.prefix_refl _⟩
  refine ⟨⟨g, R.le0.trans l, fun a t p => ?_, R.nd, R.own, R.len, fun a m z => ?_, fun i c a h1 h2 => (R.cells i c a h1 h2).le w (fun t => (k a t).1) (fun t o e => ((k a t).2).trans e), R.sl, fun i d e => ?_, R.g0⟩, w⟩
  · obtain ⟨h1, h2⟩ := R.fr a t p
    obtain ⟨k1, k2⟩ := k a h1
    exact ⟨k1, k2.trans h2⟩
  · cases e : Ω.H a with
    | none => exact R.al a m e
    | some o =>
      have z' : H' a = none := z
      cases t : Ω.T a with
      | none => rw [l.kp _ _ e t] at z'; cases z'
      | some q =>
        cases q with
        | none => rw [(k a t).2, e] at z'; cases z'
        | some c =>
          obtain ⟨u, hu, _⟩ := g.iv a c (l.ca _ _ t)
          rw [hu] at z'; cases z'
  · obtain ⟨v, h1, h2⟩ := R.slots i d e
    exact ⟨v, h1, h2.le w⟩
/-- .. but a cell -/
theorem Rel.afterC (R : Rel Φ S σ Ω) {H' : Hp} {T' : Mt G} {i : Nat} {p : Addr} {c : G.κ} (hp : Ω.ads[i]? = some p) (l : Le Ω.H Ω.T H' T') (g : Good H' T') (k : ∀ a, a ≠ p → Ω.T a = some none → T' a = some none ∧ H' a = Ω.H a)
    (tp : T' p = some none) (ho : ∃ o, H' p = some o ∧ G.Cl c o) : Rel Φ ⟨S.ρ, S.cs.set i (.any c)⟩ σ ⟨H', T', Ω.ads⟩ ∧ Wle Ω ⟨H', T', Ω.ads⟩ := by
  have w : Wle Ω ⟨H', T', Ω.ads⟩ := ⟨l, List.prefix_refl _⟩
  have mp := List.mem_of_getElem? hp
  refine ⟨⟨g, R.le0.trans l, fun a t q => ?_, R.nd, R.own, by simp [R.len], fun a m z => ?_, fun j c' a h1 h2 => ?_, R.sl, fun i d e => ?_, R.g0⟩, w⟩
  · obtain ⟨h1, h2⟩ := R.fr a t q
    have ap : a ≠ p := fun z => by subst z; exact R.nfr (R.own _ mp) ⟨t, q⟩
    obtain ⟨k1, k2⟩ := k a ap h1
    exact ⟨k1, k2.trans h2⟩
  · have z' : H' a = none := z
    by_cases ap : a = p
    · subst ap
      obtain ⟨o, e, _⟩ := ho
      rw [e] at z'; cases z'
    cases e : Ω.H a with
    | none => exact R.al a m e
    | some o =>
      cases t : Ω.T a with
      | none => rw [l.kp _ _ e t] at z'; cases z'
      | some q =>
        cases q with
        | none => rw [(k a ap t).2, e] at z'; cases z'
        | some c =>
          obtain ⟨u, hu, _⟩ := g.iv a c (l.ca _ _ t)
          rw [hu] at z'; cases z'
  · have h1 : (S.cs.set i (.any c))[j]? = some c' := h1
    have h2 : Ω.ads[j]? = some a := h2
    by_cases e : i = j
    · subst e
      have hl : i < S.cs.length := by have := (List.getElem?_eq_some_iff.mp h1).1; simpa using this
      rw [List.getElem?_set_self hl] at h1
      cases h1
      rw [hp] at h2
      cases h2
      exact ⟨tp, ho⟩
    · rw [List.getElem?_set_ne e] at h1
      have ap : a ≠ p := fun z => by
        subst z
        exact e (nd_inj R.nd hp h2)
      exact (R.cells j c' a h1 h2).le w (fun t => (k a ap t).1) fun t o e => ((k a ap t).2).trans e
  · obtain ⟨v, h1, h2⟩ := R.slots i d e
    exact ⟨v, h1, h2.le w⟩
end A

namespace A
open PySem L2
abbrev AE (G : Cfg) := AS G → (SV G → Cs G → Prop) → Prop
abbrev AT (G : Cfg) := AS G → (Bool → Cs G → Prop) → Prop
abbrev AA (G : Cfg) := AS G → (List (SV G) → Cs G → Prop) → Prop
abbrev AG (G : Cfg) := SV G → AS G → (AS G → Prop) → Prop
abbrev AI (G : Cfg) := AS G → (List (D G) → Cs G → Prop) → Prop
structure AN (G : Cfg) where
  nx : AS G → Prop
  rt : SV G → Cs G → Prop
  bk : AS G → Prop := fun _ => False
  ct : AS G → Prop := fun _ => False
abbrev AX (G : Cfg) := AN G → AS G → Prop
section
variable {G : Cfg}
def Re (t : TE) (a : AE G) : Prop := ∀ (Φ : Fr G) (S : AS G) (σ : L2.St) (Ω : Wd G) (P : SV G → Cs G → Prop) (Q : VK), Rel Φ S σ Ω → a S P → (∀ x cs v Ω', P x cs → Wle Ω Ω' → Rel Φ ⟨S.ρ, cs⟩ σ Ω' → VS Ω' x v → Q v Ω'.H) → t σ Ω.H Q
def Rt (t : L2.TT) (a : AT G) : Prop := ∀ (Φ : Fr G) (S : AS G) (σ : L2.St) (Ω : Wd G) (P : Bool → Cs G → Prop) (Q : Bool → Hp → Prop), Rel Φ S σ Ω → a S P → (∀ b cs Ω', P b cs → Wle Ω Ω' → Rel Φ ⟨S.ρ, cs⟩ σ Ω' → Q b Ω'.H) → t σ Ω.H Q
def Ra (t : TA) (a : AA G) : Prop := ∀ (Φ : Fr G) (S : AS G) (σ : L2.St) (Ω : Wd G) (P : List (SV G) → Cs G → Prop) (Q : List V → Hp → Prop), Rel Φ S σ Ω → a S P → (∀ xs cs vs Ω', P xs cs → Wle Ω Ω' → Rel Φ ⟨S.ρ, cs⟩ σ Ω' → VSs Ω' xs vs → Q vs Ω'.H) → t σ Ω.H Q
def Rg (is : List Nat) (t : TG) (a : AG G) : Prop := ∀ (Φ : Fr G) (S : AS G) (σ : L2.St) (Ω : Wd G) (x : SV G) (v : V) (P : AS G → Prop) (Q : L2.St → Hp → Prop), Rel Φ S σ Ω → VS Ω x v → a x S P →
  (∀ S' σ' Ω', P S' → Wle Ω Ω' → Rel Φ S' σ' Ω' → wipe σ' is = wipe σ is → Q σ' Ω'.H) → t v σ Ω.H Q
/-- an iterator that gives these, one after another, whatever is done between -/
def ItIs (J : It) (ds : List (D G)) (Ω : Wd G) : Prop := ∀ Ω', Wle Ω Ω' → Good Ω'.H Ω'.T → (∀ i, ds.length ≤ i → J.stop i Ω'.H) ∧ ∀ i d, ds[i]? = some d → J.go i Ω'.H ∧ ∀ x H', J.yld i Ω'.H x H' → Same Ω'.H H' ∧ VD H' Ω'.T d x
def Ri (t : TI) (a : AI G) : Prop := ∀ (Φ : Fr G) (S : AS G) (σ : L2.St) (Ω : Wd G) (P : List (D G) → Cs G → Prop) (Q : It → Hp → Prop), Rel Φ S σ Ω → a S P → (∀ ds cs J Ω', P ds cs → Wle Ω Ω' → Rel Φ ⟨S.ρ, cs⟩ σ Ω' → ItIs J ds Ω' → Q J Ω'.H) → t σ Ω.H Q
def Rx (t : TS) (a : AX G) : Prop := ∀ (Φ : Fr G) (S : AS G) (σ : L2.St) (Ω : Wd G) (N : AN G) (E : Ends), Rel Φ S σ Ω → a N S →
  (∀ S' σ' Ω', N.nx S' → Wle Ω Ω' → Rel Φ S' σ' Ω' → E.nx σ' Ω'.H) → (∀ x S' v σ' Ω', N.rt x S'.cs → Wle Ω Ω' → Rel Φ S' σ' Ω' → VS Ω' x v → E.rt v Ω'.H) →
  (∀ S' σ' Ω', N.bk S' → Wle Ω Ω' → Rel Φ S' σ' Ω' → E.bk σ' Ω'.H) → (∀ S' σ' Ω', N.ct S' → Wle Ω Ω' → Rel Φ S' σ' Ω' → E.ct σ' Ω'.H) → t E σ Ω.H
/-! ### values -/
def aVar (i : Nat) : AE G := fun S P => ∃ x, S.ρ[i]? = some (some x) ∧ P x S.cs
theorem r_var {i : Nat} : Re (G := G) (tVar i) (aVar i) := fun Φ S σ Ω P Q R ⟨x, e, h⟩ k => by
  obtain ⟨v, e1, h1⟩ := R.slots i x e
  exact ⟨v, e1, k x S.cs v Ω h (Wle.refl _) R h1⟩
def aD (d : D G) : AE G := fun S P => P (.d d) S.cs
theorem r_const {v : V} {d : D G} (h : ∀ H T, VD H T d v) : Re (tC v) (aD d) := fun Φ S σ Ω P Q R q k => k _ _ v Ω q (Wle.refl _) R (h _ _)
theorem r_int {i : Int} : Re (G := G) (tC (.int i)) (aD (.int i)) := r_const fun _ _ => rfl
theorem r_bl {b : Bool} : Re (G := G) (tC (.bl b)) (aD (.bl b)) := r_const fun _ _ => rfl
theorem r_str {s : Str} : Re (G := G) (tC (.str s)) (aD (.str s)) := r_const fun _ _ => rfl
theorem r_non : Re (G := G) (tC .non) (aD .non) := r_const fun _ _ => rfl
/-! ### operations by values -/
abbrev AO (G : Cfg) := SV G → SV G → Cs G → (SV G → Cs G → Prop) → Prop
def Ro (r : R2) (o : AO G) : Prop := ∀ (Φ : Fr G) (S : AS G) (σ : L2.St) (Ω : Wd G) (x y : SV G) (v u : V) (P : SV G → Cs G → Prop) (Q : VK), Rel Φ S σ Ω → VS Ω x v → VS Ω y u → o x y S.cs P → (∀ x cs v Ω', P x cs → Wle Ω Ω' → Rel Φ ⟨S.ρ, cs⟩ σ Ω' → VS Ω' x v → Q v Ω'.H) → r v u Ω.H Q
def aOp (o : AO G) (a b : AE G) : AE G := fun S P => a S fun x cs => b ⟨S.ρ, cs⟩ fun y cs => o x y cs P
theorem r_op {r : R2} {o : AO G} {ta tb : TE} {a b : AE G} (ho : Ro r o) (ha : Re ta a) (hb : Re tb b) : Re (tOp r ta tb) (aOp o a b) := fun Φ S σ Ω P Q R h k =>
  ha Φ S σ Ω _ _ R h fun x cs v Ω1 h1 w1 R1 v1 => hb Φ ⟨S.ρ, cs⟩ σ Ω1 _ _ R1 h1 fun y cs2 u Ω2 h2 w2 R2 v2 =>
    ho Φ ⟨S.ρ, cs2⟩ σ Ω2 x y v u P Q R2 (v1.le w2) v2 h2 fun z cs3 t Ω3 h3 w3 => k z cs3 t Ω3 h3 ((w1.trans w2).trans w3)
abbrev AU (G : Cfg) := SV G → Cs G → (SV G → Cs G → Prop) → Prop
def Ru (r : V → Hp → VK → Prop) (o : AU G) : Prop := ∀ (Φ : Fr G) (S : AS G) (σ : L2.St) (Ω : Wd G) (x : SV G) (v : V) (P : SV G → Cs G → Prop) (Q : VK), Rel Φ S σ Ω → VS Ω x v → o x S.cs P → (∀ x cs v Ω', P x cs → Wle Ω Ω' → Rel Φ ⟨S.ρ, cs⟩ σ Ω' → VS Ω' x v → Q v Ω'.H) → r v Ω.H Q
def aUn (o : AU G) (a : AE G) : AE G := fun S P => a S fun x cs => o x cs P
theorem r_un {r : V → Hp → VK → Prop} {o : AU G} {ta : TE} {a : AE G} (ho : Ru r o) (ha : Re ta a) : Re (tUn r ta) (aUn o a) := fun Φ S σ Ω P Q R h k =>
  ha Φ S σ Ω _ _ R h fun x cs v Ω1 h1 w1 R1 v1 => ho Φ ⟨S.ρ, cs⟩ σ Ω1 x v P Q R1 v1 h1 fun z cs3 t Ω3 h3 w3 => k z cs3 t Ω3 h3 (w1.trans w3)
/-! ### arguments -/
def aNil : AA G := fun S P => P [] S.cs
def aCons (a : AE G) (r : AA G) : AA G := fun S P => a S fun x cs => r ⟨S.ρ, cs⟩ fun xs cs => P (x :: xs) cs
theorem r_nil : Ra (G := G) tNil aNil := fun Φ S σ Ω P Q R h k => k [] _ [] Ω h (Wle.refl _) R rfl
theorem r_cons {te : TE} {t : TA} {a : AE G} {r : AA G} (ha : Re te a) (hr : Ra t r) : Ra (tCons te t) (aCons a r) := fun Φ S σ Ω P Q R h k =>
  ha Φ S σ Ω _ _ R h fun x cs v Ω1 h1 w1 R1 v1 => hr Φ ⟨S.ρ, cs⟩ σ Ω1 _ _ R1 h1 fun xs cs2 vs Ω2 h2 w2 R2 v2 => k (x :: xs) cs2 (v :: vs) Ω2 h2 (w1.trans w2) R2 ⟨v, vs, rfl, v1.le w2, v2⟩
/-- data alone -/
def undd : List (SV G) → Option (List (D G))
  | [] => some []
  | .d x :: r => (undd r).map (x :: ·)
  | .cel _ :: _ => none
theorem VSs.undd {Ω : Wd G} : ∀ {xs : List (SV G)} {vs : List V} {ds : List (D G)}, VSs Ω xs vs → A.undd xs = some ds → VDs Ω.H Ω.T ds vs
  | [], _, ds, h, e => by
    cases e
    exact h
  | .d x :: r, _, ds, ⟨v, vr, e1, h1, h2⟩, e => by
    unfold A.undd at e
    cases e2 : A.undd r with
    | none => rw [e2] at e; cases e
    | some ds' =>
      rw [e2] at e
      cases e
      exact ⟨v, vr, e1, h1, VSs.undd h2 e2⟩
  | .cel _ :: _, _, _, _, e => by cases e
theorem VDs.of_list {H : Hp} {T : Mt G} : ∀ {ds : List (D G)} {xs : List V}, VDs H T ds xs → ∀ {i : Nat} {x : V}, xs[i]? = some x → ∃ d, ds[i]? = some d ∧ VD H T d x
  | [], xs, e, i, x, h => by rw [show xs = [] from e] at h; simp at h
  | d :: ds, xs, ⟨y, r, e, k, j⟩, i, x, h => by
    subst e
    cases i with
    | zero => simp at h; subst h; exact ⟨d, rfl, k⟩
    | succ i => simp at h ⊢; exact VDs.of_list j h
/-! ### displays -/
def aTup (a : AA G) : AE G := fun S P => a S fun xs cs => ∃ ds, undd xs = some ds ∧ ds.length ≤ sizeLine ∧ P (.d (.tup ds)) cs
theorem r_tup {t : TA} {a : AA G} (ha : Ra t a) : Re (tTup t) (aTup a) := fun Φ S σ Ω P Q R h k =>
  ha Φ S σ Ω _ _ R h fun xs cs vs Ω1 ⟨ds, e, hl, h1⟩ w1 R1 v1 => by
    have vd := v1.undd e
    refine ⟨by rw [vd.length]; exact hl, fun p hp => ?_⟩
    have s : Same Ω1.H (upd Ω1.H p (.tup vs)) := same_upd hp
    exact k _ cs (.ref p) ⟨upd Ω1.H p (.tup vs), Ω1.T, Ω1.ads⟩ h1 (w1.trans (wle_same s)) (R1.same s) ⟨p, vs, rfl, .inl ⟨.inl upd_same, R1.good.tn hp⟩, vd.le (le_same s)⟩
def aLst (a : AA G) : AE G := fun S P => a S fun xs cs => ∃ ds, undd xs = some ds ∧ ds.length ≤ sizeLine ∧ P (.d (.lst ds)) cs
theorem r_lst {t : TA} {a : AA G} (ha : Ra t a) : Re (tLst t) (aLst a) := fun Φ S σ Ω P Q R h k =>
  ha Φ S σ Ω _ _ R h fun xs cs vs Ω1 ⟨ds, e, hl, h1⟩ w1 R1 v1 => by
    have vd := v1.undd e
    refine ⟨by rw [vd.length]; exact hl, fun p hp => ?_⟩
    have s : Same Ω1.H (upd Ω1.H p (.lst vs)) := same_upd hp
    exact k _ cs (.ref p) ⟨upd Ω1.H p (.lst vs), Ω1.T, Ω1.ads⟩ h1 (w1.trans (wle_same s)) (R1.same s) ⟨p, vs, rfl, ⟨upd_same, R1.good.tn hp⟩, vd.le (le_same s)⟩
/-- a list that will change -/
def aLstC (a : AA G) : AE G := fun S P => a S fun xs cs => ∃ ds, undd xs = some ds ∧ ds.length ≤ sizeLine ∧ P (.cel cs.length) (cs ++ [.lst ds])
theorem r_lstC {t : TA} {a : AA G} (ha : Ra t a) : Re (tLst t) (aLstC a) := fun Φ S σ Ω P Q R h k =>
  ha Φ S σ Ω _ _ R h fun xs cs vs Ω1 ⟨ds, e, hl, h1⟩ w1 R1 v1 => by
    have vd := v1.undd e
    refine ⟨by rw [vd.length]; exact hl, fun p hp => ?_⟩
    obtain ⟨R2, w2, np⟩ := R1.new hp (G.ml vs)
    obtain ⟨R3, w3, v3⟩ := R2.addCell (c := .lst ds) np (by show upd _ _ _ _ ≠ none; rw [upd_same]; intro z; cases z) (R1.fresh hp) ⟨mset_same, vs, upd_same, vd.le w2.1⟩
    exact k _ _ (.ref p) _ h1 (w1.trans (w2.trans w3)) R3 v3
end
end A

namespace A
open PySem L2
section
variable {G : Cfg}
/-! ### dInts -/
def oI (C : Int → Int → Prop) (f : Int → Int → D G) : AO G := fun x y cs P => ∃ i j, x = .d (.int i) ∧ y = .d (.int j) ∧ C i j ∧ P (.d (f i j)) cs
theorem o_I {C : Int → Int → Prop} {g : Int → Int → V} {f : Int → Int → D G} (h : ∀ i j H T, VD H T (f i j) (g i j)) : Ro (rI C g) (oI C f) := fun Φ S σ Ω x y v u P Q R hx hy ⟨i, j, e1, e2, c, q⟩ k => by
  subst e1; subst e2
  cases (show v = .int i from hx)
  cases (show u = .int j from hy)
  exact ⟨i, j, rfl, rfl, c, k _ _ _ Ω q (Wle.refl _) R (h i j _ _)⟩
def oI0 (f : Int → Int → D G) : AO G := fun x y cs P => ∃ i j, x = .d (.int i) ∧ y = .d (.int j) ∧ P (.d (f i j)) cs
theorem o_I0 {g : Int → Int → V} {f : Int → Int → D G} (h : ∀ i j H T, VD H T (f i j) (g i j)) : Ro (rI0 g) (oI0 f) := fun Φ S σ Ω x y v u P Q R hx hy ⟨i, j, e1, e2, q⟩ k => by
  subst e1; subst e2
  cases (show v = .int i from hx)
  cases (show u = .int j from hy)
  exact ⟨i, j, rfl, rfl, k _ _ _ Ω q (Wle.refl _) R (h i j _ _)⟩
theorem o_add : Ro (G := G) (rI0 fun i j => .int (i + j)) (oI0 fun i j => .int (i + j)) := o_I0 fun _ _ _ _ => rfl
theorem o_sub : Ro (G := G) (rI0 fun i j => .int (i - j)) (oI0 fun i j => .int (i - j)) := o_I0 fun _ _ _ _ => rfl
theorem o_mulW : Ro (G := G) (rI CMulW fun i j => .int (i * j)) (oI CMulW fun i j => .int (i * j)) := o_I fun _ _ _ _ => rfl
theorem o_mod : Ro (G := G) (rI (fun _ j => 0 < j) fun i j => .int (i % j)) (oI (fun _ j => 0 < j) fun i j => .int (i % j)) := o_I fun _ _ _ _ => rfl
theorem o_fdivW : Ro (G := G) (rI CDivW fun i j => .int (i / j)) (oI CDivW fun i j => .int (i / j)) := o_I fun _ _ _ _ => rfl
theorem o_lt : Ro (G := G) (rI0 fun i j => .bl (decide (i < j))) (oI0 fun i j => .bl (decide (i < j))) := o_I0 fun _ _ _ _ => rfl
theorem o_le : Ro (G := G) (rI0 fun i j => .bl (decide (i ≤ j))) (oI0 fun i j => .bl (decide (i ≤ j))) := o_I0 fun _ _ _ _ => rfl
theorem o_gt : Ro (G := G) (rI0 fun i j => .bl (decide (j < i))) (oI0 fun i j => .bl (decide (j < i))) := o_I0 fun _ _ _ _ => rfl
theorem o_ge : Ro (G := G) (rI0 fun i j => .bl (decide (j ≤ i))) (oI0 fun i j => .bl (decide (j ≤ i))) := o_I0 fun _ _ _ _ => rfl
def oU (f : Int → D G) : AU G := fun x cs P => ∃ i, x = .d (.int i) ∧ P (.d (f i)) cs
theorem o_U {g : Int → V} {f : Int → D G} (h : ∀ i H T, VD H T (f i) (g i)) : Ru (rU g) (oU f) := fun Φ S σ Ω x v P Q R hx ⟨i, e1, q⟩ k => by
  subst e1
  cases (show v = .int i from hx)
  exact ⟨i, rfl, k _ _ _ Ω q (Wle.refl _) R (h i _ _)⟩
theorem o_neg : Ru (G := G) (rU fun i => .int (-i)) (oU fun i => .int (-i)) := o_U fun _ _ _ => rfl
/-! ### == of plain values -/
def toV : D G → Option V
  | .non => some .non
  | .bl b => some (.bl b)
  | .int i => some (.int i)
  | .str s => some (.str s)
  | _ => none
theorem VD.toV {H : Hp} {T : Mt G} {d : D G} {v u : V} (h : VD H T d v) (e : A.toV d = some u) : v = u := by
  cases d <;> cases e <;> exact h
def oEq (neg : Bool) : AO G := fun x y cs P => ∃ d e v u, x = .d d ∧ y = .d e ∧ toV d = some v ∧ toV e = some u ∧ scal v u = true ∧ P (.d (.bl (if neg then !decide (v = u) else decide (v = u)))) cs
theorem o_eq : Ro (G := G) rEq (oEq false) := fun Φ S σ Ω x y v u P Q R hx hy ⟨d, e, v', u', e1, e2, e3, e4, s, q⟩ k => by
  subst e1; subst e2
  cases hx.toV e3
  cases hy.toV e4
  exact ⟨s, k _ _ _ Ω q (Wle.refl _) R rfl⟩
theorem o_ne : Ro (G := G) rNe (oEq true) := fun Φ S σ Ω x y v u P Q R hx hy ⟨d, e, v', u', e1, e2, e3, e4, s, q⟩ k => by
  subst e1; subst e2
  cases hx.toV e3
  cases hy.toV e4
  exact ⟨s, k _ _ _ Ω q (Wle.refl _) R rfl⟩
def rIsN : R2 := fun x y H Q => y = .non ∧ Q (.bl (decide (x = .non))) H
/-! ### lists and tuples -/
def seqL (x : SV G) (cs : Cs G) : Option (List (D G)) := match x with
  | .d (.lst ds) => some ds
  | .cel j => match cs[j]? with
    | some (.lst ds) => some ds
    | _ => none
  | _ => none
theorem Rel.seqL {Φ : Fr G} {S : AS G} {σ : L2.St} {Ω : Wd G} (R : Rel Φ S σ Ω) {x : SV G} {v : V} {ds : List (D G)} (h : VS Ω x v) (e : A.seqL x S.cs = some ds) : ∃ a xs, v = .ref a ∧ Ω.H a = some (.lst xs) ∧ VDs Ω.H Ω.T ds xs := by
  cases x with
  | d d =>
    cases d with
    | lst es =>
      cases e
      obtain ⟨a, xs, e1, h1, h2⟩ := h
      exact ⟨a, xs, e1, h1.1, h2⟩
    | _ => cases e
  | cel j =>
    obtain ⟨a, e1, e2⟩ := h
    unfold A.seqL at e
    dsimp only at e
    cases hc : S.cs[j]? with
    | none => rw [hc] at e; cases e
    | some c =>
      rw [hc] at e
      cases c with
      | lst es =>
        cases e
        obtain ⟨t, xs, h1, h2⟩ := R.cells j _ a hc e1
        exact ⟨a, xs, e2, h1, h2⟩
      | _ => cases e
theorem VD.tupT {H : Hp} {T : Mt G} {ds : List (D G)} {v : V} (h : VD H T (.tup ds) v) : ∃ a xs, v = .ref a ∧ SqT G.K H a xs ∧ VDs H T ds xs := by
  obtain ⟨a, xs, e, r, k⟩ := h
  exact ⟨a, xs, e, r.imp (fun r => r.1) id, k⟩
theorem atI_vd {H : Hp} {T : Mt G} {ds : List (D G)} {xs : List V} (h : VDs H T ds xs) {i : Int} {d : D G} (e : atI ds i = some d) : ∃ v, atI xs i = some v ∧ VD H T d v := by
  unfold atI at e ⊢
  rw [h.length]
  cases c : ixN ds.length i with
  | none => rw [c] at e; cases e
  | some j => rw [c] at e; exact h.get e
def oIxL : AO G := fun x y cs P => ∃ ds i d, seqL x cs = some ds ∧ y = .d (.int i) ∧ atI ds i = some d ∧ P (.d d) cs
theorem o_ixL : Ro (G := G) (rIxL G.K) oIxL := fun Φ S σ Ω x y v u P Q R hx hy ⟨ds, i, d, e1, e2, e3, q⟩ k => by
  subst e2
  cases (show u = .int i from hy)
  obtain ⟨a, xs, ev, ha, vs⟩ := R.seqL hx e1
  obtain ⟨w, h1, h2⟩ := atI_vd vs e3
  exact ⟨a, xs, i, w, ev, rfl, SqL.of ha, h1, k _ _ _ Ω q (Wle.refl _) R h2⟩
def oIxT : AO G := fun x y cs P => ∃ ds i d, x = .d (.tup ds) ∧ y = .d (.int i) ∧ atI ds i = some d ∧ P (.d d) cs
theorem o_ixT : Ro (G := G) (rIxT G.K) oIxT := fun Φ S σ Ω x y v u P Q R hx hy ⟨ds, i, d, e1, e2, e3, q⟩ k => by
  subst e1; subst e2
  cases (show u = .int i from hy)
  obtain ⟨a, xs, ev, ha, vs⟩ := VD.tupT hx
  obtain ⟨w, h1, h2⟩ := atI_vd vs e3
  exact ⟨a, xs, i, w, ev, rfl, ha, h1, k _ _ _ Ω q (Wle.refl _) R h2⟩
def oCat : AO G := fun x y cs P => ∃ ds es, seqL x cs = some ds ∧ seqL y cs = some es ∧ ds.length + es.length ≤ sizeLine ∧ P (.d (.lst (ds ++ es))) cs
theorem Rel.newLst {Φ : Fr G} {S : AS G} {σ : L2.St} {Ω : Wd G} (R : Rel Φ S σ Ω) {ds : List (D G)} {xs : List V} (vs : VDs Ω.H Ω.T ds xs) {p : Addr} (hp : Ω.H p = none) :
    Wle Ω ⟨upd Ω.H p (.lst xs), Ω.T, Ω.ads⟩ ∧ Rel Φ S σ ⟨upd Ω.H p (.lst xs), Ω.T, Ω.ads⟩ ∧ VD (upd Ω.H p (.lst xs)) Ω.T (.lst ds) (.ref p) := by
  have s : Same Ω.H (upd Ω.H p (.lst xs)) := same_upd hp
  exact ⟨wle_same s, R.same s, p, xs, rfl, ⟨upd_same, R.good.tn hp⟩, vs.le (le_same s)⟩
theorem o_cat : Ro (G := G) rCat oCat := fun Φ S σ Ω x y v u P Q R hx hy ⟨ds, es, e1, e2, hl, q⟩ k => by
  obtain ⟨a, xs, ev, ha, v1⟩ := R.seqL hx e1
  obtain ⟨b, ys, eu, hb, v2⟩ := R.seqL hy e2
  refine ⟨a, b, xs, ys, ev, eu, ha, hb, by rw [v1.length, v2.length]; exact hl, fun p hp => ?_⟩
  obtain ⟨w, R2, v3⟩ := R.newLst (v1.app v2) hp
  exact k _ _ _ _ q w R2 v3
def cutD (ds : List (D G)) (lo hi : Option Int) : List (D G) := (ds.drop (HT.sIx ds.length 0 lo)).take (HT.sIx ds.length ds.length hi - HT.sIx ds.length 0 lo)
theorem VDs.cut {H : Hp} {T : Mt G} {ds : List (D G)} {xs : List V} (h : VDs H T ds xs) (lo hi : Option Int) : VDs H T (cutD ds lo hi) (cutV xs lo hi) := by
  unfold cutD cutV
  rw [h.length]
  exact (h.drop _).take _
abbrev APo (G : Cfg) := AS G → (Option Int → Cs G → Prop) → Prop
def Rp (t : TO) (a : APo G) : Prop := ∀ (Φ : Fr G) (S : AS G) (σ : L2.St) (Ω : Wd G) (P : Option Int → Cs G → Prop) (Q : Option Int → Hp → Prop), Rel Φ S σ Ω → a S P → (∀ x cs Ω', P x cs → Wle Ω Ω' → Rel Φ ⟨S.ρ, cs⟩ σ Ω' → Q x Ω'.H) → t σ Ω.H Q
def aNoPart : APo G := fun S P => P none S.cs
theorem r_noPart : Rp (G := G) tNoPart aNoPart := fun Φ S σ Ω P Q R h k => k _ _ Ω h (Wle.refl _) R
def aPart (a : AE G) : APo G := fun S P => a S fun x cs => ∃ i, x = .d (.int i) ∧ P (some i) cs
theorem r_part {t : TE} {a : AE G} (ha : Re t a) : Rp (tPart t) (aPart a) := fun Φ S σ Ω P Q R h k =>
  ha Φ S σ Ω _ _ R h fun x cs v Ω1 ⟨i, e, q⟩ w1 R1 v1 => by
    subst e
    cases (show v = .int i from v1)
    exact ⟨i, rfl, k _ _ Ω1 q w1 R1⟩
def aSlL (a : AE G) (l h : APo G) : AE G := fun S P => a S fun x cs => l ⟨S.ρ, cs⟩ fun lo cs => h ⟨S.ρ, cs⟩ fun hi cs => ∃ ds, seqL x cs = some ds ∧ P (.d (.lst (cutD ds lo hi))) cs
theorem r_slL {t : TE} {tl th : TO} {a : AE G} {l h : APo G} (ha : Re t a) (hl : Rp tl l) (hh : Rp th h) : Re (tSl (rSlL G.K) t tl th) (aSlL a l h) := fun Φ S σ Ω P Q R hp k =>
  ha Φ S σ Ω _ _ R hp fun x cs v Ω1 h1 w1 R1 v1 => hl Φ ⟨S.ρ, cs⟩ σ Ω1 _ _ R1 h1 fun lo cs2 Ω2 h2 w2 R2 => hh Φ ⟨S.ρ, cs2⟩ σ Ω2 _ _ R2 h2 fun hi cs3 Ω3 h3 w3 R3 => by
    obtain ⟨ds, e, q⟩ := h3
    obtain ⟨a, xs, ev, hx, vs⟩ := R3.seqL ((v1.le w2).le w3) e
    refine ⟨a, xs, ev, SqL.of hx, fun p hp => ?_⟩
    obtain ⟨w, R4, v3⟩ := R3.newLst (vs.cut lo hi) hp
    exact k _ _ _ _ q ((w1.trans w2).trans (w3.trans w)) R4 v3
/-! ### calls of Python's own, by values -/
abbrev AF (G : Cfg) := List (SV G) → Cs G → (SV G → Cs G → Prop) → Prop
def Rc (r : List V → Hp → VK → Prop) (o : AF G) : Prop := ∀ (Φ : Fr G) (S : AS G) (σ : L2.St) (Ω : Wd G) (xs : List (SV G)) (vs : List V) (P : SV G → Cs G → Prop) (Q : VK), Rel Φ S σ Ω → VSs Ω xs vs → o xs S.cs P → (∀ x cs v Ω', P x cs → Wle Ω Ω' → Rel Φ ⟨S.ρ, cs⟩ σ Ω' → VS Ω' x v → Q v Ω'.H) → r vs Ω.H Q
def aCB (o : AF G) (a : AA G) : AE G := fun S P => a S fun xs cs => o xs cs P
theorem r_CB {r : List V → Hp → VK → Prop} {o : AF G} {t : TA} {a : AA G} (ho : Rc r o) (ha : Ra t a) : Re (tCB r t) (aCB o a) := fun Φ S σ Ω P Q R h k =>
  ha Φ S σ Ω _ _ R h fun xs cs vs Ω1 h1 w1 R1 v1 => ho Φ ⟨S.ρ, cs⟩ σ Ω1 xs vs P Q R1 v1 h1 fun z cs3 t Ω3 h3 w3 => k z cs3 t Ω3 h3 (w1.trans w3)
def oLen : AF G := fun xs cs P => (∃ x ds, xs = [x] ∧ seqL x cs = some ds ∧ P (.d (.int ds.length)) cs) ∨ (∃ ds, xs = [.d (.tup ds)] ∧ P (.d (.int ds.length)) cs) ∨ ∃ s, xs = [.d (.str s)] ∧ s.length ≤ sizeLine ∧ P (.d (.int s.length)) cs
theorem o_len : Rc (G := G) (fun xs H Q => ∃ x n, xs = [x] ∧ LenV G.K x H n ∧ Q (.int n) H) oLen := fun Φ S σ Ω xs vs P Q R h q k => by
  rcases q with ⟨x, ds, e, e2, q⟩ | ⟨ds, e, q⟩ | ⟨s, e, hz, q⟩
  · subst e
    obtain ⟨v, r, rfl, h1, rfl⟩ := h
    obtain ⟨a, ys, ev, ha, v1⟩ := R.seqL h1 e2
    refine ⟨v, ds.length, rfl, ?_, k _ _ _ Ω q (Wle.refl _) R rfl⟩
    subst ev
    exact .inl ⟨ys, SqL.of ha, v1.length.symm⟩
  · subst e
    obtain ⟨v, r, rfl, h1, rfl⟩ := h
    obtain ⟨a, ys, ev, ha, v1⟩ := VD.tupT h1
    refine ⟨v, ds.length, rfl, ?_, k _ _ _ Ω q (Wle.refl _) R rfl⟩
    subst ev
    exact .inr ⟨ys, ha, v1.length.symm⟩
  · subst e
    obtain ⟨v, r, rfl, h1, rfl⟩ := h
    cases (show v = .str s from h1)
    exact ⟨_, s.length, rfl, ⟨hz, rfl⟩, k _ _ _ Ω q (Wle.refl _) R rfl⟩
def oInt1 : AF G := fun xs cs P => ∃ i, xs = [.d (.int i)] ∧ P (.d (.int i)) cs
theorem o_int1 : Rc (G := G) (fun xs H Q => (∃ i, xs = [.int i] ∧ Q (.int i) H) ∨ ∃ k, xs = [.bl k] ∧ Q (.int (if k then 1 else 0)) H) oInt1 := fun Φ S σ Ω xs vs P Q R h ⟨i, e, q⟩ k => by
  subst e
  obtain ⟨v, r, rfl, h1, rfl⟩ := h
  cases (show v = .int i from h1)
  exact .inl ⟨i, rfl, k _ _ _ Ω q (Wle.refl _) R rfl⟩
def oF2 (f : Int → Int → Int) : AF G := fun xs cs P => ∃ i j, xs = [.d (.int i), .d (.int j)] ∧ P (.d (.int (f i j))) cs
theorem o_F2 {f : Int → Int → Int} : Rc (G := G) (fun xs H Q => ∃ i j, xs = [.int i, .int j] ∧ Q (.int (f i j)) H) (oF2 f) := fun Φ S σ Ω xs vs P Q R h ⟨i, j, e, q⟩ k => by
  subst e
  obtain ⟨v, r, rfl, h1, v2, r2, rfl, h2, rfl⟩ := h
  cases (show v = .int i from h1)
  cases (show v2 = .int j from h2)
  exact ⟨i, j, rfl, k _ _ _ Ω q (Wle.refl _) R rfl⟩
def dInts : List (D G) → Option (List Int)
  | [] => some []
  | .int i :: r => (dInts r).map (i :: ·)
  | _ :: _ => none
theorem VDs.dInts {H : Hp} {T : Mt G} : ∀ {ds : List (D G)} {xs : List V} {ns : List Int}, VDs H T ds xs → A.dInts ds = some ns → xs = ns.map V.int
  | [], _, ns, h, e => by cases e; exact h
  | .int i :: r, _, ns, ⟨x, xr, e1, h1, h2⟩, e => by
    unfold A.dInts at e
    cases e2 : A.dInts r with
    | none => rw [e2] at e; cases e
    | some ms =>
      rw [e2] at e
      cases e
      rw [e1, show x = .int i from h1, VDs.dInts h2 e2]
      rfl
  | .non :: _, _, _, _, e => by cases e
  | .bl _ :: _, _, _, _, e => by cases e
  | .str _ :: _, _, _, _, e => by cases e
  | .tup _ :: _, _, _, _, e => by cases e
  | .lst _ :: _, _, _, _, e => by cases e
  | .ob _ :: _, _, _, _, e => by cases e
def oSum : AF G := fun xs cs P => ∃ x ds ns, xs = [x] ∧ seqL x cs = some ds ∧ dInts ds = some ns ∧ P (.d (.int ns.sum)) cs
theorem o_sum : Rc (G := G) (rSum G.K) oSum := fun Φ S σ Ω xs vs P Q R h ⟨x, ds, ns, e, e2, e3, q⟩ k => by
  subst e
  obtain ⟨v, r, rfl, h1, rfl⟩ := h
  obtain ⟨a, ys, ev, ha, v1⟩ := R.seqL h1 e2
  subst ev
  exact ⟨a, ns, rfl, SqL.of (by rw [ha, v1.dInts e3]), k _ _ _ Ω q (Wle.refl _) R rfl⟩
def oList : AF G := fun xs cs P => (∃ x ds, xs = [x] ∧ seqL x cs = some ds ∧ P (.d (.lst ds)) cs) ∨ ∃ ds, xs = [.d (.tup ds)] ∧ P (.d (.lst ds)) cs
theorem o_list : Rc (G := G) (fun xs H Q => ∃ p ys, xs = [.ref p] ∧ (SqL G.K H p ys ∨ SqT G.K H p ys) ∧ ∀ l, H l = none → Q (.ref l) (upd H l (.lst ys))) oList := fun Φ S σ Ω xs vs P Q R h q k => by
  rcases q with ⟨x, ds, e, e2, q⟩ | ⟨ds, e, q⟩
  · subst e
    obtain ⟨v, r, rfl, h1, rfl⟩ := h
    obtain ⟨a, ys, ev, ha, v1⟩ := R.seqL h1 e2
    subst ev
    refine ⟨a, ys, rfl, .inl (SqL.of ha), fun p hp => ?_⟩
    obtain ⟨w, R2, v3⟩ := R.newLst v1 hp
    exact k _ _ _ _ q w R2 v3
  · subst e
    obtain ⟨v, r, rfl, h1, rfl⟩ := h
    obtain ⟨a, ys, ev, ha, v1⟩ := VD.tupT h1
    subst ev
    refine ⟨a, ys, rfl, .inr ha, fun p hp => ?_⟩
    obtain ⟨w, R2, v3⟩ := R.newLst v1 hp
    exact k _ _ _ _ q w R2 v3
def oTuple : AF G := fun xs cs P => ∃ x ds, xs = [x] ∧ seqL x cs = some ds ∧ P (.d (.tup ds)) cs
theorem o_tuple : Rc (G := G) (fun xs H Q => ∃ p ys, xs = [.ref p] ∧ ((SqL G.K H p ys ∧ ∀ l, H l = none → Q (.ref l) (upd H l (.tup ys))) ∨ (SqT G.K H p ys ∧ Q (.ref p) H))) oTuple := fun Φ S σ Ω xs vs P Q R h ⟨x, ds, e, e2, q⟩ k => by
  subst e
  obtain ⟨v, r, rfl, h1, rfl⟩ := h
  obtain ⟨a, ys, ev, ha, v1⟩ := R.seqL h1 e2
  subst ev
  refine ⟨a, ys, rfl, .inl ⟨SqL.of ha, fun p hp => ?_⟩⟩
  have s : Same Ω.H (upd Ω.H p (.tup ys)) := same_upd hp
  exact k _ _ _ _ q (wle_same s) (R.same s) ⟨p, ys, rfl, .inl ⟨.inl upd_same, R.good.tn hp⟩, v1.le (le_same s)⟩
/-! ### bools -/
def aAndV (a b : AE G) : AE G := fun S P => a S fun x cs => ∃ c, x = .d (.bl c) ∧ if c = true then b ⟨S.ρ, cs⟩ P else P (.d (.bl false)) cs
theorem r_andV {ta tb : TE} {a b : AE G} (ha : Re ta a) (hb : Re tb b) : Re (tAndV ta tb) (aAndV a b) := fun Φ S σ Ω P Q R h k =>
  ha Φ S σ Ω _ _ R h fun x cs v Ω1 ⟨c, e, q⟩ w1 R1 v1 => by
    subst e
    cases (show v = .bl c from v1)
    refine ⟨c, rfl, ?_⟩
    cases c with
    | false => exact iteF (k (.d (.bl false)) _ _ Ω1 (by simpa using q) w1 R1 rfl)
    | true => exact iteT (hb Φ ⟨S.ρ, cs⟩ σ Ω1 P Q R1 (by simpa using q) fun z cs3 t Ω3 h3 w3 => k z cs3 t Ω3 h3 (w1.trans w3))
def aOrV (a b : AE G) : AE G := fun S P => a S fun x cs => ∃ c, x = .d (.bl c) ∧ if c = true then P (.d (.bl true)) cs else b ⟨S.ρ, cs⟩ P
theorem r_orV {ta tb : TE} {a b : AE G} (ha : Re ta a) (hb : Re tb b) : Re (tOrV ta tb) (aOrV a b) := fun Φ S σ Ω P Q R h k =>
  ha Φ S σ Ω _ _ R h fun x cs v Ω1 ⟨c, e, q⟩ w1 R1 v1 => by
    subst e
    cases (show v = .bl c from v1)
    refine ⟨c, rfl, ?_⟩
    cases c with
    | true => exact iteT (k (.d (.bl true)) _ _ Ω1 (by simpa using q) w1 R1 rfl)
    | false => exact iteF (hb Φ ⟨S.ρ, cs⟩ σ Ω1 P Q R1 (by simpa using q) fun z cs3 t Ω3 h3 w3 => k z cs3 t Ω3 h3 (w1.trans w3))
def aNotV (a : AE G) : AE G := fun S P => a S fun x cs => ∃ c, x = .d (.bl c) ∧ P (.d (.bl (!c))) cs
theorem r_notV {ta : TE} {a : AE G} (ha : Re ta a) : Re (tNotV ta) (aNotV a) := fun Φ S σ Ω P Q R h k =>
  ha Φ S σ Ω _ _ R h fun x cs v Ω1 ⟨c, e, q⟩ w1 R1 v1 => by
    subst e
    cases (show v = .bl c from v1)
    exact ⟨c, rfl, k _ _ _ Ω1 q w1 R1 rfl⟩
/-! ### tests -/
def aB (a : AE G) : AT G := fun S P => a S fun x cs => ∃ c, x = .d (.bl c) ∧ P c cs
theorem r_test {ta : TE} {a : AE G} (ha : Re ta a) : Rt (tTest ta) (aB a) := fun Φ S σ Ω P Q R h k =>
  ha Φ S σ Ω _ _ R h fun x cs v Ω1 ⟨c, e, q⟩ w1 R1 v1 => by
    subst e
    cases (show v = .bl c from v1)
    exact ⟨c, rfl, k _ _ Ω1 q w1 R1⟩
theorem r_tB {ta : TE} {a : AE G} (ha : Re ta a) : Rt (tB ta) (aB a) := fun Φ S σ Ω P Q R h k =>
  ha Φ S σ Ω _ _ R h fun x cs v Ω1 ⟨c, e, q⟩ w1 R1 v1 => by
    subst e
    cases (show v = .bl c from v1)
    exact ⟨c, rfl, k _ _ Ω1 q w1 R1⟩
def aNotT (a : AT G) : AT G := fun S P => a S fun b cs => P (!b) cs
theorem r_notT {t : L2.TT} {a : AT G} (ha : Rt t a) : Rt (tNot t) (aNotT a) := fun Φ S σ Ω P Q R h k => ha Φ S σ Ω _ _ R h fun b cs Ω1 h1 w1 R1 => k _ _ Ω1 h1 w1 R1
def aAndT (a b : AT G) : AT G := fun S P => a S fun c cs => if c = true then b ⟨S.ρ, cs⟩ P else P false cs
theorem r_andT {t u : L2.TT} {a b : AT G} (ha : Rt t a) (hb : Rt u b) : Rt (tAnd t u) (aAndT a b) := fun Φ S σ Ω P Q R h k =>
  ha Φ S σ Ω _ _ R h fun c cs Ω1 h1 w1 R1 => by
    cases c with
    | false => exact iteF (k _ _ Ω1 (by simpa using h1) w1 R1)
    | true => exact iteT (hb Φ ⟨S.ρ, cs⟩ σ Ω1 P Q R1 (by simpa using h1) fun z cs3 Ω3 h3 w3 => k z cs3 Ω3 h3 (w1.trans w3))
def aOrT (a b : AT G) : AT G := fun S P => a S fun c cs => if c = true then P true cs else b ⟨S.ρ, cs⟩ P
theorem r_orT {t u : L2.TT} {a b : AT G} (ha : Rt t a) (hb : Rt u b) : Rt (tOr t u) (aOrT a b) := fun Φ S σ Ω P Q R h k =>
  ha Φ S σ Ω _ _ R h fun c cs Ω1 h1 w1 R1 => by
    cases c with
    | true => exact iteT (k _ _ Ω1 (by simpa using h1) w1 R1)
    | false => exact iteF (hb Φ ⟨S.ρ, cs⟩ σ Ω1 P Q R1 (by simpa using h1) fun z cs3 Ω3 h3 w3 => k z cs3 Ω3 h3 (w1.trans w3))
def aIf (c : AT G) (a b : AE G) : AE G := fun S P => c S fun z cs => if z = true then a ⟨S.ρ, cs⟩ P else b ⟨S.ρ, cs⟩ P
theorem r_if {tc : L2.TT} {ta tb : TE} {c : AT G} {a b : AE G} (hc : Rt tc c) (ha : Re ta a) (hb : Re tb b) : Re (tIf tc ta tb) (aIf c a b) := fun Φ S σ Ω P Q R h k =>
  hc Φ S σ Ω _ _ R h fun z cs Ω1 h1 w1 R1 => by
    cases z with
    | true => exact iteT (ha Φ ⟨S.ρ, cs⟩ σ Ω1 P Q R1 (by simpa using h1) fun z cs3 t Ω3 h3 w3 => k z cs3 t Ω3 h3 (w1.trans w3))
    | false => exact iteF (hb Φ ⟨S.ρ, cs⟩ σ Ω1 P Q R1 (by simpa using h1) fun z cs3 t Ω3 h3 w3 => k z cs3 t Ω3 h3 (w1.trans w3))
def aTru : AE G → AT G := fun a S P => a S fun x cs => (∃ c, x = .d (.bl c) ∧ P c cs) ∨ (∃ i, x = .d (.int i) ∧ P (i != 0) cs) ∨ ∃ ds, seqL x cs = some ds ∧ P (!ds.isEmpty) cs
/-! ### in -/
def flatD : D G → Bool
  | .tup _ => false | .lst _ => false | .ob _ => false | _ => true
theorem toV_flat {d : D G} {v : V} (e : toV d = some v) : flatV v = true := by
  cases d <;> cases e <;> rfl
def toVs : List (D G) → Option (List V)
  | [] => some []
  | d :: r => (toV d).bind fun v => (toVs r).map (v :: ·)
theorem VDs.toVs {H : Hp} {T : Mt G} : ∀ {ds : List (D G)} {xs us : List V}, VDs H T ds xs → A.toVs ds = some us → xs = us ∧ us.all flatV = true
  | [], _, us, h, e => by cases e; exact ⟨h, rfl⟩
  | d :: r, _, us, ⟨x, xr, e1, h1, h2⟩, e => by
    unfold A.toVs at e
    cases e2 : A.toV d with
    | none => rw [e2] at e; cases e
    | some v =>
      rw [e2] at e
      cases e3 : A.toVs r with
      | none => rw [e3] at e; cases e
      | some ws =>
        rw [e3] at e
        cases e
        obtain ⟨h3, h4⟩ := VDs.toVs h2 e3
        refine ⟨by rw [e1, h1.toV e2, h3], ?_⟩
        rw [List.all_cons, toV_flat e2, h4]
        rfl
def oIn (neg : Bool) : AO G := fun x y cs P => ∃ d v us, x = .d d ∧ toV d = some v ∧ ((∃ ds, seqL y cs = some ds ∧ toVs ds = some us) ∨ ∃ ds, y = .d (.tup ds) ∧ toVs ds = some us) ∧ P (.d (.bl (if neg then !inV v us else inV v us))) cs
theorem o_in {neg : Bool} : Ro (G := G) (rIn G.K neg) (oIn neg) := fun Φ S σ Ω x y v u P Q R hx hy ⟨d, v', us, e1, e2, e3, q⟩ k => by
  subst e1
  cases hx.toV e2
  rcases e3 with ⟨ds, e3, e4⟩ | ⟨ds, e3, e4⟩
  · obtain ⟨a, xs, ev, ha, vs⟩ := R.seqL hy e3
    obtain ⟨h1, h2⟩ := vs.toVs e4
    subst h1
    exact ⟨a, xs, ev, .inl (SqL.of ha), toV_flat e2, h2, k _ _ _ Ω q (Wle.refl _) R rfl⟩
  · subst e3
    obtain ⟨a, xs, ev, ha, vs⟩ := VD.tupT hy
    obtain ⟨h1, h2⟩ := vs.toVs e4
    subst h1
    exact ⟨a, xs, ev, .inr ha, toV_flat e2, h2, k _ _ _ Ω q (Wle.refl _) R rfl⟩
end
end A

namespace A
open PySem L2
section
variable {G : Cfg}
/-! ### statements -/
def xNext : AX G := fun N S => N.nx S
theorem x_next : Rx (G := G) tNext xNext := fun Φ S σ Ω N E R h kn kr kb kc => kn S σ Ω h (Wle.refl _) R
def xSeq (a b : AX G) : AX G := fun N S => a { N with nx := b N } S
theorem x_seq {t u : TS} {a b : AX G} (ha : Rx t a) (hb : Rx u b) : Rx (tSeq t u) (xSeq a b) := fun Φ S σ Ω N E R h kn kr kb kc =>
  ha Φ S σ Ω { N with nx := b N } { E with nx := u E } R h (fun S1 σ1 Ω1 h1 w1 R1 => hb Φ S1 σ1 Ω1 N E R1 h1 (fun S2 σ2 Ω2 h2 w2 => kn S2 σ2 Ω2 h2 (w1.trans w2)) (fun x S2 v σ2 Ω2 h2 w2 => kr x S2 v σ2 Ω2 h2 (w1.trans w2))
    (fun S2 σ2 Ω2 h2 w2 => kb S2 σ2 Ω2 h2 (w1.trans w2)) (fun S2 σ2 Ω2 h2 w2 => kc S2 σ2 Ω2 h2 (w1.trans w2))) kr kb kc
def xSet (i : Nat) (a : AE G) : AX G := fun N S => a S fun x cs => N.nx ⟨S.ρ.set i (some x), cs⟩
theorem x_set {i : Nat} {t : TE} {a : AE G} (ha : Re t a) : Rx (tAsg t (gName i)) (xSet i a) := fun Φ S σ Ω N E R h kn kr kb kc =>
  ha Φ S σ Ω _ _ R h fun x cs v Ω1 h1 w1 R1 v1 => kn _ _ Ω1 h1 w1 (R1.set v1)
/-! targets -/
def gN (i : Nat) : AG G := fun x S P => P ⟨S.ρ.set i (some x), S.cs⟩
theorem wipe_get {σ : L2.St} : ∀ {is : List Nat} {j : Nat}, j ∈ is → j < σ.length → (wipe σ is)[j]? = some none
  | [], _, h, _ => by cases h
  | i :: is, j, h, hl => by
    unfold wipe
    by_cases e : i = j
    · subst e; rw [List.getElem?_set_self (by rw [wipe_length]; exact hl)]
    · rw [List.getElem?_set_ne e]
      rcases List.mem_cons.mp h with z | z
      · exact absurd z.symm e
      · exact wipe_get z hl
theorem wipe_out {σ : L2.St} : ∀ {is : List Nat} {j : Nat}, j ∉ is → (wipe σ is)[j]? = σ[j]?
  | [], _, _ => rfl
  | i :: is, j, h => by
    unfold wipe
    have h1 : i ≠ j := fun e => h (by rw [e]; exact List.mem_cons_self)
    rw [List.getElem?_set_ne h1]
    exact wipe_out fun z => h (List.mem_cons_of_mem _ z)
theorem wipe_eq {σ σ' : L2.St} {is : List Nat} (hl : σ'.length = σ.length) (h : ∀ j, j ∉ is → σ'[j]? = σ[j]?) : wipe σ' is = wipe σ is := by
  refine List.ext_getElem? fun j => ?_
  by_cases m : j ∈ is
  · by_cases l : j < σ.length
    · rw [wipe_get m l, wipe_get m (by rw [hl]; exact l)]
    · rw [List.getElem?_eq_none (by rw [wipe_length]; omega), List.getElem?_eq_none (by rw [wipe_length]; omega)]
  · rw [wipe_out m, wipe_out m, h j m]
theorem g_name {i : Nat} {is : List Nat} (hi : i ∈ is) : Rg (G := G) is (gName i) (gN i) := fun Φ S σ Ω x v P Q R hx h k => by
  refine k _ _ Ω h (Wle.refl _) (R.set hx) (wipe_eq (by simp) fun j m => ?_)
  rw [List.getElem?_set_ne (fun e => m (by rw [← e]; exact hi))]
/-- a tuple into names -/
def gTn : List Nat → List (D G) → AS G → (AS G → Prop) → Prop
  | [], [], S, P => P S
  | i :: is, d :: ds, S, P => gTn is ds ⟨S.ρ.set i (some (.d d)), S.cs⟩ P
  | _, _, _, _ => False
def gT (js : List Nat) : AG G := fun x S P => ∃ ds, x = .d (.tup ds) ∧ gTn js ds S P
def cNames : List Nat → TGs
  | [] => gNil
  | i :: is => gCons (gName i) (cNames is)
theorem g_names {Φ : Fr G} {Ω : Wd G} {is : List Nat} : ∀ {js : List Nat} {ds : List (D G)} {S : AS G} {σ : L2.St} {xs : List V} {P : AS G → Prop} {Q : L2.St → Hp → Prop}, (∀ j, j ∈ js → j ∈ is) → Rel Φ S σ Ω → VDs Ω.H Ω.T ds xs → gTn js ds S P →
    (∀ S' σ' Ω', P S' → Wle Ω Ω' → Rel Φ S' σ' Ω' → wipe σ' is = wipe σ is → Q σ' Ω'.H) → cNames js xs σ Ω.H Q ∧ js.length = ds.length
  | [], [], S, σ, xs, P, Q, _, R, h, g, k => ⟨⟨h, k S σ Ω g (Wle.refl _) R rfl⟩, rfl⟩
  | j :: js, d :: ds, S, σ, xs, P, Q, hj, R, ⟨x, r, e, h1, h2⟩, g, k => by
    have hm := hj j List.mem_cons_self
    have h3 := g_names (P := P) (Q := Q) (fun j' m => hj j' (List.mem_cons_of_mem _ m)) (R.set (i := j) (x := .d d) (v := x) h1) h2 g fun S' σ' Ω' p w R' e' => k S' σ' Ω' p w R' (e'.trans (wipe_eq (by simp) fun l m => by
      rw [List.getElem?_set_ne (fun z => m (by rw [← z]; exact hm))]))
    exact ⟨⟨x, r, e, h3.1⟩, by rw [List.length_cons, List.length_cons, h3.2]⟩
  | [], _ :: _, _, _, _, _, _, _, _, _, g, _ => g.elim
  | _ :: _, [], _, _, _, _, _, _, _, _, g, _ => g.elim
theorem g_tup {js is : List Nat} {n : Nat} (hj : ∀ j, j ∈ js → j ∈ is) (hn : js.length = n) : Rg (G := G) is (gTup G.K n (cNames js)) (gT js) := fun Φ S σ Ω x v P Q R hx ⟨ds, e, g⟩ k => by
  subst e
  obtain ⟨a, xs, ev, ha, vs⟩ := VD.tupT hx
  have := g_names hj R vs g k
  exact ⟨a, xs, ev, ha, by rw [vs.length, ← hn, this.2], this.1⟩
def xAsg (a : AE G) (g : AG G) : AX G := fun N S => a S fun x cs => g x ⟨S.ρ, cs⟩ N.nx
theorem x_asg {is : List Nat} {t : TE} {a : AE G} {tg : TG} {g : AG G} (ha : Re t a) (hg : Rg is tg g) : Rx (tAsg t tg) (xAsg a g) := fun Φ S σ Ω N E R h kn kr kb kc =>
  ha Φ S σ Ω _ _ R h fun x cs v Ω1 h1 w1 R1 v1 => hg Φ ⟨S.ρ, cs⟩ σ Ω1 x v _ _ R1 v1 h1 fun S2 σ2 Ω2 h2 w2 R2 _ => kn S2 σ2 Ω2 h2 (w1.trans w2) R2
def xPar (i j : Nat) (a : AA G) : AX G := fun N S => a S fun xs cs => ∃ x y, xs = [x, y] ∧ N.nx ⟨(S.ρ.set i (some x)).set j (some y), cs⟩
theorem x_par {i j : Nat} {t : TA} {a : AA G} (ha : Ra t a) : Rx (tPar i j t) (xPar i j a) := fun Φ S σ Ω N E R h kn kr kb kc =>
  ha Φ S σ Ω _ _ R h fun xs cs vs Ω1 ⟨x, y, e, h1⟩ w1 R1 v1 => by
    subst e
    obtain ⟨v, r, rfl, hv, u, r2, rfl, hu, rfl⟩ := v1
    exact ⟨v, u, rfl, kn _ _ Ω1 h1 w1 ((R1.set hv).set hu)⟩
def xPar3 (i j l : Nat) (a : AA G) : AX G := fun N S => a S fun xs cs => ∃ x y z, xs = [x, y, z] ∧ N.nx ⟨((S.ρ.set i (some x)).set j (some y)).set l (some z), cs⟩
def xRet (a : AE G) : AX G := fun N S => a S N.rt
theorem x_ret {t : TE} {a : AE G} (ha : Re t a) : Rx (tRet t) (xRet a) := fun Φ S σ Ω N E R h kn kr kb kc =>
  ha Φ S σ Ω _ _ R h fun x cs v Ω1 h1 w1 R1 v1 => kr x ⟨S.ρ, cs⟩ v σ Ω1 h1 w1 R1 v1
def xDrop (a : AE G) : AX G := fun N S => a S fun _ cs => N.nx ⟨S.ρ, cs⟩
theorem x_drop {t : TE} {a : AE G} (ha : Re t a) : Rx (tDrop t) (xDrop a) := fun Φ S σ Ω N E R h kn kr kb kc =>
  ha Φ S σ Ω _ _ R h fun x cs v Ω1 h1 w1 R1 v1 => kn ⟨S.ρ, cs⟩ σ Ω1 h1 w1 R1
def xIf (c : AT G) (a b : AX G) : AX G := fun N S => c S fun z cs => if z = true then a N ⟨S.ρ, cs⟩ else b N ⟨S.ρ, cs⟩
theorem x_if {tc : L2.TT} {t u : TS} {c : AT G} {a b : AX G} (hc : Rt tc c) (ha : Rx t a) (hb : Rx u b) : Rx (tIfS tc t u) (xIf c a b) := fun Φ S σ Ω N E R h kn kr kb kc =>
  hc Φ S σ Ω _ _ R h fun z cs Ω1 h1 w1 R1 => by
    have kn' := fun S2 σ2 Ω2 (h2 : N.nx S2) (w2 : Wle Ω1 Ω2) => kn S2 σ2 Ω2 h2 (w1.trans w2)
    have kr' := fun x S2 v σ2 Ω2 (h2 : N.rt x S2.cs) (w2 : Wle Ω1 Ω2) => kr x S2 v σ2 Ω2 h2 (w1.trans w2)
    have kb' := fun S2 σ2 Ω2 (h2 : N.bk S2) (w2 : Wle Ω1 Ω2) => kb S2 σ2 Ω2 h2 (w1.trans w2)
    have kc' := fun S2 σ2 Ω2 (h2 : N.ct S2) (w2 : Wle Ω1 Ω2) => kc S2 σ2 Ω2 h2 (w1.trans w2)
    cases z with
    | true => exact iteT (ha Φ ⟨S.ρ, cs⟩ σ Ω1 N E R1 (by simpa using h1) kn' kr' kb' kc')
    | false => exact iteF (hb Φ ⟨S.ρ, cs⟩ σ Ω1 N E R1 (by simpa using h1) kn' kr' kb' kc')
def xBreak : AX G := fun N S => N.bk S
theorem x_break : Rx (G := G) tBreak xBreak := fun Φ S σ Ω N E R h kn kr kb kc => kb S σ Ω h (Wle.refl _) R
def xAug (i : Nat) (a : AE G) (f : Int → Int → Int) : AX G := fun N S => ∃ m, S.ρ[i]? = some (some (.d (.int m))) ∧ a S fun x cs => ∃ n, x = .d (.int n) ∧ N.nx ⟨S.ρ.set i (some (.d (.int (f m n)))), cs⟩
theorem x_aug {i : Nat} {t : TE} {a : AE G} {f : Int → Int → Int} (ha : Re t a) : Rx (tAug i t (ipI f)) (xAug i a f) := fun Φ S σ Ω N E R ⟨m, e, h⟩ kn kr kb kc => by
  obtain ⟨v, e1, hv⟩ := R.slots i _ e
  cases (show v = .int m from hv)
  refine ⟨_, e1, ha Φ S σ Ω _ _ R h fun x cs v Ω1 ⟨n, e2, h1⟩ w1 R1 v1 => ?_⟩
  subst e2
  cases (show v = .int n from v1)
  exact ⟨m, n, rfl, rfl, kn _ _ Ω1 h1 w1 (R1.set rfl)⟩
/-- xs.append(e) of a list of one's own -/
def xApp (i : Nat) (a : AE G) : AX G := fun N S => ∃ j es, S.ρ[i]? = some (some (.cel j)) ∧ S.cs[j]? = some (.lst es) ∧ a S fun x cs => ∃ d ds, x = .d d ∧ cs[j]? = some (.lst ds) ∧ ds.length < sizeLine ∧ N.nx ⟨S.ρ, cs.set j (.lst (ds ++ [d]))⟩
theorem x_app {i : Nat} {t : TE} {a : AE G} (ha : Re t a) : Rx (tDrop (tBM G.K "list" rAppend (tVar i) (tCons t tNil))) (xApp i a) := fun Φ S σ Ω N E R ⟨j, es, e, ec, h⟩ kn kr kb kc => by
  obtain ⟨v, e1, p, hp, ev⟩ := R.slots i _ e
  subst ev
  have tl : tyV G.K "list" (.ref p) Ω.H := by
    obtain ⟨_, xs, h1, _⟩ := R.cells j _ p ec hp
    exact .inl ⟨rfl, xs, SqL.of h1⟩
  refine ⟨_, e1, tl, ha Φ S σ Ω _ _ R h fun x cs v Ω1 ⟨d, ds, e2, hc, hl, h1⟩ w1 R1 v1 => ?_⟩
  subst e2
  obtain ⟨t1, xs, h3, h4⟩ := R1.cells j _ p hc (pre_get w1.2 hp)
  refine ⟨p, xs, v, rfl, rfl, h3, by rw [h4.length]; exact hl, ?_⟩
  have w2 : Le Ω1.H Ω1.T (upd Ω1.H p (.lst (xs ++ [v]))) Ω1.T := le_put (by rw [t1]; intro z; cases z)
  obtain ⟨R2, w3⟩ := R1.write (c := .lst (ds ++ [d])) (pre_get w1.2 hp) t1 (G.ml (xs ++ [v])) ⟨t1, _, upd_same, (h4.snoc v1).le w2⟩
  exact kn _ _ _ h1 (w1.trans w3) R2
/-- a list of one's own is data from now on -/
def sub (j : Nat) (d : D G) : Option (SV G) → Option (SV G)
  | some (.cel i) => if i = j then some (.d d) else some (.cel i)
  | o => o
def xFrz (j : Nat) (a : AX G) : AX G := fun N S => ∃ ds, S.cs[j]? = some (.lst ds) ∧ a N ⟨S.ρ.map (sub j (.lst ds)), S.cs.set j .dead⟩
theorem x_frz {j : Nat} {t : TS} {a : AX G} (ha : Rx t a) : Rx t (xFrz j a) := fun Φ S σ Ω N E R ⟨ds, hc, h⟩ kn kr kb kc => by
  have hl : j < Ω.ads.length := by rw [R.len]; exact (List.getElem?_eq_some_iff.mp hc).1
  have hp := List.getElem?_eq_getElem hl
  obtain ⟨R1, w1, v1⟩ := R.freeze hp hc
  have R2 : Rel Φ ⟨S.ρ.map (sub j (.lst ds)), S.cs.set j .dead⟩ σ ⟨Ω.H, mset Ω.T Ω.ads[j] none, Ω.ads⟩ := R1.forget (by rw [List.length_map]; exact R1.sl) fun i d e => by
    rw [List.getElem?_map] at e
    cases e0 : S.ρ[i]? with
    | none => rw [e0] at e; cases e
    | some o =>
      rw [e0] at e
      cases o with
      | none => cases e
      | some x =>
        obtain ⟨v, h1, h2⟩ := R1.slots i x e0
        cases x with
        | d x => cases e; exact ⟨v, h1, h2⟩
        | cel l =>
          by_cases z : l = j
          · subst z
            have : d = .d (.lst ds) := by
              have e' : (if l = l then some (SV.d (D.lst ds)) else some (.cel l)) = some d := Option.some.inj e
              rw [if_pos rfl] at e'
              exact (Option.some.inj e').symm
            subst this
            obtain ⟨a, ha', ev⟩ := h2
            have : a = Ω.ads[l] := by rw [hp] at ha'; exact (Option.some.inj ha').symm
            subst this
            subst ev
            exact ⟨_, h1, v1⟩
          · have : d = .cel l := by
              have e' : (if l = j then some (SV.d (D.lst ds)) else some (.cel l)) = some d := Option.some.inj e
              rw [if_neg z] at e'
              exact (Option.some.inj e').symm
            subst this
            exact ⟨v, h1, h2⟩
  exact ha Φ _ σ ⟨Ω.H, mset Ω.T Ω.ads[j] none, Ω.ads⟩ N E R2 h (fun S2 σ2 Ω2 h2 w2 => kn S2 σ2 Ω2 h2 (w1.trans w2)) (fun x S2 v σ2 Ω2 h2 w2 => kr x S2 v σ2 Ω2 h2 (w1.trans w2)) (fun S2 σ2 Ω2 h2 w2 => kb S2 σ2 Ω2 h2 (w1.trans w2)) (fun S2 σ2 Ω2 h2 w2 => kc S2 σ2 Ω2 h2 (w1.trans w2))
/-! ### for -/
def xLoop (g : AG G) (a : AX G) (N : AN G) : List (D G) → AS G → Prop
  | [], S => N.nx S
  | d :: ds, S => g (.d d) S fun S1 => a { N with nx := xLoop g a N ds, ct := xLoop g a N ds, bk := N.nx } S1
def xFor (i : AI G) (g : AG G) (a : AX G) : AX G := fun N S => i S fun ds cs => xLoop g a N ds ⟨S.ρ, cs⟩
theorem x_for {is : List Nat} {wi : TI} {tg : TG} {t : TS} {i : AI G} {g : AG G} {a : AX G} (hi : Ri wi i) (hg : Rg is tg g) (ha : Rx t a) : Rx (tFor wi tg t) (xFor i g a) := fun Φ S σ Ω N E R h kn kr kb kc =>
  hi Φ S σ Ω _ _ R h fun ds cs J Ω1 h1 w1 R1 it => by
    refine ⟨fun n m σ H => ∃ S2 Ω2, H = Ω2.H ∧ Wle Ω1 Ω2 ∧ Rel Φ S2 σ Ω2 ∧ m = ds.length - n ∧ n ≤ ds.length ∧ xLoop g a N (ds.drop n) S2, ⟨_, _, Ω1, rfl, Wle.refl _, R1, rfl, Nat.zero_le _, h1⟩, ?_⟩
    rintro n m σ2 H2 ⟨S2, Ω2, rfl, w2, R2, rfl, hn, hx⟩
    obtain ⟨i1, i2⟩ := it Ω2 w2 R2.good
    by_cases c : n < ds.length
    · refine .inr ?_
      have e := List.getElem?_eq_getElem c
      obtain ⟨g1, g2⟩ := i2 n _ e
      refine ⟨g1, fun σ' H' => ∃ S3 Ω3, H' = Ω3.H ∧ Wle Ω1 Ω3 ∧ Rel Φ S3 σ' Ω3 ∧ xLoop g a N (ds.drop (n + 1)) S3, fun σ' H' ⟨S3, Ω3, e1, w3, R3, hx3⟩ => ⟨_, by omega, S3, Ω3, e1, w3, R3, rfl, c, hx3⟩, fun x H' y => ?_⟩
      obtain ⟨sm, vd⟩ := g2 x H' y
      have w3 : Wle Ω2 ⟨H', Ω2.T, Ω2.ads⟩ := wle_same sm
      have R3 := R2.same sm
      rw [List.drop_eq_getElem_cons c] at hx
      refine hg Φ S2 σ2 ⟨H', Ω2.T, Ω2.ads⟩ (.d ds[n]) x _ _ R3 vd hx fun S4 σ4 Ω4 h4 w4 R4 _ => ?_
      have w14 := w2.trans (w3.trans w4)
      refine ha Φ S4 σ4 Ω4 _ _ R4 h4 (fun S5 σ5 Ω5 h5 w5 R5 => ⟨S5, Ω5, rfl, w14.trans w5, R5, h5⟩) (fun x S5 v σ5 Ω5 h5 w5 => kr x S5 v σ5 Ω5 h5 (w1.trans (w14.trans w5))) (fun S5 σ5 Ω5 h5 w5 R5 => kn S5 σ5 Ω5 h5 (w1.trans (w14.trans w5)) R5) (fun S5 σ5 Ω5 h5 w5 R5 => ⟨S5, Ω5, rfl, w14.trans w5, R5, h5⟩)
    · refine .inl ⟨i1 n (by omega), ?_⟩
      rw [List.drop_eq_nil_of_le (by omega)] at hx
      exact kn S2 σ2 Ω2 hx (w1.trans w2) R2
/-! what is walked -/
def iL (a : AE G) : AI G := fun S P => a S fun x cs => ∃ ds, x = .d (.lst ds) ∧ P ds cs
theorem i_list {t : TE} {a : AE G} (ha : Re t a) : Ri (iList G.K t) (iL a) := fun Φ S σ Ω P Q R h k =>
  ha Φ S σ Ω _ _ R h fun x cs v Ω1 ⟨ds, e, q⟩ w1 R1 v1 => by
    subst e
    obtain ⟨p, xs, ev, hp, vs⟩ := v1
    refine ⟨p, ev, ⟨xs, SqL.of hp.1⟩, k ds cs _ Ω1 q w1 R1 fun Ω2 w2 _ => ?_⟩
    have h2 : Ω2.H p = some (.lst xs) := w2.1.kp _ _ hp.1 hp.2
    refine ⟨fun i hi => ⟨xs, SqL.of h2, by rw [vs.length]; exact hi⟩, fun i d e => ?_⟩
    obtain ⟨y, hy, vy⟩ := vs.get e
    exact ⟨⟨xs, y, SqL.of h2, hy⟩, fun x H' ⟨e1, e2⟩ => by
      subst e1
      have := e2 xs (SqL.of h2)
      rw [hy] at this
      cases this
      exact ⟨fun _ _ z => z, vy.le w2.1⟩⟩
def iT (a : AE G) : AI G := fun S P => a S fun x cs => ∃ ds, x = .d (.tup ds) ∧ P ds cs
theorem SqT.leT {H H' : Hp} {T T' : Mt G} (l : Le H T H' T') {p : Addr} {xs : List V} (r : (Rd H p (.tup xs) ∧ T p = none) ∨ Tp G.K p xs) : SqT G.K H' p xs := r.imp (fun r => (Rd.le l r.1 r.2).1) id
def iR1 (a : AA G) : AI G := fun S P => a S fun xs cs => ∃ n : Nat, xs = [.d (.int n)] ∧ (n : Int) < 2 ^ 62 ∧ P ((List.range n).map fun i => .int (0 + (i : Nat))) cs
theorem i_r1 {t : TA} {a : AA G} (ha : Ra t a) : Ri (iRng1 t) (iR1 a) := fun Φ S σ Ω P Q R h k =>
  ha Φ S σ Ω _ _ R h fun xs cs vs Ω1 ⟨n, e, hn, q⟩ w1 R1 v1 => by
    subst e
    obtain ⟨v, r, rfl, hv, rfl⟩ := v1
    cases (show v = .int n from hv)
    refine ⟨n, rfl, by omega, hn, k _ cs _ Ω1 q w1 R1 fun Ω2 w2 _ => ?_⟩
    rw [Int.toNat_natCast]
    refine ⟨fun i hi => by rw [List.length_map, List.length_range] at hi; exact hi, fun i d e => ?_⟩
    rw [List.getElem?_map] at e
    have hi : i < n := by
      cases z : (List.range n)[i]? with
      | none => rw [z] at e; cases e
      | some m => have := (List.getElem?_eq_some_iff.mp z).1; rwa [List.length_range] at this
    rw [List.getElem?_range hi] at e
    cases e
    exact ⟨hi, fun x H' ⟨e1, e2⟩ => by subst e1; exact ⟨fun _ _ z => z, e2⟩⟩
def iR2 (a : AA G) : AI G := fun S P => a S fun xs cs => ∃ (i : Int) (n : Nat), xs = [.d (.int i), .d (.int (i + n))] ∧ -(2 ^ 62) ≤ i ∧ i + n < 2 ^ 62 ∧ P ((List.range n).map fun k => .int (i + (k : Nat))) cs
theorem i_r2 {t : TA} {a : AA G} (ha : Ra t a) : Ri (iRng2 t) (iR2 a) := fun Φ S σ Ω P Q R h k =>
  ha Φ S σ Ω _ _ R h fun xs cs vs Ω1 ⟨i0, n, e, hn, hn2, q⟩ w1 R1 v1 => by
    subst e
    obtain ⟨v, r, rfl, hv, v2, r2, rfl, hv2, rfl⟩ := v1
    cases (show v = .int i0 from hv)
    cases (show v2 = .int (i0 + n) from hv2)
    refine ⟨i0, i0 + n, rfl, ⟨hn, by omega, by omega, hn2⟩, k _ cs _ Ω1 q w1 R1 fun Ω2 w2 _ => ?_⟩
    rw [show (i0 + (n : Int) - i0).toNat = n by omega]
    refine ⟨fun i hi => by rw [List.length_map, List.length_range] at hi; exact hi, fun i d e => ?_⟩
    rw [List.getElem?_map] at e
    have hi : i < n := by
      cases z : (List.range n)[i]? with
      | none => rw [z] at e; cases e
      | some m => have := (List.getElem?_eq_some_iff.mp z).1; rwa [List.length_range] at this
    rw [List.getElem?_range hi] at e
    cases e
    exact ⟨hi, fun x H' ⟨e1, e2⟩ => by subst e1; exact ⟨fun _ _ z => z, e2⟩⟩
end
end A

namespace A
open PySem L2
section
variable {G : Cfg}
/-! ### list comprehensions -/
def aWipe (ρ : List (Option (SV G))) : List Nat → List (Option (SV G))
  | [] => ρ
  | v :: vs => (aWipe ρ vs).set v none
theorem aWipe_length (ρ : List (Option (SV G))) : ∀ vs, (aWipe ρ vs).length = ρ.length
  | [] => rfl
  | v :: vs => by unfold aWipe; rw [List.length_set, aWipe_length ρ vs]
theorem aWipe_some {ρ : List (Option (SV G))} {j : Nat} {x : SV G} : ∀ {vs : List Nat}, (aWipe ρ vs)[j]? = some (some x) → ρ[j]? = some (some x) ∧ j ∉ vs
  | [], h => ⟨h, by simp⟩
  | v :: vs, h => by
    unfold aWipe at h
    by_cases e : v = j
    · subst e
      by_cases l : v < ρ.length
      · rw [List.getElem?_set_self (by rw [aWipe_length]; exact l)] at h; cases h
      · rw [List.getElem?_eq_none (by rw [List.length_set, aWipe_length]; omega)] at h; cases h
    · rw [List.getElem?_set_ne e] at h
      obtain ⟨h1, h2⟩ := aWipe_some h
      exact ⟨h1, fun m => (List.mem_cons.mp m).elim (fun z => e z.symm) h2⟩
def tYesA : AT G := fun S P => P true S.cs
theorem rt_yes : Rt (G := G) tYes tYesA := fun Φ S σ Ω P Q R h k => k true S.cs Ω h (Wle.refl _) R
def cLoop (ρ : List (Option (SV G))) (g : AG G) (tt : AT G) (te : AE G) (P : List (D G) → Cs G → Prop) : List (D G) → List (D G) → Cs G → Prop
  | [], acc, cs => P acc cs
  | d :: ds, acc, cs => g (.d d) ⟨ρ, cs⟩ fun S1 => tt S1 fun b cs2 => if b = true then te ⟨S1.ρ, cs2⟩ fun y cs3 => ∃ e, y = .d e ∧ cLoop ρ g tt te P ds (acc ++ [e]) cs3 else cLoop ρ g tt te P ds acc cs2
def aLc (is : List Nat) (i : AI G) (g : AG G) (tt : AT G) (te : AE G) : AE G := fun S P => i S fun ds cs => ds.length ≤ sizeLine ∧ cLoop (aWipe S.ρ is) g tt te (fun acc cs => P (.d (.lst acc)) cs) ds [] cs
theorem r_lc {is : List Nat} {wi : TI} {tg : TG} {tt' : L2.TT} {te' : TE} {i : AI G} {g : AG G} {tt : AT G} {te : AE G} (hi : Ri wi i) (hg : Rg is tg g) (ht : Rt tt' tt) (he : Re te' te) : Re (tLc wi tg tt' te' is) (aLc is i g tt te) := fun Φ S σ Ω P Q R h k =>
  hi Φ S σ Ω _ _ R h fun ds cs J Ω1 ⟨hz, h1⟩ w1 R1 it => fun Dd hD => by
    have fD := R1.fresh hD
    obtain ⟨Ra, wa, na⟩ := R1.new hD (G.ml [])
    refine ⟨fun n m H => ∃ cs2 Ω2 acc xs, H = Ω2.H ∧ Wle Ω1 Ω2 ∧ Rel Φ ⟨S.ρ, cs2⟩ σ Ω2 ∧ Ω2.T Dd = some none ∧ Dd ∉ Ω2.ads ∧ Ω2.H Dd = some (.lst xs) ∧ VDs Ω2.H Ω2.T acc xs ∧ acc.length ≤ n ∧ n ≤ ds.length ∧ m = ds.length - n ∧ cLoop (aWipe S.ρ is) g tt te (fun acc cs => P (.d (.lst acc)) cs) (ds.drop n) acc cs2,
      ⟨_, cs, _, [], [], rfl, wa, Ra, mset_same, na, upd_same, rfl, Nat.le_refl _, Nat.zero_le _, rfl, h1⟩, ?_⟩
    rintro n m H2 ⟨cs2, Ω2, acc, xs, rfl, w2, R2, tD, nD, hDx, vacc, hal, hn, rfl, hx⟩
    obtain ⟨i1, i2⟩ := it Ω2 w2 R2.good
    by_cases c : n < ds.length
    · refine .inr ?_
      have e := List.getElem?_eq_getElem c
      obtain ⟨g1, g2⟩ := i2 n _ e
      refine ⟨g1, fun H' => ∃ cs3 Ω3 acc xs, H' = Ω3.H ∧ Wle Ω1 Ω3 ∧ Rel Φ ⟨S.ρ, cs3⟩ σ Ω3 ∧ Ω3.T Dd = some none ∧ Dd ∉ Ω3.ads ∧ Ω3.H Dd = some (.lst xs) ∧ VDs Ω3.H Ω3.T acc xs ∧ acc.length ≤ n + 1 ∧ cLoop (aWipe S.ρ is) g tt te (fun acc cs => P (.d (.lst acc)) cs) (ds.drop (n + 1)) acc cs3,
        fun H' ⟨cs3, Ω3, acc, xs, e1, w3, R3, a1, a2, a3, a4, a5, a6⟩ => ⟨_, by omega, cs3, Ω3, acc, xs, e1, w3, R3, a1, a2, a3, a4, a5, c, rfl, a6⟩, fun x H' y => ?_⟩
      obtain ⟨sm, vd⟩ := g2 x H' y
      have w3 : Wle Ω2 ⟨H', Ω2.T, Ω2.ads⟩ := wle_same sm
      have R3 := R2.same sm
      have hD3 : H' Dd = some (.lst xs) := sm _ _ hDx
      generalize hΩ3 : (⟨H', Ω2.T, Ω2.ads⟩ : Wd G) = Ω3 at w3 R3
      have eH : H' = Ω3.H := by rw [← hΩ3]
      have eT : Ω2.T = Ω3.T := by rw [← hΩ3]
      have eA : Ω2.ads = Ω3.ads := by rw [← hΩ3]
      rw [eH] at hD3 vd ⊢
      rw [eT] at tD vd
      rw [eA] at nD
      rw [List.drop_eq_getElem_cons c] at hx
      have Rw : Rel (Fr.at Ω3) ⟨aWipe S.ρ is, cs2⟩ (wipe σ is) Ω3 := R3.enter.forget (by rw [aWipe_length, wipe_length]; exact R3.sl) fun j d e => by
        obtain ⟨h5, h6⟩ := aWipe_some e
        obtain ⟨v, h7, h8⟩ := R3.slots j d h5
        exact ⟨v, by rw [wipe_out h6]; exact h7, h8⟩
      -- back from the body
      have back : ∀ {S5 : AS G} {σ5 : L2.St} {Ω5 : Wd G}, Wle Ω3 Ω5 → Rel (Fr.at Ω3) S5 σ5 Ω5 → Rel Φ ⟨S.ρ, S5.cs⟩ σ Ω5 ∧ Ω5.T Dd = some none ∧ Dd ∉ Ω5.ads ∧ Ω5.H Dd = some (.lst xs) := fun {S5 σ5 Ω5} w5 R5 => by
        have R6 := R3.leave R5
        obtain ⟨f1, f2⟩ := R5.fr Dd tD nD
        refine ⟨R6.forget R3.sl fun j d e => ?_, f1, fun z => ?_, f2.trans hD3⟩
        · obtain ⟨v, h7, h8⟩ := R3.slots j d e
          exact ⟨v, h7, h8.le w5⟩
        · rcases R5.own Dd z with z | z
          · exact nD z
          · have z' : Ω3.H Dd = none := z
            rw [hD3] at z'; cases z'
      refine hg (Fr.at Ω3) _ (wipe σ is) Ω3 (.d ds[n]) x _ _ Rw vd hx fun S4 σ4 Ω4 h4 w4 R4 e4 => ⟨?_, ?_⟩
      · rw [e4]
        exact wipe_eq (wipe_length _ _) fun j m => wipe_out m
      refine ht (Fr.at Ω3) S4 σ4 Ω4 _ _ R4 h4 fun b cs5 Ω5 h5 w5 R5 => ?_
      cases b with
      | false =>
        obtain ⟨b1, b2, b3, b4⟩ := back (w4.trans w5) R5
        exact iteF ⟨cs5, Ω5, acc, xs, rfl, w2.trans (w3.trans (w4.trans w5)), b1, b2, b3, b4, vacc.le (w3.trans (w4.trans w5)).1, by omega, by simpa using h5⟩
      | true =>
        refine iteT (he (Fr.at Ω3) ⟨S4.ρ, cs5⟩ σ4 Ω5 (fun y cs3 => ∃ e, y = .d e ∧ cLoop (aWipe S.ρ is) g tt te (fun acc cs => P (.d (.lst acc)) cs) (ds.drop (n + 1)) (acc ++ [e]) cs3) _ R5 (by simpa using h5) fun y cs6 v Ω6 h6' w6 R6 v6 => ?_)
        obtain ⟨ed, e6, h6⟩ := h6'
        subst e6
        have w36 := w4.trans (w5.trans w6)
        obtain ⟨b1, b2, b3, b4⟩ := back w36 R6
        have v7 := vacc.le (w3.trans w36).1
        refine ⟨xs, b4, by rw [vacc.length]; omega, ?_⟩
        obtain ⟨R7, w7⟩ := b1.put b2 b3 fD (G.ml (xs ++ [v]))
        exact ⟨cs6, _, acc ++ [ed], xs ++ [v], rfl, (w2.trans w3).trans (w36.trans w7), R7, b2, b3, upd_same, (v7.snoc v6).le w7.1, by rw [List.length_append, List.length_singleton]; omega, h6⟩
    · refine .inl ⟨i1 n (by omega), ?_⟩
      rw [List.drop_eq_nil_of_le (by omega)] at hx
      obtain ⟨R4, w4⟩ := R2.still tD nD fD
      exact k (.d (.lst acc)) cs2 (.ref Dd) ⟨Ω2.H, mset Ω2.T Dd none, Ω2.ads⟩ hx (w1.trans (w2.trans w4)) R4 ⟨Dd, xs, rfl, ⟨hDx, mset_same⟩, vacc.le w4.1⟩
/-! ### by an invariant -/
def loopI (g : AG G) (a : AX G) (N : AN G) (ds : List (D G)) (S : AS G) : Prop := ∃ Inv : Nat → AS G → Prop, Inv 0 S ∧
  (∀ n d S, ds[n]? = some d → Inv n S → g (.d d) S fun S1 => a { N with nx := Inv (n + 1), ct := Inv (n + 1), bk := N.nx } S1) ∧ ∀ S, Inv ds.length S → N.nx S
def xForI (i : AI G) (g : AG G) (a : AX G) : AX G := fun N S => i S fun ds cs => loopI g a N ds ⟨S.ρ, cs⟩
theorem x_forI {is : List Nat} {wi : TI} {tg : TG} {t : TS} {i : AI G} {g : AG G} {a : AX G} (hi : Ri wi i) (hg : Rg is tg g) (ha : Rx t a) : Rx (tFor wi tg t) (xForI i g a) := fun Φ S σ Ω N E R h kn kr kb kc =>
  hi Φ S σ Ω _ _ R h fun ds cs J Ω1 h1' w1 R1 it => by
    obtain ⟨Inv, h1, hs, hd⟩ := h1'
    refine ⟨fun n m σ H => ∃ S2 Ω2, H = Ω2.H ∧ Wle Ω1 Ω2 ∧ Rel Φ S2 σ Ω2 ∧ m = ds.length - n ∧ n ≤ ds.length ∧ Inv n S2, ⟨_, _, Ω1, rfl, Wle.refl _, R1, rfl, Nat.zero_le _, h1⟩, ?_⟩
    rintro n m σ2 H2 ⟨S2, Ω2, rfl, w2, R2, rfl, hn, hx⟩
    obtain ⟨i1, i2⟩ := it Ω2 w2 R2.good
    by_cases c : n < ds.length
    · refine .inr ?_
      have e := List.getElem?_eq_getElem c
      obtain ⟨g1, g2⟩ := i2 n _ e
      refine ⟨g1, fun σ' H' => ∃ S3 Ω3, H' = Ω3.H ∧ Wle Ω1 Ω3 ∧ Rel Φ S3 σ' Ω3 ∧ Inv (n + 1) S3, fun σ' H' ⟨S3, Ω3, e1, w3, R3, hx3⟩ => ⟨_, by omega, S3, Ω3, e1, w3, R3, rfl, c, hx3⟩, fun x H' y => ?_⟩
      obtain ⟨sm, vd⟩ := g2 x H' y
      have w3 : Wle Ω2 ⟨H', Ω2.T, Ω2.ads⟩ := wle_same sm
      have R3 := R2.same sm
      refine hg Φ S2 σ2 ⟨H', Ω2.T, Ω2.ads⟩ (.d ds[n]) x _ _ R3 vd (hs n _ S2 e hx) fun S4 σ4 Ω4 h4 w4 R4 _ => ?_
      have w14 := w2.trans (w3.trans w4)
      refine ha Φ S4 σ4 Ω4 _ _ R4 h4 (fun S5 σ5 Ω5 h5 w5 R5 => ⟨S5, Ω5, rfl, w14.trans w5, R5, h5⟩) (fun x S5 v σ5 Ω5 h5 w5 => kr x S5 v σ5 Ω5 h5 (w1.trans (w14.trans w5))) (fun S5 σ5 Ω5 h5 w5 R5 => kn S5 σ5 Ω5 h5 (w1.trans (w14.trans w5)) R5) (fun S5 σ5 Ω5 h5 w5 R5 => ⟨S5, Ω5, rfl, w14.trans w5, R5, h5⟩)
    · refine .inl ⟨i1 n (by omega), ?_⟩
      have e : n = ds.length := by omega
      subst e
      exact kn S2 σ2 Ω2 (hd S2 hx) (w1.trans w2) R2
/-- a comprehension whose turns are alike -/
theorem cLoop_map {ρ : List (Option (SV G))} {g : AG G} {te : AE G} {P : List (D G) → Cs G → Prop} {cs : Cs G} {f : D G → D G} : ∀ {ds acc : List (D G)}, (∀ d, d ∈ ds → ∀ k : D G → Cs G → Prop, k (f d) cs → g (.d d) ⟨ρ, cs⟩ fun S1 => te ⟨S1.ρ, S1.cs⟩ fun y cs3 => ∃ e, y = .d e ∧ k e cs3) → P (acc ++ ds.map f) cs → cLoop ρ g tYesA te P ds acc cs
  | [], acc, _, p => by
    show P acc cs
    simpa using p
  | d :: ds, acc, h, p => h d List.mem_cons_self (fun e cs3 => cLoop ρ g tYesA te P ds (acc ++ [e]) cs3) (cLoop_map (acc := acc ++ [f d]) (fun d m => h d (List.mem_cons_of_mem _ m)) (by simpa using p))
/-! ### defs -/
/-- what a def promises of data -/
def cP (G : Cfg) (g : List (D G) → (D G → Prop) → Prop) : Sp := fun vs H Q _ => ∃ ds T P, Good (G := G) H T ∧ VDs H T ds vs ∧ g ds P ∧
  ∀ d v H' T', P d → Le H T H' T' → Good H' T' → (∀ a, T a = some none → T' a = some none ∧ H' a = H a) → VD H' T' d v → Q v H'
/-- .. that draws from a cell -/
def cB (G : Cfg) (g : G.κ → List (D G) → (D G → G.κ → Prop) → Prop) : Sp := fun vs H Q _ => ∃ p ws c ds T P, vs = .ref p :: ws ∧ Good (G := G) H T ∧ T p = some none ∧ (∃ o, H p = some o ∧ G.Cl c o) ∧ VDs H T ds ws ∧ g c ds P ∧
  ∀ d c' v H' T', P d c' → Le H T H' T' → Good H' T' → (∀ a, a ≠ p → T a = some none → T' a = some none ∧ H' a = H a) → T' p = some none → (∃ o, H' p = some o ∧ G.Cl c' o) → VD H' T' d v → Q v H'
def aCallP (g : List (D G) → (D G → Prop) → Prop) (a : AA G) : AE G := fun S P => a S fun xs cs => ∃ ds, undd xs = some ds ∧ g ds fun d => P (.d d) cs
theorem r_callP {g : List (D G) → (D G → Prop) → Prop} {E : XK} {t : TA} {a : AA G} (ha : Ra t a) : Re (tCall (cP G g) [] E t) (aCallP g a) := fun Φ S σ Ω P Q R h k =>
  ha Φ S σ Ω _ _ R h fun xs cs vs Ω1 ⟨ds, e, q⟩ w1 R1 v1 => by
    rw [List.append_nil]
    refine ⟨ds, Ω1.T, _, R1.good, v1.undd e, q, fun d v H' T' p l g' fr vd => ?_⟩
    obtain ⟨R2, w2⟩ := R1.after l g' fr
    exact k _ cs v _ p (w1.trans w2) R2 vd
def aCallB (g : G.κ → List (D G) → (D G → G.κ → Prop) → Prop) (a : AA G) : AE G := fun S P => a S fun xs cs => ∃ j r c ds, xs = .cel j :: r ∧ cs[j]? = some (.any c) ∧ undd r = some ds ∧ g c ds fun d c' => P (.d d) (cs.set j (.any c'))
theorem r_callB {g : G.κ → List (D G) → (D G → G.κ → Prop) → Prop} {E : XK} {t : TA} {a : AA G} (ha : Ra t a) : Re (tCall (cB G g) [] E t) (aCallB g a) := fun Φ S σ Ω P Q R h k =>
  ha Φ S σ Ω _ _ R h fun xs cs vs Ω1 ⟨j, r, c, ds, e, ec, eu, q⟩ w1 R1 v1 => by
    subst e
    obtain ⟨v, ws, rfl, ⟨p, hp, rfl⟩, v2⟩ := v1
    rw [List.append_nil]
    obtain ⟨t1, o, ho, hc⟩ := R1.cells j _ p ec hp
    refine ⟨p, ws, c, ds, Ω1.T, _, rfl, R1.good, t1, ⟨o, ho, hc⟩, v2.undd eu, q, fun d c' v H' T' pp l g' fr tp ho' vd => ?_⟩
    obtain ⟨R2, w2⟩ := R1.afterC hp l g' fr tp ho'
    exact k _ _ v _ pp (w1.trans w2) R2 vd
/-- the state at the entry -/
def ρ0 (xs : List (SV G)) (n : Nat) : List (Option (SV G)) := xs.map some ++ List.replicate (n - xs.length) none
def retP (P : D G → Prop) (x : SV G) (cs : Cs G) : Prop := match x with
  | .d d => P d
  | .cel j => ∃ ds, cs[j]? = some (.lst ds) ∧ P (.lst ds)
theorem start_get {N : List Str} {vs : List V} {i : Nat} {v : V} (h : vs[i]? = some v) : (L2.start N vs)[i]? = some (some v) := by
  unfold L2.start
  have hl : i < vs.length := (List.getElem?_eq_some_iff.mp h).1
  rw [List.getElem?_append_left (by rw [List.length_map]; exact hl), List.getElem?_map, h]
  rfl
theorem VSs.get {Ω : Wd G} : ∀ {xs : List (SV G)} {vs : List V}, VSs Ω xs vs → ∀ {i : Nat} {x : SV G}, xs[i]? = some x → ∃ v, vs[i]? = some v ∧ VS Ω x v
  | [], _, _, i, d, e => by simp at e
  | d :: ds, xs, ⟨x, r, e, k, j⟩, i, d', h => by
    subst e
    cases i with
    | zero => simp at h; subst h; exact ⟨x, rfl, k⟩
    | succ i => simp at h ⊢; exact VSs.get j h
theorem VSs.length {Ω : Wd G} : ∀ {xs : List (SV G)} {vs : List V}, VSs Ω xs vs → vs.length = xs.length
  | [], _, e => by rw [show _ = [] from e]; rfl
  | d :: ds, xs, ⟨x, r, e, k, j⟩ => by rw [e, List.length_cons, List.length_cons, VSs.length j]
theorem VDs.svs {Ω : Wd G} : ∀ {ds : List (D G)} {vs : List V}, VDs Ω.H Ω.T ds vs → VSs Ω (ds.map .d) vs
  | [], _, e => e
  | d :: ds, xs, ⟨x, r, e, k, j⟩ => ⟨x, r, e, k, VDs.svs j⟩
theorem rel0 {N : List Str} {Φ : Fr G} {Ω : Wd G} {xs : List (SV G)} {cs : Cs G} {vs : List V} (good : Good Ω.H Ω.T) (le0 : Le Φ.H Φ.T Ω.H Ω.T) (fr : ∀ a, Φ.T a = some none → ¬ Φ.P a → Ω.T a = some none ∧ Ω.H a = Φ.H a) (nd : Ω.ads.Nodup) (own : ∀ a, a ∈ Ω.ads → Φ.P a ∨ Φ.H a = none)
    (len : Ω.ads.length = cs.length) (al : ∀ a, a ∈ Ω.ads → Ω.H a ≠ none) (cells : ∀ (i : Nat) (c : Cell G) (a : Addr), cs[i]? = some c → Ω.ads[i]? = some a → CellOk Ω a c) (h : VSs Ω xs vs) (g0 : Good Φ.H Φ.T) : Rel Φ ⟨ρ0 xs N.length, cs⟩ (L2.start N vs) Ω := by
  refine ⟨good, le0, fr, nd, own, len, al, cells, ?_, fun i d e => ?_, g0⟩
  · unfold ρ0 L2.start
    simp [h.length]
  · have e' : (ρ0 xs N.length)[i]? = some (some d) := e
    unfold ρ0 at e'
    by_cases c : i < xs.length
    · rw [List.getElem?_append_left (by rw [List.length_map]; exact c), List.getElem?_map] at e'
      have hx := List.getElem?_eq_getElem c
      rw [hx] at e'
      cases e'
      obtain ⟨v, h1, h2⟩ := h.get hx
      exact ⟨v, start_get h1, h2⟩
    · rw [List.getElem?_append_right (by rw [List.length_map]; omega), List.getElem?_replicate] at e'
      split at e' <;> cases e'
/-- a def whose body is read so keeps its promise -/
theorem fn_P {t : TS} {a : AX G} (hx : Rx t a) {g : List (D G) → (D G → Prop) → Prop} {N : List Str} {vs : List V} {H : Hp} {Q : VK} {E : XK} (h : cP G g vs H Q E)
    (hg : ∀ ds P, g ds P → a ⟨fun _ => P .non, retP P, fun _ => False, fun _ => False⟩ ⟨ρ0 (ds.map .d) N.length, []⟩) : t { nx := fun _ H' => Q .non H', rt := Q } (L2.start N vs) H := by
  obtain ⟨ds, T, P, gd, vd, q, k⟩ := h
  have R0 : Rel ⟨H, T, fun _ => False⟩ ⟨ρ0 (ds.map .d) N.length, []⟩ (L2.start N vs) ⟨H, T, []⟩ := rel0 gd (Le.refl _ _) (fun a t _ => ⟨t, rfl⟩) List.nodup_nil (fun a m => nomatch m) rfl (fun a m => nomatch m) (fun i c a e => by simp at e) (VDs.svs (Ω := ⟨H, T, []⟩) vd) gd
  have fin : ∀ {S2 σ2} {Ω2 : Wd G}, Rel ⟨H, T, fun _ => False⟩ S2 σ2 Ω2 → ∀ d v, P d → VD Ω2.H Ω2.T d v → Q v Ω2.H := fun R2 d v p vd => k d v _ _ p R2.le0 R2.good (fun a t => R2.fr a t id) vd
  refine hx _ _ _ ⟨H, T, []⟩ ⟨fun _ => P .non, retP P, fun _ => False, fun _ => False⟩ _ R0 (hg ds P q) (fun S2 σ2 Ω2 p w R2 => fin R2 .non .non p rfl) (fun x S2 v σ2 Ω2 p w R2 vx => ?_) (fun _ _ _ z => z.elim) fun _ _ _ z => z.elim
  cases x with
  | d d => exact fin R2 d v p vx
  | cel j =>
    obtain ⟨es, ec, p⟩ := p
    obtain ⟨b, hb, rfl⟩ := vx
    obtain ⟨R3, w3, v3⟩ := R2.freeze hb ec
    exact fin (Ω2 := ⟨Ω2.H, mset Ω2.T b none, Ω2.ads⟩) R3 _ _ p v3
theorem fn_B {t : TS} {a : AX G} (hx : Rx t a) {g : G.κ → List (D G) → (D G → G.κ → Prop) → Prop} {N : List Str} {vs : List V} {H : Hp} {Q : VK} {E : XK} (h : cB G g vs H Q E)
    (hg : ∀ c ds P, g c ds P → a ⟨fun S => ∃ c', S.cs[0]? = some (.any c') ∧ P .non c', fun x cs => ∃ c', cs[0]? = some (.any c') ∧ retP (fun d => P d c') x cs, fun _ => False, fun _ => False⟩ ⟨ρ0 (.cel 0 :: ds.map .d) N.length, [.any c]⟩) : t { nx := fun _ H' => Q .non H', rt := Q } (L2.start N vs) H := by
  obtain ⟨p, ws, c, ds, T, P, rfl, gd, tp, ho, vd, q, k⟩ := h
  have R0 : Rel ⟨H, T, (· = p)⟩ ⟨ρ0 (.cel 0 :: ds.map .d) N.length, [.any c]⟩ (L2.start N (.ref p :: ws)) ⟨H, T, [p]⟩ := rel0 gd (Le.refl _ _) (fun a t _ => ⟨t, rfl⟩) (by simp) (fun a m => .inl (List.mem_singleton.mp m)) rfl (fun a m => by
      rw [List.mem_singleton.mp m]
      obtain ⟨o, ho, _⟩ := ho
      intro z
      have z' : H p = none := z
      rw [ho] at z'; cases z')
    (fun i c' a e e2 => by
      cases i with
      | zero => cases e; cases e2; exact ⟨tp, ho⟩
      | succ i => simp at e) ⟨.ref p, ws, rfl, ⟨p, rfl, rfl⟩, VDs.svs (Ω := ⟨H, T, [p]⟩) vd⟩ gd
  have fin : ∀ {S2 : AS G} {σ2} {Ω2 : Wd G}, Ω2.ads[0]? = some p → Rel ⟨H, T, (· = p)⟩ S2 σ2 Ω2 → ∀ d v c', S2.cs[0]? = some (.any c') → P d c' → VD Ω2.H Ω2.T d v → Q v Ω2.H := fun {S2 σ2 Ω2} hp R2 d v c' e pp vd => by
    obtain ⟨t2, h2⟩ := R2.cells 0 _ p e hp
    exact k d c' v _ _ pp R2.le0 R2.good (fun a na t => R2.fr a t na) t2 h2 vd
  have ad : ∀ {Ω2 : Wd G}, Wle ⟨H, T, [p]⟩ Ω2 → Ω2.ads[0]? = some p := fun w => pre_get w.2 rfl
  refine hx _ _ _ ⟨H, T, [p]⟩ ⟨fun S => ∃ c', S.cs[0]? = some (.any c') ∧ P .non c', fun x cs => ∃ c', cs[0]? = some (.any c') ∧ retP (fun d => P d c') x cs, fun _ => False, fun _ => False⟩ _ R0 (hg c ds P q) (fun S2 σ2 Ω2 ⟨c', e, pp⟩ w R2 => fin (ad w) R2 .non .non c' e pp rfl) (fun x S2 v σ2 Ω2 ⟨c', e, pp⟩ w R2 vx => ?_) (fun _ _ _ z => z.elim) fun _ _ _ z => z.elim
  cases x with
  | d d => exact fin (ad w) R2 d v c' e pp vx
  | cel j =>
    obtain ⟨es, ec, pp⟩ := pp
    obtain ⟨b, hb, rfl⟩ := vx
    obtain ⟨R3, w3, v3⟩ := R2.freeze hb ec
    refine fin (Ω2 := ⟨Ω2.H, mset Ω2.T b none, Ω2.ads⟩) (show Ω2.ads[0]? = some p from ad w) R3 _ _ c' ?_ pp v3
    have j0 : j ≠ 0 := fun z => by subst z; rw [e] at ec; cases ec
    show (S2.cs.set j .dead)[0]? = _
    rw [List.getElem?_set_ne j0]; exact e
end
end A

namespace PySem
open Sem (wp)
namespace F
theorem zip_no_len : typeLookup (.type "zip") "__len__" = pure none := by rw [typeLookup_type, builtinLookup_eq_fast]; kernel_rfl
theorem zip_no_hint : typeLookup (.type "zip") "__length_hint__" = pure none := by rw [typeLookup_type, builtinLookup_eq_fast]; kernel_rfl
end F
section
variable {prog : Program} {w : World} {A : Around} {E : Value → Shared → Prop} {s : Shared}
theorem wpAny_loadIfAlive {a : Addr} {Q : Option Obj → Shared → Prop} (h : Q (s.heap.get? a) s) : wpAny (model prog w) A (loadIfAlive a) Q E s := fun Γ p _ => h
/-- a zip whose last pair still lives -/
def IsZipT (h : Heap) (z TI TO T : Addr) : Prop := ∃ b : Bool, h.get? z = some { cls := .type "zip", dict := none, data := .fields #[rawInt T, .bool b, .bool false, .ref TI, .ref TO], slots := #[] }
theorem owned_busy {z TI TO T : Addr} {b : Bool} {oT : Obj} (hz : s.heap.get? z = some { cls := .type "zip", dict := none, data := .fields #[rawInt T, .bool b, .bool false, .ref TI, .ref TO], slots := #[] }) (hT : s.heap.get? T = some oT) :
    wpAny (model prog w) A (Builtin.SmallTypes.ownedTupleIsFree (.ref z)) (fun r s' => r = false ∧ ∃ h', IsZipT h' z TI TO T ∧ Heap.SameBut z s.heap h' ∧ s' = { s with heap := h' }) E s := by
  unfold Builtin.SmallTypes.ownedTupleIsFree
  refine wpAny_bind (wpAny_field hz rfl (x := rawInt T) rfl ?_)
  show wpAny _ _ (loadIfAlive (T : Int).toNat >>= _) _ _ _
  refine wpAny_bind (wpAny_loadIfAlive ?_)
  rw [show (T : Int).toNat = T from rfl, hT]
  show wpAny _ _ (field (.ref z) 1 >>= _) _ _ _
  refine wpAny_bind (wpAny_field hz rfl (x := .bool b) rfl ?_)
  cases b with
  | false =>
    show wpAny _ _ (setField (.ref z) 1 (.bool true) >>= _) _ _ _
    refine wpAny_bind (wpAny_setField_rec hz (by simp) fun h₁ hz₁ hs₁ => ?_)
    exact wpAny_pure ⟨rfl, h₁, ⟨true, hz₁⟩, hs₁, rfl⟩
  | true => exact wpAny_pure ⟨rfl, s.heap, ⟨true, hz⟩, Heap.SameBut.refl _ _, rfl⟩
theorem zipT_next_item {z TI TO T i1 i2 l1 l2 : Addr} {k1 k2 : Nat} {xs ys : Array Value} {x y : Value} {oT : Obj} {Q : Value → Shared → Prop} (D : ZipApart z TI TO i1 i2 l1 l2)
    (hz : IsZipT s.heap z TI TO T) (hTI : IsPair s.heap TI (.ref i1) (.ref i2)) (hT : s.heap.get? T = some oT)
    (h1 : s.heap.IsListIter i1 l1 k1) (h2 : s.heap.IsListIter i2 l2 k2) (hl1 : s.heap.IsList l1 xs) (hl2 : s.heap.IsList l2 ys) (hx : xs[k1]? = some x) (hy : ys[k2]? = some y)
    (hQ : ∀ h', IsZipT h' z TI TO T → h'.IsListIter i1 l1 (k1 + 1) → h'.IsListIter i2 l2 (k2 + 1) → IsPair h' s.heap.objs.size x y →
      (∀ c o, c ≠ z → c ≠ i1 → c ≠ i2 → s.heap.get? c = some o → h'.get? c = some o) → Q (.ref s.heap.objs.size) { s with heap := h' }) :
    wpAny (model prog w) A (Builtin.«zip.__next__» ⟨[.ref z], []⟩) (fun fin s' => ∃ v, fin = .done (.ret v) ∧ Q v s') E s := by
  obtain ⟨b, hz⟩ := hz
  show wpAny _ _ (field (.ref z) 2 >>= _) _ _ _
  refine wpAny_bind (wpAny_field hz rfl (x := .bool false) rfl ?_)
  show wpAny _ _ (field (.ref z) 3 >>= _) _ _ _
  refine wpAny_bind (wpAny_field hz rfl (x := .ref TI) rfl ?_)
  refine wpAny_bind (wpAny_seqItems hTI rfl ?_)
  show wpAny _ _ (Builtin.SmallTypes.ownedTupleIsFree (.ref z) >>= _) _ _ _
  refine wpAny_bind (wpAny_mono (owned_busy hz hT) (fun r s' ⟨hr, h', hz', hs', es⟩ => ?_) fun _ _ z => z)
  subst hr; subst es
  show wpAny _ _ (forIn #[Value.ref i1, Value.ref i2] _ _ >>= _) _ _ _
  refine wpAny_bind ?_
  rw [← Array.forIn_toList]
  simp only [List.forIn_cons, List.forIn_nil]
  refine wpAny_bind (wpAny_bind (wpAny_holding ?_))
  show wpAny _ _ (Builtin.SmallTypes.nextOf (.ref i1) >>= _) _ _ _
  refine wpAny_bind (wpAny_nextOf_list_item (h1.extBut hs'.extBut D.i1z) (hl1.extBut hs'.extBut D.l1z) hx fun h₂ h1₂ hs₂ => wpAny_pure ?_)
  refine wpAny_pure ?_
  refine wpAny_bind (wpAny_bind (wpAny_holding ?_))
  show wpAny _ _ (Builtin.SmallTypes.nextOf (.ref i2) >>= _) _ _ _
  refine wpAny_bind (wpAny_nextOf_list_item ((h2.extBut hs'.extBut D.i2z).extBut hs₂.extBut D.i12.symm) ((hl2.extBut hs'.extBut D.l2z).extBut hs₂.extBut D.l2i1) hy fun h₄ h2₄ hs₄ => wpAny_pure ?_)
  refine wpAny_pure (wpAny_pure ?_)
  refine wpAny_bind (wpAny_newTuple (hsz := by show 2 ≤ sizeLine; rw [sizeLine_eq]; omega) (wpAny_pure ⟨_, rfl, ?_⟩))
  have hsz : h₄.objs.size = s.heap.objs.size := by rw [hs₄.1, hs₂.1, hs'.1]
  have up : ∀ c o, c ≠ z → c ≠ i1 → c ≠ i2 → s.heap.get? c = some o → h₄.get? c = some o := fun c o a1 a2 a3 e => hs₄.extBut _ _ a3 (hs₂.extBut _ _ a2 (hs'.extBut _ _ a1 e))
  show Q (.ref h₄.objs.size) _
  rw [hsz]
  obtain ⟨b', hz'⟩ := hz'
  refine hQ _ ⟨b', Heap.get?_push_of_some _ (hs₄.extBut _ _ D.i2z.symm (hs₂.extBut _ _ D.i1z.symm hz'))⟩ ((h1₂.extBut hs₄.extBut D.i12).at fun o e => Heap.get?_push_of_some _ e) (h2₄.at fun o e => Heap.get?_push_of_some _ e) ?_ fun c o a1 a2 a3 e => Heap.get?_push_of_some _ (up c o a1 a2 a3 e)
  rw [← hsz]
  exact Heap.get?_push_size _ rfl
theorem zipT_next_end {z TI TO T i1 i2 l1 l2 : Addr} {k1 : Nat} {xs : Array Value} {oT : Obj} {Q : Fin → Shared → Prop} (hh : A.handled = none) (D : ZipApart z TI TO i1 i2 l1 l2)
    (hz : IsZipT s.heap z TI TO T) (hTI : IsPair s.heap TI (.ref i1) (.ref i2)) (hT : s.heap.get? T = some oT)
    (h1 : s.heap.IsListIter i1 l1 k1) (hl1 : s.heap.IsList l1 xs) (hx : xs[k1]? = none)
    (hE : ∀ h' e, (∀ c o, c ≠ z → c ≠ i1 → c ≠ i2 → s.heap.get? c = some o → h'.get? c = some o) → (∃ o, h'.get? e = some o ∧ o.cls = .type "StopIteration") → E (.ref e) { s with heap := h' }) :
    wpAny (model prog w) A (Builtin.«zip.__next__» ⟨[.ref z], []⟩) Q E s := by
  obtain ⟨b, hz⟩ := hz
  show wpAny _ _ (field (.ref z) 2 >>= _) _ _ _
  refine wpAny_bind (wpAny_field hz rfl (x := .bool false) rfl ?_)
  show wpAny _ _ (field (.ref z) 3 >>= _) _ _ _
  refine wpAny_bind (wpAny_field hz rfl (x := .ref TI) rfl ?_)
  refine wpAny_bind (wpAny_seqItems hTI rfl ?_)
  show wpAny _ _ (Builtin.SmallTypes.ownedTupleIsFree (.ref z) >>= _) _ _ _
  refine wpAny_bind (wpAny_mono (owned_busy hz hT) (fun r s' ⟨hr, h', hz', hs', es⟩ => ?_) fun _ _ z => z)
  subst hr; subst es
  show wpAny _ _ (forIn #[Value.ref i1, Value.ref i2] _ _ >>= _) _ _ _
  refine wpAny_bind ?_
  rw [← Array.forIn_toList]
  simp only [List.forIn_cons, List.forIn_nil]
  refine wpAny_bind (wpAny_bind (wpAny_holding ?_))
  show wpAny _ _ (Builtin.SmallTypes.nextOf (.ref i1) >>= _) _ _ _
  exact wpAny_bind (wpAny_nextOf_list_end hh (h1.extBut hs'.extBut D.i1z) (hl1.extBut hs'.extBut D.l1z) hx fun h₂ e hs₂ he => hE h₂ e (fun c o a1 a2 a3 x => hs₂ _ _ a2 (hs'.extBut _ _ a1 x)) he)
theorem zipT_pyNext_item {z TI TO T i1 i2 l1 l2 : Addr} {k1 k2 : Nat} {xs ys : Array Value} {x y : Value} {oT : Obj} {Q : Option Value → Shared → Prop} (D : ZipApart z TI TO i1 i2 l1 l2)
    (hz : IsZipT s.heap z TI TO T) (hTI : IsPair s.heap TI (.ref i1) (.ref i2)) (hT : s.heap.get? T = some oT)
    (h1 : s.heap.IsListIter i1 l1 k1) (h2 : s.heap.IsListIter i2 l2 k2) (hl1 : s.heap.IsList l1 xs) (hl2 : s.heap.IsList l2 ys) (hx : xs[k1]? = some x) (hy : ys[k2]? = some y)
    (hQ : ∀ h', IsZipT h' z TI TO T → h'.IsListIter i1 l1 (k1 + 1) → h'.IsListIter i2 l2 (k2 + 1) → IsPair h' s.heap.objs.size x y →
      (∀ c o, c ≠ z → c ≠ i1 → c ≠ i2 → s.heap.get? c = some o → h'.get? c = some o) → Q (some (.ref s.heap.objs.size)) { s with heap := h' }) :
    wpAny (model prog w) A (pyNext (.ref z)) Q E s := by
  have hTy : s.TypeIs (.ref z) "zip" := let ⟨_, h⟩ := hz; ⟨_, h, rfl⟩
  unfold pyNext
  exact wpAny_bind (wpAny_attempt (wpAny_callSpecial?_slot (name := Str.ofString "__next__") hTy F.slot_zip_next
    (wpAny_call_entry F.slot_zip_next hTy F.entry_zip_next
      (zipT_next_item D hz hTI hT h1 h2 hl1 hl2 hx hy fun h' a1 a2 a3 a4 a5 => wpAny_pure (hQ h' a1 a2 a3 a4 a5)) (F.args_zip_next_1 _))))
theorem zipT_pyNext_end {z TI TO T i1 i2 l1 l2 : Addr} {k1 : Nat} {xs : Array Value} {oT : Obj} {Q : Option Value → Shared → Prop} (hh : A.handled = none) (D : ZipApart z TI TO i1 i2 l1 l2)
    (hz : IsZipT s.heap z TI TO T) (hTI : IsPair s.heap TI (.ref i1) (.ref i2)) (hT : s.heap.get? T = some oT)
    (h1 : s.heap.IsListIter i1 l1 k1) (hl1 : s.heap.IsList l1 xs) (hx : xs[k1]? = none)
    (hQ : ∀ h', (∀ c o, c ≠ z → c ≠ i1 → c ≠ i2 → s.heap.get? c = some o → h'.get? c = some o) → Q none { s with heap := h' }) : wpAny (model prog w) A (pyNext (.ref z)) Q E s := by
  have hTy : s.TypeIs (.ref z) "zip" := let ⟨_, h⟩ := hz; ⟨_, h, rfl⟩
  unfold pyNext
  refine wpAny_bind (wpAny_attempt (wpAny_callSpecial?_slot (name := Str.ofString "__next__") hTy F.slot_zip_next
    (wpAny_call_entry F.slot_zip_next hTy F.entry_zip_next (zipT_next_end hh D hz hTI hT h1 hl1 hx fun h' e hk he => ?_) (F.args_zip_next_1 _))))
  obtain ⟨o, ho, hc⟩ := he
  refine wpAny_bind (wpAny_isInstance (T := "StopIteration") (b := true) ⟨o, ho, hc⟩ isSubtype_stop ?_)
  exact wpAny_pure (hQ _ hk)
end
theorem nLZ : Value.type "list" ≠ Value.type "zip" := by decide
theorem nLI : Value.type "list" ≠ Value.type "list_iterator" := by decide
theorem nTL : Value.type "tuple" ≠ Value.type "list" := by decide
theorem nTZ : Value.type "tuple" ≠ Value.type "zip" := by decide
theorem nTI : Value.type "tuple" ≠ Value.type "list_iterator" := by decide
/-- a list that takes what a zip gives -/
structure ZEnv where
  z : Addr
  TI : Addr
  TO : Addr
  i1 : Addr
  i2 : Addr
  l1 : Addr
  l2 : Addr
  S : Addr
  xs : Array Value
  ys : Array Value
  h0 : Heap
  D : ZipApart z TI TO i1 i2 l1 l2
  fz : h0.objs.size ≤ z
  fTI : h0.objs.size ≤ TI
  fTO : h0.objs.size ≤ TO
  f1 : h0.objs.size ≤ i1
  f2 : h0.objs.size ≤ i2
  fS : h0.objs.size ≤ S
  nST : S ≠ TO
  hl1 : h0.IsList l1 xs
  hl2 : h0.IsList l2 ys
  hn : xs.size = ys.size
  hs : xs.size ≤ sizeLine
structure ZSt (Z : ZEnv) (h : Heap) (i : Nat) (acc : Array Value) (c : Nat) : Prop where
  tI : IsPair h Z.TI (Value.ref Z.i1) (Value.ref Z.i2)
  i1 : h.IsListIter Z.i1 Z.l1 i
  i2 : h.IsListIter Z.i2 Z.l2 i
  li : h.get? Z.S = some { cls := .type "list", dict := none, data := .seq acc c, slots := #[] }
  sz : acc.size = i
  pr : ∀ j : Nat, j < i → ∃ (t : Addr) (x y : Value), acc[j]? = some (.ref t) ∧ Z.xs[j]? = some x ∧ Z.ys[j]? = some y ∧ IsPair h t x y ∧ Z.h0.objs.size ≤ t
  nd : ∀ (j k : Nat) (t : Addr), acc[j]? = some (.ref t) → acc[k]? = some (.ref t) → j = k
  kp : ∀ b o, Z.h0.get? b = some o → h.get? b = some o
section
variable {prog : Program} {w : World} {A : Around} {E : Value → Shared → Prop} {R : Result → Shared → Prop} {Z : ZEnv}
theorem ZSt.l1 {h : Heap} {i : Nat} {acc : Array Value} {c : Nat} (st : ZSt Z h i acc c) : h.IsList Z.l1 Z.xs := Z.hl1.at fun o e => st.kp _ _ e
theorem ZSt.l2 {h : Heap} {i : Nat} {acc : Array Value} {c : Nat} (st : ZSt Z h i acc c) : h.IsList Z.l2 Z.ys := Z.hl2.at fun o e => st.kp _ _ e
/-- one pair more -/
theorem ZSt.next {h h' : Heap} {i c : Nat} {acc : Array Value} {x y : Value} {oz : Obj} (st : ZSt Z h i acc c) (hz : h.get? Z.z = some oz) (cz : oz.cls = .type "zip")
    (j1 : h'.IsListIter Z.i1 Z.l1 (i + 1)) (j2 : h'.IsListIter Z.i2 Z.l2 (i + 1)) (hp : IsPair h' h.objs.size x y) (hx : Z.xs[i]? = some x) (hy : Z.ys[i]? = some y)
    (kp : ∀ b o, b ≠ Z.z → b ≠ Z.i1 → b ≠ Z.i2 → (b = Z.TO → i ≠ 0) → h.get? b = some o → h'.get? b = some o) : ∃ c', ZSt Z (h'.update Z.S (Obj.mapSeq (·.push (Value.ref h.objs.size)))) (i + 1) (acc.push (Value.ref h.objs.size)) c' ∧
      (∀ b o, b ≠ Z.S → h'.get? b = some o → (h'.update Z.S (Obj.mapSeq (·.push (Value.ref h.objs.size)))).get? b = some o) ∧ h'.get? Z.S = some { cls := .type "list", dict := none, data := .seq acc c, slots := #[] } := by
  have up : ∀ b o, b ≠ Z.S → h'.get? b = some o → (h'.update Z.S (Obj.mapSeq (·.push (Value.ref h.objs.size)))).get? b = some o := fun b o hb e => (Heap.get?_update_other _ _ (Ne.symm hb)).trans e
  obtain ⟨o1, e1, c1, _⟩ := id st.i1
  obtain ⟨o2, e2, c2, _⟩ := id st.i2
  obtain ⟨oj1, ej1, cj1, _⟩ := id j1
  obtain ⟨oj2, ej2, cj2, _⟩ := id j2
  have cls_ne : ∀ {g : Heap} {a b : Addr} {o u : Obj}, g.get? a = some o → g.get? b = some u → o.cls ≠ u.cls → a ≠ b := fun ea eb n z => by subst z; rw [ea] at eb; cases eb; exact n rfl
  have n12 : (Value.type "list_iterator") ≠ Value.type "list" := by decide
  have nSz : Z.S ≠ Z.z := cls_ne st.li hz (by rw [cz]; (first | exact nLZ | exact nLI | exact nTL | exact nTZ | exact nTI | exact nLZ.symm | exact nLI.symm))
  have nS1 : Z.S ≠ Z.i1 := cls_ne st.li e1 (by rw [c1]; (first | exact nLZ | exact nLI | exact nTL | exact nTZ | exact nTI | exact nLZ.symm | exact nLI.symm))
  have nS2 : Z.S ≠ Z.i2 := cls_ne st.li e2 (by rw [c2]; (first | exact nLZ | exact nLI | exact nTL | exact nTZ | exact nTI | exact nLZ.symm | exact nLI.symm))
  have nTIS : Z.TI ≠ Z.S := cls_ne st.tI st.li (by (first | exact nLZ | exact nLI | exact nTL | exact nTZ | exact nTI | exact nLZ.symm | exact nLI.symm))
  have hS := kp Z.S _ nSz nS1 nS2 (fun e => absurd e Z.nST) st.li
  have lt : ∀ {j : Nat} {v : Value}, acc[j]? = some v → j < i := fun e => by rw [← st.sz]; exact (Array.getElem?_eq_some_iff.mp e).1
  have accN : ∀ {j : Nat}, j < i → (acc.push (Value.ref h.objs.size))[j]? = acc[j]? := fun {j} hj => by rw [Array.getElem?_push, st.sz, if_neg (by omega)]
  have accI : (acc.push (Value.ref h.objs.size))[i]? = some (Value.ref h.objs.size) := by rw [Array.getElem?_push, st.sz, if_pos rfl]
  have old : ∀ {j : Nat} {t : Addr}, acc[j]? = some (.ref t) → t < h.objs.size := fun {j t} e => by
    obtain ⟨t', x', y', e1', _, _, hp', _⟩ := st.pr j (lt e)
    rw [e] at e1'
    cases e1'
    exact Heap.lt_size hp'
  refine ⟨_, ⟨up _ _ nTIS (kp _ _ Z.D.TIz Z.D.TIi1 Z.D.TIi2 (fun e => absurd e Z.D.TITO) st.tI), j1.at fun o e => up _ _ nS1.symm e, j2.at fun o e => up _ _ nS2.symm e, Heap.get?_update_self _ hS rfl, by rw [Array.size_push, st.sz], ?_, ?_, ?_⟩, up, hS⟩
  · intro j hj
    by_cases c : j < i
    · obtain ⟨t, x', y', e1', e2', e3', hp', ht⟩ := st.pr j c
      refine ⟨t, x', y', by rw [accN c]; exact e1', e2', e3', up _ _ (cls_ne hp' st.li (by (first | exact nLZ | exact nLI | exact nTL | exact nTZ | exact nTI | exact nLZ.symm | exact nLI.symm))) (kp _ _ (cls_ne hp' hz (by rw [cz]; (first | exact nLZ | exact nLI | exact nTL | exact nTZ | exact nTI | exact nLZ.symm | exact nLI.symm))) (cls_ne hp' e1 (by rw [c1]; (first | exact nLZ | exact nLI | exact nTL | exact nTZ | exact nTI | exact nLZ.symm | exact nLI.symm))) (cls_ne hp' e2 (by rw [c2]; (first | exact nLZ | exact nLI | exact nTL | exact nTZ | exact nTI | exact nLZ.symm | exact nLI.symm))) (fun _ => by omega) hp'), ht⟩
    · have e : j = i := by omega
      subst e
      refine ⟨_, x, y, accI, hx, hy, up _ _ (cls_ne hp hS (by (first | exact nLZ | exact nLI | exact nTL | exact nTZ | exact nTI | exact nLZ.symm | exact nLI.symm))) hp, ?_⟩
      have := Z.fS
      have l := Heap.lt_size st.li
      exact Nat.le_of_lt (Nat.lt_of_le_of_lt this l)
  · intro j k t ej ek
    have hj : j < (acc.push (Value.ref h.objs.size)).size := (Array.getElem?_eq_some_iff.mp ej).1
    have hk : k < (acc.push (Value.ref h.objs.size)).size := (Array.getElem?_eq_some_iff.mp ek).1
    rw [Array.size_push, st.sz] at hj hk
    by_cases cj : j < i <;> by_cases ck : k < i
    · rw [accN cj] at ej; rw [accN ck] at ek; exact st.nd j k t ej ek
    · have : k = i := by omega
      subst this
      rw [accN cj] at ej; rw [accI] at ek; cases ek
      exact absurd (old ej) (Nat.lt_irrefl _)
    · have : j = i := by omega
      subst this
      rw [accN ck] at ek; rw [accI] at ej; cases ej
      exact absurd (old ek) (Nat.lt_irrefl _)
    · omega
  · intro b o e
    have l := Heap.lt_size e
    have ne : ∀ {a : Addr}, Z.h0.objs.size ≤ a → b ≠ a := fun ha z => by subst z; exact absurd (Nat.lt_of_lt_of_le l ha) (Nat.lt_irrefl _)
    exact up _ _ (ne Z.fS) (kp _ _ (ne Z.fz) (ne Z.f1) (ne Z.f2) (fun z => absurd z (ne Z.fTO)) (st.kp _ _ e))
/-- what stands when no more is given: the iterators may be gone -/
structure ZEnd (Z : ZEnv) (h : Heap) (acc : Array Value) (c : Nat) : Prop where
  li : h.get? Z.S = some { cls := .type "list", dict := none, data := .seq acc c, slots := #[] }
  sz : acc.size = Z.xs.size
  pr : ∀ j : Nat, j < Z.xs.size → ∃ (t : Addr) (x y : Value), acc[j]? = some (.ref t) ∧ Z.xs[j]? = some x ∧ Z.ys[j]? = some y ∧ IsPair h t x y ∧ Z.h0.objs.size ≤ t
  nd : ∀ (j k : Nat) (t : Addr), acc[j]? = some (.ref t) → acc[k]? = some (.ref t) → j = k
  kp : ∀ b o, Z.h0.get? b = some o → h.get? b = some o
theorem ZSt.past {h h' : Heap} {c : Nat} {acc : Array Value} {T : Addr} (st : ZSt Z h Z.xs.size acc c) (hz : IsZipT h Z.z Z.TI Z.TO T) (kp : ∀ b o, b ≠ Z.z → b ≠ Z.i1 → b ≠ Z.i2 → h.get? b = some o → h'.get? b = some o) : ZEnd Z h' acc c := by
  obtain ⟨b, hz⟩ := hz
  obtain ⟨o1, e1, c1, _⟩ := id st.i1
  obtain ⟨o2, e2, c2, _⟩ := id st.i2
  have cls_ne : ∀ {g : Heap} {a b : Addr} {o u : Obj}, g.get? a = some o → g.get? b = some u → o.cls ≠ u.cls → a ≠ b := fun ea eb n z => by subst z; rw [ea] at eb; cases eb; exact n rfl
  refine ⟨kp _ _ (cls_ne st.li hz (by (first | exact nLZ | exact nLI | exact nTL | exact nTZ | exact nTI | exact nLZ.symm | exact nLI.symm))) (cls_ne st.li e1 (by rw [c1]; (first | exact nLZ | exact nLI | exact nTL | exact nTZ | exact nTI | exact nLZ.symm | exact nLI.symm))) (cls_ne st.li e2 (by rw [c2]; (first | exact nLZ | exact nLI | exact nTL | exact nTZ | exact nTI | exact nLZ.symm | exact nLI.symm))) st.li, st.sz, fun j hj => ?_, st.nd, fun b o e => ?_⟩
  · obtain ⟨t, x', y', e1', e2', e3', hp', ht⟩ := st.pr j hj
    exact ⟨t, x', y', e1', e2', e3', kp _ _ (cls_ne hp' hz (by (first | exact nLZ | exact nLI | exact nTL | exact nTZ | exact nTI | exact nLZ.symm | exact nLI.symm))) (cls_ne hp' e1 (by rw [c1]; (first | exact nLZ | exact nLI | exact nTL | exact nTZ | exact nTI | exact nLZ.symm | exact nLI.symm))) (cls_ne hp' e2 (by rw [c2]; (first | exact nLZ | exact nLI | exact nTL | exact nTZ | exact nTI | exact nLZ.symm | exact nLI.symm))) hp', ht⟩
  · have l := Heap.lt_size e
    have ne : ∀ {a : Addr}, Z.h0.objs.size ≤ a → b ≠ a := fun ha z => by subst z; exact absurd (Nat.lt_of_lt_of_le l ha) (Nat.lt_irrefl _)
    exact kp _ _ (ne Z.fz) (ne Z.f1) (ne Z.f2) (st.kp _ _ e)
/-- all the rest of the pairs, once one is given -/
theorem extend_zip (hh : A.handled = none) : ∀ (k i : Nat) (s : Shared) (acc : Array Value) (c : Nat) (T : Addr), Z.xs.size - i = k → i ≤ Z.xs.size → ZSt Z s.heap i acc c → IsZipT s.heap Z.z Z.TI Z.TO T → acc[0]? = some (.ref T) →
    (∀ h' acc' c', ZEnd Z h' acc' c' → R (.ok (.ret .none)) { s with heap := h' }) → codeAny (model prog w) A (.builtin "list.extend.loop" ⟨[.ref Z.S, .ref Z.z, .none], []⟩) R s := by
  intro k
  induction k with
  | zero =>
    intro i s acc c T hk hi st hz h0 hR
    have hin : i = Z.xs.size := by omega
    subst hin
    refine codeAny_builtin F.entry_extend_loop ?_
    rw [Around.under_plainId F.plain_extend_loop _]
    show wpAny _ A.in1 (pyNext (.ref Z.z) >>= _) _ _ s
    obtain ⟨t, x', y', e1', e2', _, hp', _⟩ := st.pr 0 (by rw [← st.sz]; exact (Array.getElem?_eq_some_iff.mp h0).1)
    rw [h0] at e1'; cases e1'
    refine wpAny_bind (zipT_pyNext_end hh Z.D hz st.tI hp' st.i1 st.l1 (Array.getElem?_eq_none (Nat.le_refl _)) fun h' kp => wpAny_pure (hR h' acc c (st.past hz kp)))
  | succ k ih =>
    intro i s acc c T hk hi st hz h0 hR
    have hlt : i < Z.xs.size := by omega
    have hlt2 : i < Z.ys.size := by rw [← Z.hn]; exact hlt
    refine codeAny_builtin F.entry_extend_loop ?_
    rw [Around.under_plainId F.plain_extend_loop _]
    show wpAny _ A.in1 (pyNext (.ref Z.z) >>= _) _ _ s
    obtain ⟨t, x', y', e1', e2', _, hp', _⟩ := st.pr 0 (by rw [← st.sz]; exact (Array.getElem?_eq_some_iff.mp h0).1)
    rw [h0] at e1'; cases e1'
    have i0 : i ≠ 0 := fun z => by subst z; have := (Array.getElem?_eq_some_iff.mp h0).1; rw [st.sz] at this; exact absurd this (Nat.lt_irrefl _)
    refine wpAny_bind (zipT_pyNext_item Z.D hz st.tI hp' st.i1 st.i2 st.l1 st.l2 (Array.getElem?_eq_getElem hlt) (Array.getElem?_eq_getElem hlt2) fun h' hz' j1 j2 hp kp => ?_)
    obtain ⟨b, hz0⟩ := hz
    obtain ⟨c', st', up, hS'⟩ := st.next hz0 rfl j1 j2 hp (Array.getElem?_eq_getElem hlt) (Array.getElem?_eq_getElem hlt2) fun b o a1 a2 a3 _ e => kp b o a1 a2 a3 e
    show wpAny _ A.in1 (updateSeq Z.S (·.push (Value.ref s.heap.objs.size)) >>= _) _ _ _
    refine wpAny_bind ?_
    have sz := Z.hs
    refine wpAny_updateSeq hS' rfl (wpAny_pure ⟨plainId_quiet F.plain_extend_loop _, ih (i + 1) _ (acc.push (Value.ref s.heap.objs.size)) _ T (by omega) hlt st' ?_ ?_ fun h'' acc' c'' z => hR h'' acc' c'' z⟩) (by rw [st.sz]; omega) (by show (acc.push (Value.ref s.heap.objs.size)).size ≤ sizeLine + 1; rw [Array.size_push, st.sz]; omega)
    · obtain ⟨b', hz''⟩ := hz'
      exact ⟨b', up _ _ (fun e => by rw [e, hS'] at hz''; injection hz'' with q1; injection q1 with q2; exact absurd q2 nLZ) hz''⟩
    · rw [Array.getElem?_push, st.sz, if_neg (by omega)]
      exact h0
theorem wpAny_extend_zip (hh : A.handled = none) {s : Shared} {c₀ : Nat} (hn : 0 < Z.xs.size) (hz : IsZip s.heap Z.z Z.TI Z.TO .none) (hTO : ∃ a b, IsPair s.heap Z.TO a b) (st : ZSt Z s.heap 0 #[] c₀)
    (hR : ∀ h' acc' c', ZEnd Z h' acc' c' → R (.ok (.ret .none)) { s with heap := h' }) :
    wpAny (model prog w) A.in1 (Builtin.List.listExtendWith (.ref Z.S) (.ref Z.z) .none)
      (fun fin s' => match fin with | .done f => R (.ok f) s' | .again c' => c'.quiet = true ∧ codeAny (model prog w) A c' R s') (fun e s' => R (.error e) s') s := by
  have hT : s.TypeIs (.ref Z.z) "zip" := ⟨_, hz, rfl⟩
  have cls_ne : ∀ {g : Heap} {a b : Addr} {o u : Obj}, g.get? a = some o → g.get? b = some u → o.cls ≠ u.cls → a ≠ b := fun ea eb n z => by subst z; rw [ea] at eb; cases eb; exact n rfl
  have hSz : Z.S ≠ Z.z := cls_ne st.li hz (by (first | exact nLZ | exact nLI | exact nTL | exact nTZ | exact nTI | exact nLZ.symm | exact nLI.symm))
  unfold Builtin.List.listExtendWith
  refine wpAny_bind (wpAny_typeOf hT ?_)
  have h1 : Builtin.List.listSameRef (.ref Z.S) (.ref Z.z) = false := by simp [Builtin.List.listSameRef, hSz]
  have h2 : (Value.type "zip" == Value.type "list") = false := by decide
  have h3 : (Value.type "zip" == Value.type "tuple") = false := by decide
  simp only [h1, h2, h3, Bool.or_false, Bool.false_eq_true, if_false]
  refine wpAny_bind (wpAny_pyIter_zip hz ?_)
  refine wpAny_bind (wpAny_holding ?_)
  unfold Builtin.List.listLengthHint
  refine wpAny_bind (wpAny_specialOf hT F.zip_no_len ?_)
  show wpAny _ A.in1 (specialOf (Value.ref Z.z) (Str.ofString "__length_hint__") >>= _) _ _ _
  refine wpAny_bind (wpAny_specialOf hT F.zip_no_hint ?_)
  refine wpAny_pure ?_
  show wpAny _ A.in1 (rule "list.extend.makes-room" >>= fun _ => Builtin.List.listTouch (.ref Z.S) >>= fun _ =>
    again (.builtin "list.extend.loop" ⟨[.ref Z.S, .ref Z.z, .none], []⟩)) _ _ _
  refine wpAny_bind (wpAny_rule ?_)
  refine wpAny_bind ?_
  show wpAny _ A.in1 (updateSeq Z.S (·.push .none) >>= fun _ => updateSeq Z.S (·.pop)) _ _ _
  refine wpAny_bind (wpAny_updateSeq st.li rfl ?_)
  have hS₂ := Heap.get?_update_self (Obj.mapSeq (·.push Value.none)) st.li rfl
  refine wpAny_updateSeq (hz := by seq_fits) hS₂ rfl ?_
  have hS₃ := Heap.get?_update_self (Obj.mapSeq (·.pop)) hS₂ rfl
  have oth : ∀ b o, b ≠ Z.S → s.heap.get? b = some o → ((s.heap.update Z.S (Obj.mapSeq (·.push Value.none))).update Z.S (Obj.mapSeq (·.pop))).get? b = some o :=
    fun b o hb e => (Heap.get?_update_other _ _ (Ne.symm hb)).trans ((Heap.get?_update_other _ _ (Ne.symm hb)).trans e)
  generalize (s.heap.update Z.S (Obj.mapSeq (·.push Value.none))).update Z.S (Obj.mapSeq (·.pop)) = h3' at hS₃ oth
  obtain ⟨o1, e1, c1, _⟩ := id st.i1
  obtain ⟨o2, e2, c2, _⟩ := id st.i2
  have nS : ∀ {b : Addr} {o : Obj}, Z.h0.get? b = some o → b ≠ Z.S := fun {b o} e z => by subst z; exact absurd (Nat.lt_of_lt_of_le (Heap.lt_size e) Z.fS) (Nat.lt_irrefl _)
  have st3 : ZSt Z h3' 0 #[] _ := ⟨oth _ _ (cls_ne st.tI st.li (by (first | exact nLZ | exact nLI | exact nTL | exact nTZ | exact nTI | exact nLZ.symm | exact nLI.symm))) st.tI, st.i1.at fun o e => oth _ _ (cls_ne e1 st.li (by rw [c1]; (first | exact nLZ | exact nLI | exact nTL | exact nTZ | exact nTI | exact nLZ.symm | exact nLI.symm))) e, st.i2.at fun o e => oth _ _ (cls_ne e2 st.li (by rw [c2]; (first | exact nLZ | exact nLI | exact nTL | exact nTZ | exact nTI | exact nLZ.symm | exact nLI.symm))) e, hS₃, rfl, fun j hj => absurd hj (Nat.not_lt_zero _), fun j k t e => by simp at e,
    fun b o e => oth _ _ (nS e) (st.kp _ _ e)⟩
  have hz3 : IsZip h3' Z.z Z.TI Z.TO .none := oth _ _ hSz.symm hz
  obtain ⟨ta, tb, hTO⟩ := hTO
  have hTO3 : IsPair h3' Z.TO ta tb := oth _ _ Z.nST.symm hTO
  refine wpAny_pure ⟨plainId_quiet F.plain_extend_loop _, codeAny_builtin F.entry_extend_loop ?_⟩
  rw [Around.under_plainId F.plain_extend_loop _]
  show wpAny _ A.in1 (pyNext (.ref Z.z) >>= _) _ _ _
  have hn2 : 0 < Z.ys.size := by rw [← Z.hn]; exact hn
  refine wpAny_bind (wpAny_pyNext_zip_item Z.D hz3 st3.tI hTO3 st3.i1 st3.i2 st3.l1 st3.l2 (Array.getElem?_eq_getElem hn) (Array.getElem?_eq_getElem hn2) fun h' hz' hTO' j1 j2 hp hsz kp => ?_)
  obtain ⟨c', st', up, hS'⟩ := st3.next hz3 rfl j1 j2 hp (Array.getElem?_eq_getElem hn) (Array.getElem?_eq_getElem hn2) fun b o a1 a2 a3 a4 e => kp b o a1 (fun z => a4 z rfl) a2 a3 e
  show wpAny _ A.in1 (updateSeq Z.S (·.push (Value.ref h3'.objs.size)) >>= _) _ _ _
  refine wpAny_bind ?_
  have sz := Z.hs
  refine wpAny_updateSeq hS' rfl (wpAny_pure ⟨plainId_quiet F.plain_extend_loop _, extend_zip hh _ 1 _ _ _ h3'.objs.size rfl hn st' ?_ rfl fun h'' acc' c'' z => hR h'' acc' c'' z⟩) (by show 0 ≤ _; exact Nat.zero_le _) (by show 1 ≤ sizeLine + 1; omega)
  exact ⟨false, up _ _ (cls_ne hz' hS' (by (first | exact nLZ | exact nLI | exact nTL | exact nTZ | exact nTI | exact nLZ.symm | exact nLI.symm))) hz'⟩
theorem call_list_zip (hh : A.handled = none) {s : Shared} {Q : Value → Shared → Prop} (hS : Z.S = s.heap.objs.size) (hn : 0 < Z.xs.size) (hz : IsZip s.heap Z.z Z.TI Z.TO .none) (hTO : ∃ a b, IsPair s.heap Z.TO a b) (hTI : IsPair s.heap Z.TI (.ref Z.i1) (.ref Z.i2))
    (j1 : s.heap.IsListIter Z.i1 Z.l1 0) (j2 : s.heap.IsListIter Z.i2 Z.l2 0) (kp : ∀ b o, Z.h0.get? b = some o → s.heap.get? b = some o)
    (hQ : ∀ h' acc' c', ZEnd Z h' acc' c' → Q (.ref Z.S) { s with heap := h' }) :
    wpAny (model prog w) A (call (.type "list") [.ref Z.z]) Q E s := by
  refine callType_codes (Q₁ := fun obj s₁ => obj = .ref s.heap.objs.size ∧ s₁ = { s with heap := s.heap.push { cls := .type "list", data := .seq #[] } }) F.called_list (F.typeCall_list_1 _) F.entry_list_init
    (code_list_new _ ⟨rfl, rfl⟩) fun obj s₁ h₁ => ?_
  obtain ⟨rfl, rfl⟩ := h₁
  have hS0 : (s.heap.push { cls := .type "list", data := .seq #[] }).get? Z.S = some { cls := .type "list", data := .seq #[] } := by rw [hS]; exact Heap.get?_push_size _ rfl
  have hS1 : (s.heap.push { cls := .type "list", data := .seq #[] }).get? s.heap.objs.size = some { cls := .type "list", data := .seq #[] } := Heap.get?_push_size _ rfl
  have pu : ∀ b o, s.heap.get? b = some o → (s.heap.push { cls := .type "list", data := .seq #[] }).get? b = some o := fun b o e => Heap.get?_push_of_some _ e
  refine ⟨⟨_, hS1, rfl⟩, F.args_list_init_2 _ _, ?_⟩
  rw [← hS]
  show wpAny _ A.in1.in1 (do let old ← Builtin.List.listItems (.ref Z.S); Builtin.List.listUpdate (.ref Z.S) (fun _ => #[]); letGo old.toList.reverse; Builtin.List.listExtendWith (.ref Z.S) (.ref Z.z) .none) _ _ _
  refine wpAny_bind ?_
  unfold Builtin.List.listItems
  refine wpAny_bind (wpAny_seqItems hS0 rfl (wpAny_pure ?_))
  show wpAny _ A.in1.in1 (updateSeq Z.S (fun _ => #[]) >>= fun _ => letGo (#[] : Array Value).toList.reverse >>= fun _ => Builtin.List.listExtendWith (.ref Z.S) (.ref Z.z) .none) _ _ _
  refine wpAny_bind (wpAny_updateSeq hS0 rfl ?_)
  have hS₂ := Heap.get?_update_self (Obj.mapSeq (fun _ => (#[] : Array Value))) hS0 rfl
  have oth : ∀ b o, s.heap.get? b = some o → ((s.heap.push { cls := .type "list", data := .seq #[] }).update Z.S (Obj.mapSeq (fun _ => (#[] : Array Value)))).get? b = some o :=
    fun b o e => (Heap.get?_update_other _ _ (fun z => by subst z; rw [hS] at e; exact absurd (Heap.lt_size e) (Nat.lt_irrefl _))).trans (pu b o e)
  refine wpAny_bind (wpAny_letGo ?_)
  generalize ((s.heap.push { cls := .type "list", data := .seq #[] }).update Z.S (Obj.mapSeq (fun _ => (#[] : Array Value)))) = g at oth hS₂ ⊢
  have st0 : ZSt Z g 0 #[] _ := ⟨oth _ _ hTI, j1.at fun o e => oth _ _ e, j2.at fun o e => oth _ _ e, hS₂, rfl, fun j hj => absurd hj (Nat.not_lt_zero _), fun j k t e => by simp at e, fun b o e => oth _ _ (kp _ _ e)⟩
  refine wpAny_extend_zip (A := A.in1) (R := wants (fun r s₂ => r = Value.none ∧ Q (Value.ref Z.S) s₂) E) (s := { s with heap := g }) hh hn (oth _ _ hz) (let ⟨a, b, e⟩ := hTO; ⟨a, b, oth _ _ e⟩) st0 fun h' acc' c' z => ?_
  exact ⟨rfl, hQ h' acc' c' z⟩
end
end PySem

namespace L2
open PySem PySem.Spec PyProof.Rows
section
variable {X : Cx} {pins : List (Addr × Obj)} {σ : List (Option V)}
theorem isTup_pair {h : Heap} {t : Addr} {x y : Value} (e : h.get? t = some { cls := .type "tuple", data := .seq #[x, y] }) : IsTup h t #[x, y] := ⟨_, e, rfl, _, rfl⟩
/-- the pairs that a list of a zip holds, one after another -/
theorem lay_pairs {H1 : Hp} {s : Shared} (I1 : Inv X pins σ H1 s) {h' : Heap} (kp : ∀ b o, s.heap.get? b = some o → h'.get? b = some o) {xs ys : List V} {us ws : List Value} (rx : Vals xs us) (ry : Vals ys ws) {ts : List Addr}
    (hl : ts.length = xs.length) (hl2 : ts.length = ys.length) (pr : ∀ (j : Nat) (t : Addr) (x y : Value), ts[j]? = some t → us[j]? = some x → ws[j]? = some y → h'.get? t = some { cls := .type "tuple", data := .seq #[x, y] } ∧ s.heap.objs.size ≤ t) (nd : ∀ (j k : Nat) (t : Addr), ts[j]? = some t → ts[k]? = some t → j = k) :
    ∀ n, n ≤ ts.length → ∃ (G : Heap) (H' : Hp), Inv X pins σ H' { s with heap := G } ∧ (∀ b o, G.get? b = some o → h'.get? b = some o) ∧ (∀ b, s.heap.get? b = none → b ∉ ts.take n → G.get? b = none) ∧ Same H1 H' ∧
      (∀ (j : Nat) (t : Addr) (x y : V), j < n → ts[j]? = some t → xs[j]? = some x → ys[j]? = some y → H' t = some (.tup [x, y])) ∧ ∀ b, b ∉ ts.take n → H' b = H1 b := by
  intro n
  induction n with
  | zero => exact fun _ => ⟨s.heap, H1, I1, kp, fun b e _ => e, fun _ _ e => e, fun j _ _ _ h => absurd h (Nat.not_lt_zero _), fun _ _ => rfl⟩
  | succ n ih =>
    intro hn
    obtain ⟨G, H', I2, g1, g2, sm, hp, ho⟩ := ih (Nat.le_of_succ_le hn)
    have et : ts[n]? = some ts[n] := List.getElem?_eq_getElem hn
    generalize ts[n] = t at et
    have hx : n < xs.length := by omega
    have hy : n < ys.length := by omega
    have ex : xs[n]? = some xs[n] := List.getElem?_eq_getElem hx
    have ey : ys[n]? = some ys[n] := List.getElem?_eq_getElem hy
    generalize xs[n] = x at ex
    generalize ys[n] = y at ey
    obtain ⟨u, eu, ru⟩ := rx.get ex
    obtain ⟨v, ev, rv⟩ := ry.get ey
    obtain ⟨p1, p2⟩ := pr n t u v et eu ev
    have hs : s.heap.get? t = none := by
      cases e : s.heap.get? t with
      | none => rfl
      | some o => exact absurd (Nat.lt_of_lt_of_le (Heap.lt_size e) p2) (Nat.lt_irrefl _)
    have nt : t ∉ ts.take n := fun m => by
      obtain ⟨j, hj, e⟩ := List.getElem_of_mem m
      rw [List.length_take] at hj
      rw [List.getElem_take] at e
      have := nd j n t (List.getElem?_eq_some_iff.mpr ⟨by omega, e⟩) et
      omega
    have gt : G.get? t = none := g2 t hs nt
    have ht : H' t = none := by rw [ho t nt]; exact I1.hok.fresh p2
    obtain ⟨G', q1, q2⟩ := restrict h' fun b => (G.get? b).isSome || decide (b = t)
    have k1 : ∀ b o, G.get? b = some o → G'.get? b = some o := fun b o e => by rw [q1 b (by rw [e]; rfl)]; exact g1 b o e
    have k2 : ∀ b o, G'.get? b = some o → h'.get? b = some o := fun b o e => by
      cases c : ((G.get? b).isSome || decide (b = t)) with
      | true => rw [← q1 b c]; exact e
      | false => rw [q2 b c] at e; cases e
    have et' : G'.get? t = some { cls := .type "tuple", data := .seq #[u, v] } := by rw [q1 t (by simp)]; exact p1
    have I3 : Inv X pins σ (upd H' t (.tup [x, y])) { s with heap := G' } := I2.laidN (t' := s.toks) k1 gt ht (show ObjOk X.prog X.w _ _ _ (.tup [x, y]) from ⟨by show 2 ≤ sizeLine; rw [sizeLine_eq]; omega, [u, v], .cons ru (.cons rv .nil), isTup_pair et'⟩)
    have tk : ts.take (n + 1) = ts.take n ++ [t] := by rw [List.take_add_one, et]; rfl
    refine ⟨G', _, I3, k2, fun b e m => ?_, fun b o e => ?_, fun j t' x' y' hj e1 e2 e3 => ?_, fun b m => ?_⟩
    · rw [tk, List.mem_append, List.mem_singleton] at m
      have c : ((G.get? b).isSome || decide (b = t)) = false := by rw [g2 b e fun z => m (.inl z)]; simp; exact fun z => m (.inr z)
      exact q2 b c
    · rw [upd_ne (fun z => by subst z; rw [I1.hok.fresh p2] at e; cases e)]
      exact sm b o e
    · by_cases c : j = n
      · subst c
        rw [et] at e1; cases e1
        rw [ex] at e2; cases e2
        rw [ey] at e3; cases e3
        exact upd_same
      · rw [upd_ne (fun z => by
          subst z
          exact c (nd j n _ e1 et))]
        exact hp j t' x' y' (by omega) e1 e2 e3
    · rw [tk, List.mem_append, List.mem_singleton] at m
      rw [upd_ne (fun z => m (.inr z))]
      exact ho b fun z => m (.inl z)
def tLstZip (K : PySem.W.Frag) (ta : TA) : TE := fun σ H Q => ta σ H fun vs H1 => ∃ a b xs ys, vs = [.ref a, .ref b] ∧ SqL K H1 a xs ∧ SqL K H1 b ys ∧ xs.length = ys.length ∧ 0 < xs.length ∧
  ∀ (l : Addr) (ts : List Addr) (H' : Hp), H1 l = none → (∀ t, t ∈ ts → H1 t = none) → Same H1 H' → H' l = some (.lst (ts.map V.ref)) → ts.length = xs.length → (∀ (j : Nat) (t : Addr) (x y : V), ts[j]? = some t → xs[j]? = some x → ys[j]? = some y → H' t = some (.tup [x, y])) → Q (.ref l) H'
theorem vals_adr : ∀ {us : List Value}, (∀ u, u ∈ us → ∃ t, u = Value.ref t) → ∃ ts : List Addr, Vals (ts.map V.ref) us ∧ us = ts.map Value.ref
  | [], _ => ⟨[], .nil, rfl⟩
  | u :: us, h => by
    obtain ⟨t, rfl⟩ := h u List.mem_cons_self
    obtain ⟨ts, r, e⟩ := vals_adr fun v m => h v (List.mem_cons_of_mem _ m)
    exact ⟨t :: ts, .cons rfl r, by rw [e]; rfl⟩
theorem pe_listZip {e e2 : Expr} {ta : TA} {p p2 pos pos2 : Pos} (hc : X.calm = true) (hgl : Gl X "list") (hml : X.mg "list" = none) (hg : Gl X "zip") (hm : X.mg "zip" = none) (ha : PA X [e, e2] ta)
    (hs : starEach [e, e2] X.env = (false, eval e X.env) :: starEach [e2] X.env := by rfl) (hpl : (backTo pos2 (starEach [e2] X.env)).any (·.1) = false := by rfl)
    (na : starEach [.Call (.Name "zip" p2) [e, e2] [] pos2] X.env = (false, eval (.Call (.Name "zip" p2) [e, e2] [] pos2) X.env) :: starEach [] X.env := by rfl) :
    PE X (.Call (.Name "list" p) [.Call (.Name "zip" p2) [e, e2] [] pos2] [] pos) (tLstZip X.K ta) := by
  refine ⟨fun pins s σ H Q I h => ?_⟩
  refine Call_ (ld_blt I hgl hml boot_list (PyProof.Rows.callWith_type1 (args_cons ?_ na) na))
  refine Call_ (ld_blt I hg hm PyProof.Rows.boot_zip (PyProof.Rows.callWith_type1 (thn (ha.run pos2 pins s σ H _ I h) fun us s1 ⟨vs, H1, I1, r1, q1⟩ => ?_) hs hpl))
  obtain ⟨a, b, xs, ys, ex, h1, h2, hl, h0, q⟩ := q1
  subst ex
  cases r1 with
  | cons r rr =>
    cases rr with
    | cons r' rr =>
      cases rr
      cases r
      cases r'
      obtain ⟨its, rv, p1, z1⟩ := I1.list h1
      obtain ⟨its2, rv2, p2', z2⟩ := I1.list h2
      refine call_zip_2 p1.isList p2'.isList fun h' hz hTI hTO j1 j2 hsz kp => ?_
      refine args_nil ?_
      have D := PySem.W.ktu_apart s1.heap.objs.size a b p1.lt p2'.lt
      have li := rv.length
      have li2 := rv2.length
      have le : ∀ k : Nat, s1.heap.objs.size ≤ s1.heap.objs.size + k := fun k => Nat.le_add_right _ _
      have nST : s1.heap.objs.size + 5 ≠ s1.heap.objs.size + 3 := fun z => absurd (Nat.add_left_cancel z) (by decide)
      obtain ⟨Z, hZ⟩ : ∃ Z : ZEnv, Z = ⟨s1.heap.objs.size + 4, s1.heap.objs.size + 2, s1.heap.objs.size + 3, s1.heap.objs.size, s1.heap.objs.size + 1, a, b, s1.heap.objs.size + 5, its.toArray, its2.toArray, s1.heap, D, le 4, le 2, le 3, Nat.le_refl _, le 1, le 5, nST, p1.isList, p2'.isList, by simp; omega, by simp; omega⟩ := ⟨_, rfl⟩
      have eS : Z.S = (Shared.mk h' s1.gens s1.drawn s1.toks s1.os).heap.objs.size := by rw [hZ]; exact hsz.symm
      have ez : Z.z = s1.heap.objs.size + 4 := by rw [hZ]
      rw [← ez]
      refine call_list_zip (A := X.A) (Z := Z) (I1.ok.hd hc) eS ?_ ?_ ?_ ?_ ?_ ?_ ?_ fun h2 acc c z => ?_
      · rw [hZ]; show 0 < its.toArray.size; simp; omega
      · rw [hZ]; exact hz
      · rw [hZ]; exact ⟨_, _, hTO⟩
      · rw [hZ]; exact hTI
      · rw [hZ]; exact j1
      · rw [hZ]; exact j2
      · rw [hZ]; exact kp
      have h0e : Z.h0 = s1.heap := by rw [hZ]
      have exs : Z.xs = its.toArray := by rw [hZ]
      have eys : Z.ys = its2.toArray := by rw [hZ]
      have zs : Z.S = s1.heap.objs.size + 5 := by rw [hZ]
      have zsz : acc.toList.length = its.length := by rw [Array.length_toList, z.sz, exs]; simp
      have zkp := z.kp
      rw [h0e] at zkp
      obtain ⟨ts, rt, et⟩ := vals_adr (us := acc.toList) fun u m => by
        obtain ⟨j, hj, e⟩ := List.getElem_of_mem m
        obtain ⟨t, _, _, e1, _⟩ := z.pr j (by rw [exs]; simp; omega)
        refine ⟨t, ?_⟩
        rw [← Array.getElem?_toList, List.getElem?_eq_getElem hj, e] at e1
        exact Option.some.inj e1
      have tl : ts.length = its.length := by rw [← zsz, et, List.length_map]
      have gt : ∀ (j : Nat) (t : Addr), ts[j]? = some t → acc[j]? = some (Value.ref t) := fun j t e => by rw [← Array.getElem?_toList, et, List.getElem?_map, e]; rfl
      have pr : ∀ (j : Nat) (t : Addr) (x y : Value), ts[j]? = some t → its[j]? = some x → its2[j]? = some y → h2.get? t = some { cls := .type "tuple", data := .seq #[x, y] } ∧ s1.heap.objs.size ≤ t := fun j t x y e1 e2 e3 => by
        obtain ⟨t', x', y', f1, f2, f3, f4, f5⟩ := z.pr j (by rw [exs]; have := (List.getElem?_eq_some_iff.mp e2).1; simpa using this)
        rw [gt j t e1] at f1; cases f1
        rw [exs] at f2; rw [eys] at f3
        rw [List.getElem?_toArray, e2] at f2; cases f2
        rw [List.getElem?_toArray, e3] at f3; cases f3
        rw [h0e] at f5
        exact ⟨f4, f5⟩
      obtain ⟨G, H', I2, g1, g2, sm, hp, ho⟩ := lay_pairs I1 zkp rv rv2 (ts := ts) (by omega) (by omega) pr (fun j k t e1 e2 => z.nd j k t (gt j t e1) (gt k t e2)) ts.length (Nat.le_refl _)
      rw [List.take_length] at g2 ho
      have fS : s1.heap.objs.size ≤ Z.S := by rw [zs]; exact le 5
      have hs0 : s1.heap.get? Z.S = none := by
        cases e : s1.heap.get? Z.S with
        | none => rfl
        | some o => exact absurd (Nat.lt_of_lt_of_le (Heap.lt_size e) fS) (Nat.lt_irrefl _)
      have nS : Z.S ∉ ts := fun m => by
        obtain ⟨j, hj, e⟩ := List.getElem_of_mem m
        obtain ⟨t', x', y', f1, f2, f3, f4, f5⟩ := z.pr j (by rw [exs]; simp; omega)
        rw [gt j _ (List.getElem?_eq_some_iff.mpr ⟨hj, e⟩)] at f1; cases f1
        have li' := z.li
        unfold IsPair at f4
        rw [li'] at f4
        injection f4 with q1
        injection q1 with q2
        exact absurd q2 nTL.symm
      have gS : G.get? Z.S = none := g2 _ hs0 nS
      have hS : H' Z.S = none := by rw [ho _ nS]; exact I1.hok.fresh fS
      have I3 : Inv X pins σ (upd H' Z.S (.lst (ts.map V.ref))) { s1 with heap := h2 } := I2.laidN (t' := s1.toks) g1 gS hS (show ObjOk X.prog X.w _ _ _ (.lst (ts.map V.ref)) from ⟨by rw [List.length_map]; omega, acc.toList, c, rt, by rw [Array.toArray_toList]; exact z.li⟩)
      refine ⟨.ref Z.S, _, I3, rfl, q Z.S ts _ (I1.hok.fresh fS) (fun t m => ?_) (fun b o e => ?_) upd_same (by omega) fun j t x y e1 e2 e3 => ?_⟩
      · obtain ⟨j, hj, e⟩ := List.getElem_of_mem m
        have hx : j < its.length := by omega
        have hy : j < its2.length := by omega
        exact I1.hok.fresh (pr j t _ _ (List.getElem?_eq_some_iff.mpr ⟨hj, e⟩) (List.getElem?_eq_getElem hx) (List.getElem?_eq_getElem hy)).2
      · rw [upd_ne (fun w => by subst w; rw [I1.hok.fresh fS] at e; cases e)]
        exact sm b o e
      · have ne : t ≠ Z.S := fun w => nS (by rw [← w]; exact List.mem_of_getElem? e1)
        rw [upd_ne ne]
        exact hp j t x y (List.getElem?_eq_some_iff.mp e1).1 e1 e2 e3
end
end L2
namespace A
open PySem L2
section
variable {G : Cfg}
theorem VDs.ofGet {H : Hp} {T : Mt G} : ∀ {ds : List (D G)} {xs : List V}, ds.length = xs.length → (∀ (i : Nat) (d : D G) (x : V), ds[i]? = some d → xs[i]? = some x → VD H T d x) → VDs H T ds xs
  | [], [], _, _ => rfl
  | [], _ :: _, h, _ => by cases h
  | _ :: _, [], h, _ => by cases h
  | d :: ds, x :: xs, h, k => ⟨x, xs, rfl, k 0 d x rfl rfl, VDs.ofGet (Nat.succ.inj h) fun i d x e1 e2 => k (i + 1) d x e1 e2⟩
def aListZip (a : AA G) : AE G := fun S P => a S fun xs cs => ∃ x y ds es, xs = [x, y] ∧ seqL x cs = some ds ∧ seqL y cs = some es ∧ ds.length = es.length ∧ 0 < ds.length ∧ P (.d (.lst (List.zipWith (fun d e => .tup [d, e]) ds es))) cs
theorem r_listZip {t : TA} {a : AA G} (ha : Ra t a) : Re (tLstZip G.K t) (aListZip a) := fun Φ S σ Ω P Q R h k =>
  ha Φ S σ Ω _ _ R h fun xs cs vs Ω1 ⟨x, y, ds, es, ex, e1, e2, hl, h0, q⟩ w1 R1 v1 => by
    subst ex
    obtain ⟨v, r, rfl, hv, u, r2, rfl, hu, rfl⟩ := v1
    obtain ⟨a, xs, rfl, ha, va⟩ := R1.seqL hv e1
    obtain ⟨b, ys, rfl, hb, vb⟩ := R1.seqL hu e2
    have la := va.length
    have lb := vb.length
    refine ⟨a, b, xs, ys, rfl, SqL.of ha, SqL.of hb, by omega, by omega, fun l ts H' hl' hts sm el tl tp => ?_⟩
    refine k _ cs (.ref l) ⟨H', Ω1.T, Ω1.ads⟩ q (w1.trans (wle_same sm)) (R1.same sm) ⟨l, ts.map V.ref, rfl, ⟨el, R1.good.tn hl'⟩, VDs.ofGet (by simp; omega) fun i d x f1 f2 => ?_⟩
    rw [List.getElem?_zipWith] at f1
    rw [List.getElem?_map] at f2
    cases c1 : ds[i]? with
    | none => rw [c1] at f1; cases f1
    | some d1 =>
      cases c2 : es[i]? with
      | none => rw [c1, c2] at f1; cases f1
      | some d2 =>
        rw [c1, c2] at f1
        cases f1
        cases c3 : ts[i]? with
        | none => rw [c3] at f2; cases f2
        | some t =>
          rw [c3] at f2
          cases f2
          obtain ⟨x1, g1, g2⟩ := va.get c1
          obtain ⟨x2, g3, g4⟩ := vb.get c2
          have le := le_same (T := Ω1.T) sm
          exact ⟨t, [x1, x2], rfl, .inl ⟨.inl (tp i t x1 x2 c3 g1 g3), R1.good.tn (hts t (List.mem_of_getElem? c3))⟩, x1, _, rfl, VD.le le g2, x2, _, rfl, VD.le le g4, rfl⟩
end
end A

namespace A
open PySem L2
section
variable {G : Cfg}
/-! ### data as the library's data -/
mutual
def pd : D G → Option PyData
  | .non => some .none
  | .bl b => some (.bool b)
  | .int i => some (.int i)
  | .str s => some (.str s)
  | .tup ds => match pds ds with
    | some ps => some (.tuple ps)
    | none => none
  | .lst ds => match pds ds with
    | some ps => some (.list ps)
    | none => none
  | .ob _ => none
def pds : List (D G) → Option (List PyData)
  | [] => some []
  | d :: ds => match pd d, pds ds with
    | some p, some ps => some (p :: ps)
    | _, _ => none
end
mutual
theorem VD.dp {H : Hp} {T : Mt G} : ∀ {d : D G} {v : V} {p : PyData}, VD H T d v → pd d = some p → Dp G.K H v p
  | .non, v, p, h, e => by
    cases (show v = .non from h)
    unfold pd at e; cases e; exact .non
  | .bl b, v, p, h, e => by
    cases (show v = .bl b from h)
    unfold pd at e; cases e; exact .bl b
  | .int i, v, p, h, e => by
    cases (show v = .int i from h)
    unfold pd at e; cases e; exact .int i
  | .str s, v, p, h, e => by
    cases (show v = .str s from h)
    unfold pd at e; cases e; exact .str s
  | .tup ds, v, p, h, e => by
    obtain ⟨a, xs, rfl, r, k⟩ := h
    unfold pd at e
    cases c : pds ds with
    | none => rw [c] at e; cases e
    | some ps =>
      rw [c] at e; cases e
      exact .tup (r.imp (fun r => r.1) id) (VDs.dp k c)
  | .lst ds, v, p, h, e => by
    obtain ⟨a, xs, rfl, r, k⟩ := h
    unfold pd at e
    cases c : pds ds with
    | none => rw [c] at e; cases e
    | some ps =>
      rw [c] at e; cases e
      exact .lst (SqL.of r.1) (VDs.dp k c)
  | .ob φ, v, p, h, e => by unfold pd at e; cases e
theorem VDs.dp {H : Hp} {T : Mt G} : ∀ {ds : List (D G)} {xs : List V} {ps : List PyData}, VDs H T ds xs → pds ds = some ps → DpAll G.K H xs ps
  | [], xs, ps, h, e => by
    cases (show xs = [] from h)
    unfold pds at e; cases e; exact .nil
  | d :: ds, xs, ps, ⟨x, r, ex, k, j⟩, e => by
    subst ex
    unfold pds at e
    cases c1 : pd d with
    | none => rw [c1] at e; cases e
    | some p =>
      cases c2 : pds ds with
      | none => rw [c1, c2] at e; cases e
      | some qs =>
        rw [c1, c2] at e; cases e
        exact .cons (VD.dp k c1) (VDs.dp j c2)
end
theorem pds_map {α : Type} {f : α → D G} {g : α → PyData} (h : ∀ x, pd (f x) = some (g x)) : ∀ xs : List α, pds (xs.map f) = some (xs.map g)
  | [] => rfl
  | x :: xs => by
    show pds (f x :: xs.map f) = _
    unfold pds
    rw [h x, pds_map h xs]
    rfl
theorem pd_lst {ds : List (D G)} {ps : List PyData} (h : pds ds = some ps) : pd (.lst ds) = some (.list ps) := by unfold pd; rw [h]
theorem pd_tup {ds : List (D G)} {ps : List PyData} (h : pds ds = some ps) : pd (.tup ds) = some (.tuple ps) := by unfold pd; rw [h]
mutual
theorem eqv_self : ∀ {d : D G} {p : PyData}, pd d = some p → p.eqv p = true
  | .non, p, e => by unfold pd at e; cases e; rfl
  | .bl b, p, e => by unfold pd at e; cases e; cases b <;> rfl
  | .int i, p, e => by unfold pd at e; cases e; show (i == i) = true; simp
  | .str s, p, e => by unfold pd at e; cases e; show (s == s) = true; simp
  | .tup ds, p, e => by
    unfold pd at e
    cases c : pds ds with
    | none => rw [c] at e; cases e
    | some ps =>
      rw [c] at e; cases e
      exact eqvs_self c
  | .lst ds, p, e => by
    unfold pd at e
    cases c : pds ds with
    | none => rw [c] at e; cases e
    | some ps =>
      rw [c] at e; cases e
      exact eqvs_self c
  | .ob φ, p, e => by unfold pd at e; cases e
theorem eqvs_self : ∀ {ds : List (D G)} {ps : List PyData}, pds ds = some ps → PyData.eqvAll ps ps = true
  | [], ps, e => by unfold pds at e; cases e; rfl
  | d :: ds, ps, e => by
    unfold pds at e
    cases c1 : pd d with
    | none => rw [c1] at e; cases e
    | some p =>
      cases c2 : pds ds with
      | none => rw [c1, c2] at e; cases e
      | some qs =>
        rw [c1, c2] at e; cases e
        show (p.eqv p && PyData.eqvAll qs qs) = true
        rw [eqv_self c1, eqvs_self c2]
        rfl
end
/-- a value as data, also a list of the def's own -/
def asD (x : SV G) (cs : Cs G) : Option (D G) := match x with
  | .d d => some d
  | .cel j => match cs[j]? with
    | some (.lst ds) => some (.lst ds)
    | _ => none
theorem Rel.asDp {Φ : Fr G} {S : AS G} {σ : L2.St} {Ω : Wd G} (R : Rel Φ S σ Ω) {x : SV G} {v : V} {d : D G} {p : PyData} (h : VS Ω x v) (e : asD x S.cs = some d) (c : pd d = some p) : Dp G.K Ω.H v p := by
  cases x with
  | d d' => cases e; exact VD.dp h c
  | cel j =>
    unfold asD at e
    dsimp only at e
    cases hc : S.cs[j]? with
    | none => rw [hc] at e; cases e
    | some u =>
      rw [hc] at e
      cases u with
      | lst ds =>
        cases e
        obtain ⟨a, xs, rfl, h1, h2⟩ := R.seqL (x := .cel j) (ds := ds) h (by show (match S.cs[j]? with | some (Cell.lst ds) => some ds | _ => none) = some ds; rw [hc])
        unfold pd at c
        cases c1 : pds ds with
        | none => rw [c1] at c; cases c
        | some ps =>
          rw [c1] at c; cases c
          exact .lst (SqL.of h1) (VDs.dp h2 c1)
      | _ => cases e
def oEqD (neg : Bool) : AO G := fun x y cs P => ∃ d e p q, asD x cs = some d ∧ asD y cs = some e ∧ pd d = some p ∧ pd e = some q ∧ SeqAt.shaped p = true ∧ SeqAt.shaped q = true ∧ P (.d (.bl (if neg then !p.eqv q else p.eqv q))) cs
theorem o_eqD : Ro (G := G) (rEqD G.K) (oEqD false) := fun Φ S σ Ω x y v u P Q R hx hy ⟨d, e, p, q, e1, e2, e3, e4, s1, s2, h⟩ k =>
  ⟨p, q, R.asDp hx e1 e3, R.asDp hy e2 e4, s1, s2, k _ _ _ Ω h (Wle.refl _) R rfl⟩
theorem o_neD : Ro (G := G) (rNeD G.K) (oEqD true) := fun Φ S σ Ω x y v u P Q R hx hy ⟨d, e, p, q, e1, e2, e3, e4, s1, s2, h⟩ k =>
  ⟨p, q, R.asDp hx e1 e3, R.asDp hy e2 e4, s1, s2, k _ _ _ Ω h (Wle.refl _) R rfl⟩
/-- two that are the same -/
def oSame (neg : Bool) : AO G := fun x y cs P => ∃ d p, asD x cs = some d ∧ asD y cs = some d ∧ pd d = some p ∧ SeqAt.shaped p = true ∧ P (.d (.bl (!neg == true))) cs
theorem o_same {P : SV G → Cs G → Prop} {x y : SV G} {cs : Cs G} {neg : Bool} (h : oSame neg x y cs P) : oEqD neg x y cs P := by
  obtain ⟨d, p, e1, e2, e3, s, q⟩ := h
  refine ⟨d, d, p, p, e1, e2, e3, e3, s, s, ?_⟩
  rw [eqv_self e3]
  cases neg <;> exact q
theorem cLoop_mapT {α : Type} {ρ : List (Option (SV G))} {g : AG G} {te : AE G} {P : List (D G) → Cs G → Prop} {cs : Cs G} {h r : α → D G} : ∀ {xs : List α} {acc : List (D G)}, (∀ x, x ∈ xs → ∀ k : D G → Cs G → Prop, k (r x) cs → g (.d (h x)) ⟨ρ, cs⟩ fun S1 => te ⟨S1.ρ, S1.cs⟩ fun y cs3 => ∃ e, y = .d e ∧ k e cs3) → P (acc ++ xs.map r) cs → cLoop ρ g tYesA te P (xs.map h) acc cs
  | [], acc, _, p => by
    show P acc cs
    simpa using p
  | x :: xs, acc, hx, p => hx x List.mem_cons_self (fun e cs3 => cLoop ρ g tYesA te P (xs.map h) (acc ++ [e]) cs3) (cLoop_mapT (acc := acc ++ [r x]) (fun d m => hx d (List.mem_cons_of_mem _ m)) (by simpa using p))
theorem zip_maps {α : Type} {f g : α → D G} : ∀ xs : List α, List.zipWith (fun d e => D.tup [d, e]) (xs.map f) (xs.map g) = xs.map fun x => .tup [f x, g x]
  | [] => rfl
  | x :: xs => by
    show _ :: List.zipWith _ (xs.map f) (xs.map g) = _
    rw [zip_maps xs]
    rfl
/-! ### lists -/
def aRevL (a : AE G) : AE G := fun S P => a S fun x cs => ∃ ds, seqL x cs = some ds ∧ P (.d (.lst ds.reverse)) cs
theorem r_rev {t : TE} {a : AE G} (ha : Re t a) : Re (tRevL G.K t) (aRevL a) := fun Φ S σ Ω P Q R h k =>
  ha Φ S σ Ω _ _ R h fun x cs v Ω1 ⟨ds, e, q⟩ w1 R1 v1 => by
    obtain ⟨a, xs, rfl, hx, vs⟩ := R1.seqL v1 e
    refine ⟨a, xs, rfl, SqL.of hx, fun p hp => ?_⟩
    obtain ⟨w, R2, v3⟩ := R1.newLst vs.rev hp
    exact k _ _ _ _ q (w1.trans w) R2 v3
theorem VDs.rep {H : Hp} {T : Mt G} {ds : List (D G)} {xs : List V} (h : VDs H T ds xs) : ∀ n, VDs H T (List.replicate n ds).flatten (List.replicate n xs).flatten
  | 0 => rfl
  | n + 1 => by
    rw [List.replicate_succ, List.replicate_succ, List.flatten_cons, List.flatten_cons]
    exact h.app (h.rep n)
def oRep : AO G := fun x y cs P => ∃ ds k, seqL x cs = some ds ∧ y = .d (.int k) ∧ -(2 ^ 63) ≤ k ∧ k < 2 ^ 63 ∧ ds.length * k.toNat ≤ sizeLine ∧ P (.d (.lst (List.replicate k.toNat ds).flatten)) cs
theorem o_rep : Ro (G := G) rRep oRep := fun Φ S σ Ω x y v u P Q R hx hy ⟨ds, i, e, ey, h1, h2, hz, q⟩ k => by
  subst ey
  cases (show u = .int i from hy)
  obtain ⟨a, xs, rfl, ha, vs⟩ := R.seqL hx e
  refine ⟨a, i, xs, rfl, rfl, ha, h1, h2, by rw [vs.length]; exact hz, fun p hp => ?_⟩
  obtain ⟨w, R2, v3⟩ := R.newLst (vs.rep i.toNat) hp
  exact k _ _ _ _ q w R2 v3
/-! ### is, is not, between truth values; repr of an int; a class -/
def oIsB (neg : Bool) : AO G := fun x y cs P => ∃ a b, x = .d (.bl a) ∧ y = .d (.bl b) ∧ P (.d (.bl (if neg then !decide (a = b) else decide (a = b)))) cs
theorem o_isB : Ro (G := G) (fun x y H Q => ∃ a b, x = .bl a ∧ y = .bl b ∧ Q (.bl (decide (a = b))) H) (oIsB false) := fun Φ S σ Ω x y v u P Q R hx hy ⟨a, b, e1, e2, q⟩ k => by
  subst e1; subst e2
  cases (show v = .bl a from hx)
  cases (show u = .bl b from hy)
  exact ⟨a, b, rfl, rfl, k _ _ _ Ω q (Wle.refl _) R rfl⟩
theorem o_isnB : Ro (G := G) (fun x y H Q => ∃ a b, x = .bl a ∧ y = .bl b ∧ Q (.bl (!decide (a = b))) H) (oIsB true) := fun Φ S σ Ω x y v u P Q R hx hy ⟨a, b, e1, e2, q⟩ k => by
  subst e1; subst e2
  cases (show v = .bl a from hx)
  cases (show u = .bl b from hy)
  exact ⟨a, b, rfl, rfl, k _ _ _ Ω q (Wle.refl _) R rfl⟩
def oReprI : AF G := fun xs cs P => ∃ i, xs = [.d (.int i)] ∧ i.natAbs.log2 < 1920 ∧ P (.d (.str (toString i))) cs
theorem o_reprI : Rc (G := G) (fun xs H Q => ∃ i, xs = [.int i] ∧ i.natAbs.log2 < 1920 ∧ Q (.str (toString i)) H) oReprI := fun Φ S σ Ω xs vs P Q R h ⟨i, e, hz, q⟩ k => by
  subst e
  obtain ⟨v, r, rfl, h1, rfl⟩ := h
  cases (show v = .int i from h1)
  exact ⟨i, rfl, hz, k _ _ _ Ω q (Wle.refl _) R rfl⟩
def clsD (C : Addr) : D G := .ob fun _ _ v => v = .ref C
theorem r_cls {C : Addr} : Re (G := G) (tC (.ref C)) (aD (clsD C)) := r_const fun H T => ⟨H, T, Le.refl _ _, rfl⟩
theorem VD.cls {H : Hp} {T : Mt G} {C : Addr} {v : V} (h : VD H T (clsD C : D G) v) : v = .ref C := let ⟨_, _, _, e⟩ := h; e
/-! ### statement by statement -/
theorem step {a b : AX G} {N : AN G} {S : AS G} (h : ∀ B : AX G, B = b → a { N with nx := B N } S) : xSeq a b N S := h b rfl
theorem startN {a : AX G} {N0 : AN G} {S : AS G} (Φ : AN G → Prop) (h0 : Φ N0) (h : ∀ N, Φ N → a N S) : a N0 S := h N0 h0
theorem withS {a : AX G} {N : AN G} {S : AS G} (h : ∀ S0, S0 = S → a N S0) : a N S := h S rfl
end
end A

/-! fields, methods, while, enumerate, zip, None -/
namespace A
open PySem L2
section
variable {G : Cfg}
/-! ### fields and methods -/
def FldIs (C : Addr) (f : Str) (d e : D G) : Prop := ∀ H T v, Good (G := G) H T → VD H T d v → ∃ x dx fs u, v = .ref x ∧ H x = some (.ins C dx fs) ∧ fs.lookup f = some u ∧ VD H T e u
def aFld (C : Addr) (f : Str) (a : AE G) : AE G := fun S P => a S fun x cs => ∃ d e, x = .d d ∧ FldIs C f d e ∧ P (.d e) cs
theorem r_fld {C : Addr} {f : Str} {t : TE} {a : AE G} (cl : Cls G.K C) (na : NoAttr G.K C f) (ha : Re t a) : Re (tFld G.K t f) (aFld C f a) := fun Φ S σ Ω P Q R h k =>
  ha Φ S σ Ω _ _ R h fun x cs v Ω1 ⟨d, e, ex, fl, q⟩ w1 R1 v1 => by
    subst ex
    obtain ⟨y, dx, fs, u, rfl, hy, hl, vu⟩ := fl _ _ _ R1.good v1
    exact ⟨y, C, dx, fs, u, rfl, hy, cl, na, hl, k _ _ _ Ω1 q w1 R1 vu⟩
/-- an instance of the class, that has no attribute of these names -/
def InsIs (C : Addr) (m : Str) (d : D G) : Prop := ∀ H T v, Good (G := G) H T → VD H T d v → ∃ x dx fs, v = .ref x ∧ H x = some (.ins C dx fs) ∧ fs.lookup m = none
def aMeth (C : Addr) (m : Str) (g : List (D G) → (D G → Prop) → Prop) (a : AE G) (r : AA G) : AE G := fun S P => a S fun x cs => ∃ d, x = .d d ∧ InsIs C m d ∧ r ⟨S.ρ, cs⟩ fun xs cs => ∃ ds, undd xs = some ds ∧ g (d :: ds) fun e => P (.d e) cs
theorem r_meth {C : Addr} {m : Str} {g : List (D G) → (D G → Prop) → Prop} {E : XK} {t : TE} {tr : TA} {a : AE G} {r : AA G} (ha : Re t a) (hr : Ra tr r) : Re (tMeth C m (cP G g) [] E t tr) (aMeth C m g a r) := fun Φ S σ Ω P Q R h k =>
  ha Φ S σ Ω _ _ R h fun x cs v Ω1 ⟨d, ex, ii, h1⟩ w1 R1 v1 => by
    subst ex
    obtain ⟨y, dx, fs, rfl, hy, hl⟩ := ii _ _ _ R1.good v1
    refine ⟨y, dx, fs, rfl, hy, hl, hr Φ ⟨S.ρ, cs⟩ σ Ω1 _ _ R1 h1 fun xs cs2 vs Ω2 ⟨ds, e, q⟩ w2 R2 v2 => ?_⟩
    rw [List.append_nil]
    refine ⟨d :: ds, Ω2.T, _, R2.good, ⟨_, _, rfl, VS.le (x := .d d) w2 v1, v2.undd e⟩, q, fun d' v' H' T' p l g' fr vd => ?_⟩
    obtain ⟨R3, w3⟩ := R2.after l g' fr
    exact k _ _ v' _ p ((w1.trans w2).trans w3) R3 vd
/-! ### while -/
def loopW (c : AT G) (b : AX G) (N : AN G) (S : AS G) : Prop := ∃ Inv : Nat → AS G → Prop, (∃ m, Inv m S) ∧
  ∀ m S, Inv m S → c S fun z cs => if z = true then b { N with nx := fun S' => ∃ m', m' < m ∧ Inv m' S', ct := fun S' => ∃ m', m' < m ∧ Inv m' S', bk := N.nx } ⟨S.ρ, cs⟩ else N.nx ⟨S.ρ, cs⟩
def xWhile (c : AT G) (b : AX G) : AX G := fun N S => loopW c b N S
theorem x_while {tc : L2.TT} {t : TS} {c : AT G} {b : AX G} (hc : Rt tc c) (hb : Rx t b) : Rx (tWhile tc t) (xWhile c b) := fun Φ S σ Ω N E R h kn kr kb kc => by
  obtain ⟨Inv, ⟨m0, h0⟩, hs⟩ := h
  refine ⟨fun m σ2 H2 => ∃ S2 Ω2, H2 = Ω2.H ∧ Wle Ω Ω2 ∧ Rel Φ S2 σ2 Ω2 ∧ Inv m S2, ⟨m0, S, Ω, rfl, Wle.refl _, R, h0⟩, ?_⟩
  rintro m σ2 H2 ⟨S2, Ω2, rfl, w2, R2, i2⟩
  refine hc Φ S2 σ2 Ω2 _ _ R2 (hs m S2 i2) fun z cs Ω3 h3 w3 R3 => ?_
  have w23 := w2.trans w3
  cases z with
  | false => exact iteF (kn _ _ Ω3 (by simpa using h3) w23 R3)
  | true =>
    refine iteT ⟨fun σ' H' => ∃ m', m' < m ∧ ∃ S4 Ω4, H' = Ω4.H ∧ Wle Ω Ω4 ∧ Rel Φ S4 σ' Ω4 ∧ Inv m' S4, fun σ' H' ⟨m', l, q⟩ => ⟨m', l, q⟩, ?_⟩
    refine hb Φ ⟨S2.ρ, cs⟩ σ2 Ω3 { N with nx := fun S' => ∃ m', m' < m ∧ Inv m' S', ct := fun S' => ∃ m', m' < m ∧ Inv m' S', bk := N.nx } _ R3 (by simpa using h3) (fun S5 σ5 Ω5 ⟨m', l, i5⟩ w5 R5 => ⟨m', l, S5, Ω5, rfl, w23.trans w5, R5, i5⟩) (fun x S5 v σ5 Ω5 h5 w5 => kr x S5 v σ5 Ω5 h5 (w23.trans w5)) (fun S5 σ5 Ω5 h5 w5 R5 => kn S5 σ5 Ω5 h5 (w23.trans w5) R5) (fun S5 σ5 Ω5 ⟨m', l, i5⟩ w5 R5 => ⟨m', l, S5, Ω5, rfl, w23.trans w5, R5, i5⟩)
/-! ### is None -/
def isNonO : D G → Option Bool
  | .non => some true
  | .ob _ => none
  | .bl _ => some false
  | .int _ => some false
  | .str _ => some false
  | .tup _ => some false
  | .lst _ => some false
def oIsN (neg : Bool) : AO G := fun x y cs P => ∃ d b, x = .d d ∧ y = .d .non ∧ isNonO d = some b ∧ P (.d (.bl (if neg then !b else b))) cs
theorem isNonO_of {d : D G} {b : Bool} (e : isNonO d = some b) {H : Hp} {T : Mt G} {v : V} (h : VD H T d v) : decide (v = V.non) = b := by
  cases d with
  | non => cases e; rw [show v = .non from h]; rfl
  | bl b => cases e; rw [show v = .bl b from h]; rfl
  | int b => cases e; rw [show v = .int b from h]; rfl
  | str b => cases e; rw [show v = .str b from h]; rfl
  | tup ds => cases e; obtain ⟨a, xs, e, _⟩ := h; subst e; rfl
  | lst ds => cases e; obtain ⟨a, xs, e, _⟩ := h; subst e; rfl
  | ob φ => cases e
theorem o_isN : Ro (G := G) (fun x y H Q => y = .non ∧ Q (.bl (decide (x = .non))) H) (oIsN false) := fun Φ S σ Ω x y v u P Q R hx hy ⟨d, b, e1, e2, e3, q⟩ k => by
  subst e1; subst e2
  have := isNonO_of e3 hx
  exact ⟨hy, by rw [this]; exact k _ _ _ Ω q (Wle.refl _) R rfl⟩
theorem o_notN : Ro (G := G) (fun x y H Q => y = .non ∧ Q (.bl (!decide (x = .non))) H) (oIsN true) := fun Φ S σ Ω x y v u P Q R hx hy ⟨d, b, e1, e2, e3, q⟩ k => by
  subst e1; subst e2
  have := isNonO_of e3 hx
  exact ⟨hy, by rw [this]; exact k _ _ _ Ω q (Wle.refl _) R rfl⟩
/-! ### enumerate, zip -/
def enumD : Nat → List (D G) → List (D G)
  | _, [] => []
  | i, d :: ds => .tup [.int (i : Nat), d] :: enumD (i + 1) ds
theorem enumD_get : ∀ {ds : List (D G)} {j i : Nat}, (enumD j ds)[i]? = ds[i]?.map fun d => .tup [.int ((j + i : Nat)), d]
  | [], j, i => by simp [enumD]
  | d :: ds, j, 0 => by simp [enumD]
  | d :: ds, j, i + 1 => by
    rw [enumD, List.getElem?_cons_succ, List.getElem?_cons_succ, enumD_get, show j + 1 + i = j + (i + 1) by omega]
theorem enumD_len : ∀ {ds : List (D G)} {j : Nat}, (enumD j ds).length = ds.length
  | [], _ => rfl
  | d :: ds, j => by rw [enumD, List.length_cons, List.length_cons, enumD_len]
def iEn (a : AA G) : AI G := fun S P => a S fun xs cs => ∃ ds, xs = [.d (.lst ds)] ∧ P (enumD 0 ds) cs
theorem i_enum {t : TA} {a : AA G} (ha : Ra t a) : Ri (iEnum G.K t) (iEn a) := fun Φ S σ Ω P Q R h k =>
  ha Φ S σ Ω _ _ R h fun xs cs vs Ω1 ⟨ds, e, q⟩ w1 R1 v1 => by
    subst e
    obtain ⟨v, r, rfl, hv, rfl⟩ := v1
    obtain ⟨a, ys, rfl, ha, vs⟩ := hv
    refine ⟨a, ys, rfl, SqL.of ha.1, k _ _ _ Ω1 q w1 R1 fun Ω2 w2 g2 => ?_⟩
    have h2 : Ω2.H a = some (.lst ys) := w2.1.kp _ _ ha.1 ha.2
    refine ⟨fun i hi => ⟨ys, SqL.of h2, by rw [vs.length, ← enumD_len (j := 0)]; exact hi⟩, fun i d e => ?_⟩
    rw [enumD_get] at e
    obtain ⟨d0, e0, e1⟩ := Option.map_eq_some_iff.mp e
    subst e1
    obtain ⟨y, hy, vy⟩ := vs.get e0
    refine ⟨⟨ys, y, SqL.of h2, hy⟩, fun x H' ⟨T, z, e1, hT, e2, e3⟩ => ?_⟩
    subst e1; subst e2
    have := e3 ys (SqL.of h2)
    rw [hy] at this
    cases this
    have sm : Same Ω2.H (upd Ω2.H T (.tup [.int (i : Nat), y])) := same_upd hT
    refine ⟨sm, T, _, rfl, .inl ⟨.inl upd_same, ?_⟩, _, _, rfl, ?_, _, _, rfl, (vy.le w2.1).le (le_same sm), rfl⟩
    · exact g2.tn hT
    · show V.int (i : Nat) = V.int ((0 + i : Nat))
      rw [Nat.zero_add]
end
end A

namespace B
open PySem L2
def top (i : Nat) : Stmt := PySem.Challenge.pw_buzzround_k00_errors.main.body.getD i (.Pass ⟨0, 0, 0, 0⟩)
abbrev s_NoRow___init__ : Stmt := inClass (top 23) 0
theorem sc_NoRow___init__ : FnScope ["self", "index"] ["self", "index"] (defScope s_NoRow___init__) := ⟨rfl, rfl, rfl, by decide +kernel, rfl, by decide +kernel, by decide +kernel⟩
abbrev s_NoLook___init__ : Stmt := inClass (top 24) 0
theorem sc_NoLook___init__ : FnScope ["self", "index"] ["self", "index"] (defScope s_NoLook___init__) := ⟨rfl, rfl, rfl, by decide +kernel, rfl, by decide +kernel, by decide +kernel⟩
abbrev s_NoText___init__ : Stmt := inClass (top 25) 0
theorem sc_NoText___init__ : FnScope ["self", "row"] ["self", "row"] (defScope s_NoText___init__) := ⟨rfl, rfl, rfl, by decide +kernel, rfl, by decide +kernel, by decide +kernel⟩
abbrev s__law_bag : Stmt := top 27
theorem sc__law_bag : FnScope ["script", "k", "cell"] ["script", "k"] (defScope s__law_bag) := ⟨rfl, rfl, rfl, by decide +kernel, rfl, by decide +kernel, by decide +kernel⟩
abbrev s__law_draw : Stmt := top 28
theorem sc__law_draw : FnScope ["bag", "many", "found", "mixed"] ["bag", "many"] (defScope s__law_draw) := ⟨rfl, rfl, rfl, by decide +kernel, rfl, by decide +kernel, by decide +kernel⟩
abbrev s__law_made : Stmt := top 29
theorem sc__law_made : FnScope ["k", "line", "value", "first", "second", "third", "fourth", "last"] ["k", "line", "value"] (defScope s__law_made) := ⟨rfl, rfl, rfl, by decide +kernel, rfl, by decide +kernel, by decide +kernel⟩
abbrev s__law_which : Stmt := top 30
theorem sc__law_which : FnScope ["e", "one"] ["e"] (defScope s__law_which) := ⟨rfl, rfl, rfl, by decide +kernel, rfl, by decide +kernel, by decide +kernel⟩
abbrev s__law_value : Stmt := top 31
theorem sc__law_value : FnScope ["bag", "way", "far", "some"] ["bag"] (defScope s__law_value) := ⟨rfl, rfl, rfl, by decide +kernel, rfl, by decide +kernel, by decide +kernel⟩
abbrev s__law_words : Stmt := top 32
theorem sc__law_words : FnScope ["bag", "signs", "k"] ["bag"] (defScope s__law_words) := ⟨rfl, rfl, rfl, by decide +kernel, rfl, by decide +kernel, by decide +kernel⟩
abbrev s__law_right : Stmt := top 33
theorem sc__law_right : FnScope ["line", "value", "whole", "k", "e", "which", "at"] ["line", "value"] (defScope s__law_right) := ⟨rfl, rfl, rfl, by decide +kernel, rfl, by decide +kernel, by decide +kernel⟩
abbrev s_law : Stmt := top 34
theorem sc_law : FnScope ["script", "k", "bag"] ["script"] (defScope s_law) := ⟨rfl, rfl, rfl, by decide +kernel, rfl, by decide +kernel, by decide +kernel⟩
end B

namespace L2
open PySem PySem.Spec PyProof.Rows
/-! ### great powers -/
def CPowW (i j : Int) : Prop := 0 ≤ j ∧ (Builtin.Int.intBits i : Int) * j ≤ 2 ^ 27
theorem op_powW {X : Cx} : OpR X (binaryOp .Pow) (rI CPowW fun i j => .int (i ^ j.toNat)) := opI fun _ _ _ _ _ _ _ hc q => pow_int hc.1 hc.2 q
theorem bits_le {i : Int} {n : Nat} (h : i.natAbs < 2 ^ n) : Builtin.Int.intBits i ≤ n := by
  unfold Builtin.Int.intBits
  split
  · exact Nat.zero_le _
  · rename_i h0
    have h1 : i.natAbs ≠ 0 := fun z => h0 (by have : i = 0 := by omega
                                              subst this; rfl)
    have := (Nat.log2_lt h1).mpr h
    omega
theorem powW_of {i j : Int} {n m : Nat} (h : i.natAbs < 2 ^ n) (hj : j = (m : Int)) (hm : n * m ≤ 2 ^ 27) : CPowW i j := by
  subst hj
  refine ⟨Int.natCast_nonneg _, ?_⟩
  have := bits_le h
  have h2 : Builtin.Int.intBits i * m ≤ n * m := Nat.mul_le_mul_right _ this
  have h3 : Builtin.Int.intBits i * m ≤ 2 ^ 27 := Nat.le_trans h2 hm
  exact_mod_cast h3
end L2

namespace B
open PySem L2
/-! ### draws -/
/-- a bag of draws: what is left of the cell, the cell's rest, how many mixed draws there were -/
def BagO (n : Nat) (o : HO) : Prop := ∃ a b c : Int, o = .lst [.int a, .int b, .int c] ∧ 0 ≤ a ∧ a.natAbs < 2 ^ 1048577 ∧ 0 ≤ b ∧ b.natAbs < 2 ^ 128 ∧ 0 ≤ c ∧ c ≤ n
def Bag (H : Hp) (p : Addr) (n : Nat) : Prop := ∃ o, H p = some o ∧ BagO n o
def spBag (K : PySem.W.Frag) : Sp := fun vs H Q _ => ∃ (a : Addr) (ns : List Int) (k : Nat), vs = [.ref a, .int k] ∧ SqL K H a (ns.map V.int) ∧ (∀ z ∈ ns, Builtin.Int.intBits z ≤ 1048576) ∧ k ≤ 100 ∧ ns.length ≤ 1000 ∧
  ∀ p o, H p = none → BagO 0 o → Q (.ref p) (upd H p o)
def spDraw : Sp := fun vs H Q _ => ∃ (p : Addr) (m : Int) (n : Nat), vs = [.ref p, .int m] ∧ 0 < m ∧ m.natAbs < 2 ^ 8000 ∧ Bag H p n ∧ n ≤ 1000000 ∧
  ∀ (r : Int) (o : HO), 0 ≤ r → r < m → BagO (n + 1) o → Q (.int r) (upd H p o)
structure TxtD (mg : Str → Option Value) : Prop where
  len : mg "len" = none
  abs : mg "abs" = none
  max : mg "max" = none
  int : mg "int" = none
section
variable {P : Program} {w : World} {K : PySem.W.Frag} {mg : Str → Option Value} {base : Heap}
theorem ok_bag {f : Addr} {fd : FuncData} (F : Fun K "_law_bag" "_law_bag" s__law_bag f fd) (T : TxtD mg) : FnOk P w K mg base CX0 1 f fd ["script", "k"] (spBag K) := by
  refine F.ok sc__law_bag (fun vs H Q E h => ?_) (fun cdv A outer s H vs Q E hr h => ?_)
  · obtain ⟨a, ns, k, rfl, _⟩ := h
    rfl
  · obtain ⟨a, ns, k, rfl, hS, hb, hk, hl, q⟩ := h
    have nd := sc__law_bag.nd
    refine ⟨_, pss_cons (ps_set (i := 2) nd rfl (Or.inl rfl) pe_int)
      (pss_cons (ps_if (pt_cmpR op_lt (pv 1) (pe_callB call_len (by rfl) T.len PySem.boot_len (pa_cons (pv 0) pa_nil)) (nomark _))
        (pss_one (ps_set (i := 2) nd rfl (Or.inl rfl) (pe_callB call_abs (by rfl) T.abs (by decide +kernel) (pa_cons (pe_callTy call_int1 (by rfl) T.int (by decide +kernel) (pa_cons (pe_ix ix_list (pv 0) (pv 1) (fun _ _ => rfl)) pa_nil)) pa_nil)))) pss_nil)
      (pss_one (ps_ret (pe_lst (pa_cons (pe_callB (call_max2 rfl) (by rfl) T.max (by decide +kernel) (pa_cons pe_int (pa_cons (pe_op op_sub (pv 2) (pe_op op_pow pe_int pe_int)) pa_nil)))
        (pa_cons (pe_op op_add (pe_op op_mod (pe_callTy call_int1 (by rfl) T.int (by decide +kernel) (pa_cons (pv 2) pa_nil)) pe_int) (pe_op op_mul pe_int (pv 1)))
        (pa_cons pe_int pa_nil))))))), ?_⟩
    refine ⟨_, rfl, _, rfl, _, (ns.map V.int).length, rfl, Or.inl ⟨_, hS, rfl⟩, ?_⟩
    refine ⟨_, _, rfl, rfl, _, rfl, ?_⟩
    have p18 : ((10 : Int) ^ (18 : Int).toNat) = 1000000000000000000 := by decide
    have fin : ∀ cell : Int, 0 ≤ cell → cell.natAbs < 2 ^ 1048576 → ∀ p, H p = none →
        Q (.ref p) (upd H p (.lst [.int (if cell - 10 ^ (18 : Int).toNat > 0 then cell - 10 ^ (18 : Int).toNat else 0), .int (cell % 170141183460469231731687303715884105727 + 7919 * (k : Int)), .int 0])) := by
      intro cell h0 h1 p hp
      refine q p _ hp ⟨_, _, _, rfl, ?_, ?_, ?_, ?_, by omega, by omega⟩
      · split <;> omega
      · rw [p18]
        have h2 : (2 : Nat) ^ 1048576 ≤ 2 ^ 1048577 := Nat.pow_le_pow_right (by decide) (by decide)
        generalize (2 : Nat) ^ 1048576 = x at h1 h2
        generalize (2 : Nat) ^ 1048577 = y at h2 ⊢
        split <;> omega
      · have := Int.emod_nonneg cell (show (170141183460469231731687303715884105727 : Int) ≠ 0 by decide)
        omega
      · have h3 := Int.emod_nonneg cell (show (170141183460469231731687303715884105727 : Int) ≠ 0 by decide)
        have h4 := Int.emod_lt_of_pos cell (show (0 : Int) < 170141183460469231731687303715884105727 by decide)
        have e : (2 : Nat) ^ 128 = 340282366920938463463374607431768211456 := by decide
        rw [e]
        omega
    have rest : ∀ cell : Int, 0 ≤ cell → cell.natAbs < 2 ^ 1048576 →
        tRet (tLst
          (tCons
            (tCB (fun xs H Q => ∃ i j, xs = [V.int i, V.int j] ∧ Q (V.int (if j > i then j else i)) H)
              (tCons (tC (V.int 0))
                (tCons
                  (tOp (rI0 fun i j => V.int (i - j)) (tVar 2)
                    (tOp (rI CPow fun i j => V.int (i ^ j.toNat)) (tC (V.int 10)) (tC (V.int 18))))
                  tNil)))
            (tCons
              (tOp (rI0 fun i j => V.int (i + j))
                (tOp (rI (fun x j => 0 < j) fun i j => V.int (i % j))
                  (tCB
                    (fun xs H Q =>
                      (∃ i, xs = [V.int i] ∧ Q (V.int i) H) ∨
                        ∃ k, xs = [V.bl k] ∧ Q (V.int (if k = true then 1 else 0)) H)
                    (tCons (tVar 2) tNil))
                  (tC (V.int 170141183460469231731687303715884105727)))
                (tOp (rI CMul fun i j => V.int (i * j)) (tC (V.int 7919)) (tVar 1)))
              (tCons (tC (V.int 0)) tNil)))) { nx := fun _ H' => Q .non H', rt := Q } [some (.ref a), some (.int k), some (.int cell)] H := by
      intro cell h0 h1
      refine ⟨_, rfl, _, _, rfl, rfl, ⟨by decide, by decide, by decide⟩, _, _, rfl, rfl, _, _, rfl, _, rfl, Or.inl ⟨_, rfl, ?_⟩⟩
      refine ⟨_, _, rfl, rfl, (by show (0 : Int) < 170141183460469231731687303715884105727; decide), _, rfl, _, _, rfl, rfl, Or.inl ⟨by decide, by decide⟩, _, _, rfl, rfl, (by show 3 ≤ sizeLine; decide), ?_⟩
      exact fin cell h0 h1
    by_cases c : ((k : Int) < ((ns.map V.int).length : Nat))
    · rw [decide_eq_true c]
      refine iteT ?_
      have hk2 : k < ns.length := by simpa using c
      have hz : ns[k]? = some ns[k] := List.getElem?_eq_getElem hk2
      have hbz := hb ns[k] (List.getElem_mem hk2)
      refine ⟨_, rfl, _, rfl, a, _, _, V.int ns[k], rfl, rfl, hS, atI_nat (by rw [List.getElem?_map, hz]; rfl), Or.inl ⟨_, rfl, _, rfl, ?_⟩⟩
      refine rest _ (by split <;> omega) ?_
      have h2 : (ns[k]).natAbs < 2 ^ 1048576 := by
        by_cases e : ns[k] = 0
        · rw [e]; exact Nat.two_pow_pos _
        · unfold Builtin.Int.intBits at hbz
          rw [if_neg (by simpa using e)] at hbz
          exact (Nat.log2_lt (by omega)).mp (by omega)
      generalize (2 : Nat) ^ 1048576 = x at h2 ⊢
      split <;> omega
    · rw [decide_eq_false c]
      refine iteF ?_
      exact rest 0 (by omega) (Nat.two_pow_pos _)
end
end B

namespace B
open PySem L2
section
variable {P : Program} {w : World} {K : PySem.W.Frag} {mg : Str → Option Value} {base : Heap}
theorem at3 {a b c : V} : atI [a, b, c] 0 = some a ∧ atI [a, b, c] 1 = some b ∧ atI [a, b, c] 2 = some c := ⟨rfl, rfl, rfl⟩
theorem pow_bound {x : Int} {n m : Nat} (h : x.natAbs < 2 ^ n) : (x ^ m).natAbs ≤ 2 ^ (n * m) := by
  rw [Int.natAbs_pow, Nat.pow_mul]
  exact Nat.pow_le_pow_left (Nat.le_of_lt h) m
theorem ok_draw {f : Addr} {fd : FuncData} (F : Fun K "_law_draw" "_law_draw" s__law_draw f fd) (T : TxtD mg) : FnOk P w K mg base CX0 1 f fd ["bag", "many"] spDraw := by
  refine F.ok sc__law_draw (fun vs H Q E h => ?_) (fun cdv A outer s H vs Q E hr h => ?_)
  · obtain ⟨a, ns, k, rfl, _⟩ := h
    rfl
  · obtain ⟨p, m, n, rfl, hm, hmb, ⟨o, hp, a, b, c, rfl, ha, hab, hb, hbb, hc, hcn⟩, hn, q⟩ := h
    have nd := sc__law_draw.nd
    refine ⟨_, pss_cons (ps_if (pt_cmpR op_gt (pe_ix ix_list (pv 0) pe_int (fun _ _ => rfl)) pe_int (nomark _))
        (pss_cons (ps_set (i := 2) nd rfl (Or.inl rfl) (pe_op op_mod (pe_callTy call_int1 (by rfl) T.int (by decide +kernel) (pa_cons (pe_ix ix_list (pv 0) pe_int (fun _ _ => rfl)) pa_nil)) (pv 1)))
        (pss_cons (ps_asg (pe_op op_fdivW (pe_ix ix_list (pv 0) pe_int (fun _ _ => rfl)) (pv 1)) (pg_sub (pv 0) pe_int set_list))
        (pss_one (ps_ret (pv 2))))) pss_nil)
      (pss_cons (ps_asg (pe_op op_add (pe_ix ix_list (pv 0) pe_int (fun _ _ => rfl)) pe_int) (pg_sub (pv 0) pe_int set_list))
      (pss_cons (ps_set (i := 3) nd rfl (Or.inl rfl) (pe_op op_mod (pe_callTy call_int1 (by rfl) T.int (by decide +kernel) (pa_cons (pe_op op_powW (pe_op op_add (pe_ix ix_list (pv 0) pe_int (fun _ _ => rfl)) (pe_op op_mulW pe_int (pe_ix ix_list (pv 0) pe_int (fun _ _ => rfl)))) pe_int) pa_nil)) pe_int))
      (pss_cons (ps_set (i := 3) nd rfl (Or.inl rfl) (pe_op op_mod (pe_callTy call_int1 (by rfl) T.int (by decide +kernel) (pa_cons (pe_op op_powW (pe_op op_add (pv 3) (pe_op op_mulW pe_int (pe_ix ix_list (pv 0) pe_int (fun _ _ => rfl)))) pe_int) pa_nil)) pe_int))
      (pss_one (ps_ret (pe_op op_mod (pe_callTy call_int1 (by rfl) T.int (by decide +kernel) (pa_cons (pe_op op_fdiv (pv 3) (pe_op op_pow pe_int pe_int)) pa_nil)) (pv 1))))))), ?_⟩
    obtain ⟨i0, i1, i2⟩ := @at3 (V.int a) (V.int b) (V.int c)
    refine ⟨_, rfl, p, _, _, _, rfl, rfl, SqL.of hp, i0, _, _, rfl, rfl, _, rfl, ?_⟩
    by_cases g : (0 : Int) < a
    · rw [decide_eq_true g]
      refine iteT ?_
      refine ⟨_, rfl, p, _, _, _, rfl, rfl, SqL.of hp, i0, Or.inl ⟨_, rfl, _, rfl, _, _, rfl, rfl, hm, ?_⟩⟩
      refine ⟨_, rfl, p, _, _, _, rfl, rfl, SqL.of hp, i0, _, rfl, _, _, rfl, rfl, wide_div hm hmb (by decide) (by decide), _, rfl, ?_⟩
      refine ⟨p, _, _, 0, rfl, rfl, hp, rfl, ?_⟩
      refine ⟨_, rfl, ?_⟩
      refine q _ _ (Int.emod_nonneg _ (by omega)) (Int.emod_lt_of_pos _ hm) ⟨_, _, _, rfl, Int.ediv_nonneg ha (by omega), ?_, hb, hbb, hc, by omega⟩
      refine Nat.lt_of_le_of_lt ?_ hab
      rw [Int.natAbs_ediv_of_nonneg ha]
      exact Nat.div_le_self _ _
    · rw [decide_eq_false g]
      refine iteF ?_
      refine ⟨_, rfl, p, _, _, _, rfl, rfl, SqL.of hp, i2, _, _, rfl, rfl, _, rfl, ?_⟩
      refine ⟨p, _, _, 2, rfl, rfl, hp, rfl, ?_⟩
      have hp2 : (upd H p (.lst [.int a, .int b, .int (c + 1)])) p = some (.lst [.int a, .int b, .int (c + 1)]) := upd_same
      obtain ⟨j0, j1, j2⟩ := @at3 (V.int a) (V.int b) (V.int (c + 1))
      have m1 : CMulW 982451653 (c + 1) := wide_mul (a := 30) (b := 30) (by decide) (by rw [show (2 : Nat) ^ 30 = 1073741824 by decide]; omega) (by decide) (by decide) (by decide)
      have e30 : (2 : Nat) ^ 30 = 1073741824 := by decide
      have e128 : (2 : Nat) ^ 128 = 340282366920938463463374607431768211456 := by decide
      have e129 : (2 : Nat) ^ 129 = 680564733841876926926749214863536422912 := by decide
      have b1 : (b + 982451653 * (c + 1)).natAbs < 2 ^ 129 := by
        rw [e129]; rw [e128] at hbb; omega
      have l1 : CPowW (b + 982451653 * (c + 1)) 5 := powW_of (m := 5) b1 rfl (by decide)
      refine ⟨_, rfl, p, _, _, _, rfl, rfl, SqL.of hp2, j1, _, rfl, p, _, _, _, rfl, rfl, SqL.of hp2, j2, _, _, rfl, rfl, m1, _, _, rfl, rfl, _, _, rfl, rfl, l1, Or.inl ⟨_, rfl, ?_⟩⟩
      refine ⟨_, _, rfl, rfl, (by show (0 : Int) < 170141183460469231731687303715884105727; decide), ?_⟩
      obtain ⟨x, hx⟩ : ∃ x, (b + 982451653 * (c + 1)) ^ (5 : Int).toNat % 170141183460469231731687303715884105727 = x := ⟨_, rfl⟩
      have x0 : 0 ≤ x := by rw [← hx]; exact Int.emod_nonneg _ (by decide)
      have x1 : x < 170141183460469231731687303715884105727 := by rw [← hx]; exact Int.emod_lt_of_pos _ (by decide)
      have b2 : (x + 49979687 * (c + 1)).natAbs < 2 ^ 129 := by
        rw [e129]; omega
      have m2 : CMulW 49979687 (c + 1) := wide_mul (a := 30) (b := 30) (by decide) (by rw [show (2 : Nat) ^ 30 = 1073741824 by decide]; omega) (by decide) (by decide) (by decide)
      have l2 : CPowW (x + 49979687 * (c + 1)) 3 := powW_of (m := 3) b2 rfl (by decide)
      rw [← hx] at l2
      refine ⟨_, rfl, _, rfl, p, _, _, _, rfl, rfl, SqL.of hp2, j2, _, _, rfl, rfl, m2, _, _, rfl, rfl, _, _, rfl, rfl, l2, Or.inl ⟨_, rfl, ?_⟩⟩
      refine ⟨_, _, rfl, rfl, (by show (0 : Int) < 162259276829213363391578010288127; decide), ?_⟩
      refine ⟨_, rfl, _, _, rfl, rfl, ⟨by decide, by decide, by decide⟩, _, _, rfl, rfl, ⟨by decide, by decide⟩, Or.inl ⟨_, rfl, _, rfl, _, _, rfl, rfl, hm, ?_⟩⟩
      exact q _ _ (Int.emod_nonneg _ (by omega)) (Int.emod_lt_of_pos _ hm) ⟨_, _, _, rfl, ha, hab, hb, hbb, by omega, by omega⟩
end
end B

namespace MK
open PySem PySem.Spec PyProof.Rows L2 PpSet
/-! ### dicts whose keys are None, True, False -/
def mIs : Option Bool → Value → Bool
  | none, .none => true
  | some k, .bool b => b == k
  | _, _ => false
theorem mIs_shape {k : Option Bool} {v : Value} (h : mIs k v = true) : (k = none ∧ v = .none) ∨ (∃ b, k = some b ∧ v = .bool b) := by
  cases k with
  | none => cases v <;> first | exact .inl ⟨rfl, rfl⟩ | exact absurd h Bool.false_ne_true
  | some k => cases v <;> first | exact .inr ⟨k, rfl, congrArg Value.bool (eq_of_beq h)⟩ | exact absurd h Bool.false_ne_true
def mHash : Option Bool → Int
  | none => reduceHash 0xFCA86420
  | some b => hB b
theorem pyHash_none {prog : Program} {w : World} {A : Around} {E : Value → Shared → Prop} {s : Shared} {Q : Int → Shared → Prop} (h : Q (mHash none) { s with toks := s.toks + 1 }) :
    wpAny (model prog w) A (pyHash .none) Q E s :=
  W.pyHash_slot (T := "NoneType") rfl F.slot_NoneType_hash F.entry_NoneType_hash (F.args_NoneType_hash_1 _) (beq_builtin_none _) (.inl rfl) (wpAny_bind (wpAny_pure (wpAny_bind (wpAny_mkInt (wpAny_pure ⟨_, _, rfl, h⟩)))))
def markKind (prog : Program) (w : World) : PySem.KeyKind prog w (Option Bool) where
  is := mIs
  hash := mHash
  inj := fun v a b ha hb => by
    rcases mIs_shape ha with ⟨rfl, rfl⟩ | ⟨x, rfl, rfl⟩
    · rcases mIs_shape hb with ⟨rfl, e⟩ | ⟨y, rfl, e⟩
      · rfl
      · exact nomatch e
    · rcases mIs_shape hb with ⟨rfl, e⟩ | ⟨y, rfl, e⟩
      · exact nomatch e
      · injection e with e; rw [e]
  byValue := fun k v h => by
    rcases mIs_shape h with ⟨rfl, rfl⟩ | ⟨x, rfl, rfl⟩ <;> rfl
  pyHash := fun hv h => by
    rcases mIs_shape hv with ⟨rfl, rfl⟩ | ⟨x, rfl, rfl⟩
    · exact pyHash_none h
    · exact pyHash_bool h
  eqBool := fun {A E s a b u v Q} hu hv h => by
    rcases mIs_shape hu with ⟨rfl, rfl⟩ | ⟨x, rfl, rfl⟩
    · rcases mIs_shape hv with ⟨rfl, rfl⟩ | ⟨y, rfl, rfl⟩
      · exact SeqAt.EqAt.same (A := A) (s := s) .none _ _ _ _ h
      · exact SeqAt.EqAt.none_bool y _ _ _ _ h
    · rcases mIs_shape hv with ⟨rfl, rfl⟩ | ⟨y, rfl, rfl⟩
      · exact SeqAt.EqAt.bool_none x _ _ _ _ h
      · refine SeqAt.EqAt.bool_bool x y _ _ _ _ ?_
        rw [beq_dec]
        simpa using h
  «strs» := fun k x t v h => by
    cases k <;> exact absurd h Bool.false_ne_true
def mV : Option Bool → V
  | none => .non
  | some b => .bl b
theorem mV_is {k : Option Bool} {u : Value} (r : RelV (mV k) u) : mIs k u = true := by
  cases k with
  | none => cases r; rfl
  | some b => cases r; exact beq_self_eq_true b
/-- a dict by marks at a -/
def DMk (P : Program) (w : World) (a : Addr) (kvs : List (Option Bool × V)) : HO := .ext fun h => kvs.length ≤ sizeLine ∧ (a == sysModules) = false ∧ ∃ vs, KV kvs vs ∧ h.DictOf (markKind P w) a vs
theorem dmk_ok {P : Program} {w : World} {H : Hp} {h : Heap} {a : Addr} {kvs : List (Option Bool × V)} {vs : List (Option Bool × Value)} (z : kvs.length ≤ sizeLine) (hd : (a == sysModules) = false) (rel : KV kvs vs) (dd : h.DictOf (markKind P w) a vs) :
    ObjOk P w H h a (DMk P w a kvs) :=
  have ⟨o, _, _, ho, _⟩ := dd
  ⟨⟨z, hd, vs, rel, dd⟩, ⟨o, ho⟩, fun h1 h2 ⟨z, hd, vs, rel, dd⟩ k => ⟨z, hd, vs, rel, dd.at k⟩⟩
section
variable {X : Cx} {pins : List (Addr × Obj)} {σ : L2.St} {H : Hp} {s : Shared} {a : Addr}
theorem dmk_get {kvs : List (Option Bool × V)} (I : Inv X pins σ H s) (ha : H a = some (DMk X.prog X.w a kvs)) : kvs.length ≤ sizeLine ∧ (a == sysModules) = false ∧ ∃ vs, KV kvs vs ∧ s.heap.DictOf (markKind X.prog X.w) a vs := (I.hok a _ ha).1
/-- {} -/
theorem pe_dnewM {pos : Pos} : PE X (.Dict [] [] pos) (fun _ H Q => ∀ p, H p = none → Q (.ref p) (upd H p (DMk X.prog X.w p []))) := ⟨fun pins s σ H Q I h =>
  wpAny_Dict_empty ⟨.ref s.heap.objs.size, _, I.laid (a := s.heap.objs.size) (o := DMk X.prog X.w s.heap.objs.size []) (t' := s.toks) (fun _ _ q => Heap.get?_push_of_some _ q) (Nat.le_refl _)
    (dmk_ok (Nat.zero_le _) (beq_eq_false_iff_ne.mpr (Ne.symm (Nat.ne_of_lt I.big))) .nil (Heap.DictOf.new s.heap)), rfl, h _ (I.hok.fresh (Nat.le_refl _))⟩⟩
/-- len(d) -/
theorem call_lenM : CallR X (.builtin "len") (fun xs H Q => ∃ a kvs, xs = [V.ref a] ∧ H a = some (DMk X.prog X.w a kvs) ∧ Q (.int kvs.length) H) := by
  intro pins s σ H xs us Q I r h
  obtain ⟨a, kvs, rfl, ha, q⟩ := h
  obtain ⟨u, rfl, ru⟩ := vals1 r
  cases ru
  obtain ⟨z, hd, vs, rel, dd⟩ := dmk_get I ha
  refine call_len_dict hd dd (by rw [← rel.length]; rw [sizeLine_eq] at z; omega) ?_
  rw [← rel.length]
  exact ⟨.int kvs.length, H, I.tok _, ⟨_, rfl⟩, q⟩
theorem d_setM {kvs : List (Option Bool × V)} {k : Option Bool} {u r : Value} {d : V} {A : Around} {E : Value → Shared → Prop} {Q : Value → Shared → Prop} (I : Inv X pins σ H s) (e : H a = some (DMk X.prog X.w a kvs)) (ry : RelV (mV k) u) (rd : RelV d r) (hl : kvs.length < sizeLine)
    (h1 : ∀ v, valV kvs k = some v → ∀ (w' : Value) (s' : Shared), Inv X pins σ H s' → RelV v w' → Q w' s') (h2 : valV kvs k = none → ∀ (w' : Value) (s' : Shared), Inv X pins σ (upd H a (DMk X.prog X.w a (putK kvs k d))) s' → RelV d w' → Q w' s') :
    wpAny (model X.prog X.w) A (call (.builtin "dict.setdefault") [.ref a, u, r]) Q E s := by
  obtain ⟨z, hd, vs, rel, dd⟩ := dmk_get I e
  have hz : vs.length ≤ sizeLine := by
    rw [← rel.length]
    exact z
  refine call_meetsIn PySem.F.slot_dict_setdefault dd.typeIs PySem.F.entry_dict_setdefault (PySem.F.args_dict_setdefault_3 _ _ _) (kt_meets_setdefault (markKind X.prog X.w) a (mV_is ry) hd r) ⟨vs, dd, hz, fun v hv => ?_, fun hn h' dd' hs => ?_⟩
  · have q := rel.val k
    rw [hv] at q
    cases q0 : valV kvs k with
    | none =>
      rw [q0] at q
      exact (show False from q).elim
    | some v0 =>
      rw [q0] at q
      exact h1 v0 q0 _ _ (I.tok _) q
  · have q := rel.val k
    rw [hn] at q
    cases q0 : valV kvs k with
    | some v0 =>
      rw [q0] at q
      exact (show False from q).elim
    | none =>
      have hl2 : (putK kvs k d).length ≤ sizeLine := by
        have := length_putK kvs k d
        omega
      have he : ∃ q, h'.get? a = some q := let ⟨q, _, _, hq, _⟩ := dd'; ⟨q, hq⟩
      exact h2 q0 _ _ (d_write (t' := s.toks + 1) I (by rw [e]; exact True.intro) hs he (dmk_ok hl2 hd (rel.put k rd) dd')) rd
/-- d.setdefault(y, z) -/
def tSetM (P : Program) (w : World) (td ty tx : TE) : TE := fun σ H Q => td σ H fun x H1 => ∃ a kvs0, x = .ref a ∧ H1 a = some (DMk P w a kvs0) ∧ ty σ H1 fun y H2 => tx σ H2 fun z H3 => ∃ (kvs : List (Option Bool × V)) (k : Option Bool), H3 a = some (DMk P w a kvs) ∧ y = mV k ∧ kvs.length < sizeLine ∧
  (∀ v, valV kvs k = some v → Q v H3) ∧ (valV kvs k = none → Q z (upd H3 a (DMk P w a (putK kvs k z))))
theorem pe_dsetM {o e f : Expr} {td ty tx : TE} {apos cpos : Pos} (ho : PE X o td) (he : PE X e ty) (hf : PE X f tx) (m : M2 X o "setdefault" apos e f cpos) : PE X (.Call (.Attribute o "setdefault" apos) [e, f] [] cpos) (tSetM X.prog X.w td ty tx) := by
  refine ⟨fun pins s σ H Q I h => ?_⟩
  refine wpAny_Call_method m.base m.few m.line PySem.F.plainAttrs_dict PySem.F.slot_dict_setdefault PySem.F.type_dict_setdefault (thn (ho.run pins s σ H _ I h) fun u s1 ⟨x, H1, I1, rx, a, kvs0, ex, d, q1⟩ => ?_)
  subst ex
  obtain rfl : u = Value.ref a := rx
  obtain ⟨_, hd0, vs0, rel0, dd0⟩ := dmk_get I1 d
  refine ⟨dd0.typeIs, fun b q => (by cases q; obtain ⟨ob, _, _, h1, h2, _⟩ := dd0; exact ⟨ob, h1, h2.2.1⟩), ?_⟩
  rw [m.trees]
  refine Calls.callWith_builtin rfl (Calls.evalArgs_plain (Calls.spliced_cons (thn (he.run pins s1 σ H1 _ I1 q1) fun iv s2 ⟨y, H2, I2, ry, q2⟩ =>
    Calls.spliced_cons (thn (hf.run pins s2 σ H2 _ I2 q2) fun fv s3 ⟨z, H3, I3, rz, kvs, k, ea, ey, hl, q3, q4⟩ => Calls.spliced_nil ?_))))
  subst ey
  exact d_setM I3 ea ry rz hl (fun v hv w' s4 I4 rw' => ⟨v, _, I4, rw', q3 v hv⟩) fun hn w' s4 I4 rw' => ⟨z, _, I4, rw', q4 hn⟩
end
end MK

/-! numbers of marks: plain mathematics -/
namespace Hop
section
variable {κ : Type} [DecidableEq κ]
def idx (ks : List κ) (m : κ) : Nat := ks.idxOf m
theorem idx_cons (k : κ) (ks : List κ) (m : κ) : idx (k :: ks) m = if k = m then 0 else idx ks m + 1 := by
  unfold idx
  rw [List.idxOf_cons]
  by_cases e : k = m
  · simp [e]
  · have : (k == m) = false := by simpa using e
    simp [e, this]
def addKey (ks : List κ) (m : κ) : List κ := if m ∈ ks then ks else ks ++ [m]
def keysOf (ms : List κ) : List κ := ms.foldl addKey []
theorem keysOf_snoc (ms : List κ) (m : κ) : keysOf (ms ++ [m]) = addKey (keysOf ms) m := by simp [keysOf, List.foldl_append]
theorem addKey_nodup {ks : List κ} (h : ks.Nodup) (m : κ) : (addKey ks m).Nodup := by
  unfold addKey
  split
  · exact h
  · rename_i c
    exact List.nodup_append.mpr ⟨h, by simp, fun a ha b hb e => c (by rw [List.mem_singleton.mp hb] at e; exact e ▸ ha)⟩
theorem mem_addKey {ks : List κ} {m x : κ} : x ∈ addKey ks m ↔ x ∈ ks ∨ x = m := by
  unfold addKey
  split
  · rename_i c
    exact ⟨.inl, fun h => h.elim id fun e => e ▸ c⟩
  · simp
theorem keysOf_nodup (ms : List κ) : (keysOf ms).Nodup := by
  have key : ∀ (ms ks : List κ), ks.Nodup → (ms.foldl addKey ks).Nodup := by
    intro ms
    induction ms with
    | nil => exact fun _ h => h
    | cons m ms ih => exact fun ks h => ih _ (addKey_nodup h m)
  exact key ms [] List.nodup_nil
theorem mem_keysOf {ms : List κ} {x : κ} : x ∈ keysOf ms ↔ x ∈ ms := by
  have key : ∀ (ms ks : List κ), x ∈ ms.foldl addKey ks ↔ x ∈ ks ∨ x ∈ ms := by
    intro ms
    induction ms with
    | nil => intro ks; simp
    | cons m ms ih =>
      intro ks
      show x ∈ ms.foldl addKey (addKey ks m) ↔ _
      rw [ih, mem_addKey, List.mem_cons]
      constructor
      · rintro ((h | h) | h)
        · exact .inl h
        · exact .inr (.inl h)
        · exact .inr (.inr h)
      · rintro (h | h | h)
        · exact .inl (.inl h)
        · exact .inl (.inr h)
        · exact .inr h
  have := key ms []
  simpa [keysOf] using this
theorem idx_addKey {ks : List κ} {m x : κ} (h : x ∈ ks) : idx (addKey ks m) x = idx ks x := by
  unfold addKey idx
  split
  · rfl
  · rw [List.idxOf_append, if_pos h]
theorem idx_new {ks : List κ} {m : κ} (h : ¬ m ∈ ks) : idx (addKey ks m) m = ks.length := by
  unfold addKey idx
  rw [if_neg h, List.idxOf_append, if_neg h]
  simp
def lotsOf (ms : List κ) : List Nat := ms.map fun m => idx (keysOf ms) m
theorem lotsOf_snoc (ms : List κ) (m : κ) : lotsOf (ms ++ [m]) = lotsOf ms ++ [idx (addKey (keysOf ms) m) m] := by
  unfold lotsOf
  rw [keysOf_snoc, List.map_append]
  congr 1
  apply List.map_congr_left
  intro x hx
  exact idx_addKey (mem_keysOf.mpr hx)
theorem lotsOf_len (ms : List κ) : (lotsOf ms).length = ms.length := by simp [lotsOf]
theorem lotsOf_iff {ms : List κ} {i j : Nat} (hi : i < ms.length) (hj : j < ms.length) : (lotsOf ms).getD i 0 = (lotsOf ms).getD j 0 ↔ ms[i] = ms[j] := by
  have e1 : (lotsOf ms).getD i 0 = (keysOf ms).idxOf ms[i] := by simp [lotsOf, idx, List.getD_eq_getElem?_getD, hi]
  have e2 : (lotsOf ms).getD j 0 = (keysOf ms).idxOf ms[j] := by simp [lotsOf, idx, List.getD_eq_getElem?_getD, hj]
  rw [e1, e2]
  constructor
  · intro h
    have a := mem_keysOf.mpr (List.getElem_mem hi)
    have b := mem_keysOf.mpr (List.getElem_mem hj)
    have l1 := List.idxOf_lt_length_iff.mpr a
    have l2 := List.idxOf_lt_length_iff.mpr b
    have g1 : (keysOf ms)[(keysOf ms).idxOf ms[i]] = ms[i] := List.getElem_idxOf l1
    have g2 : (keysOf ms)[(keysOf ms).idxOf ms[j]] = ms[j] := List.getElem_idxOf l2
    rw [← g1, ← g2]
    simp only [h]
  · intro h; rw [h]
theorem lotsOf_lt {ms : List κ} {i : Nat} (hi : i < ms.length) : (lotsOf ms).getD i 0 < (keysOf ms).length := by
  have e1 : (lotsOf ms).getD i 0 = (keysOf ms).idxOf ms[i] := by simp [lotsOf, idx, List.getD_eq_getElem?_getD, hi]
  rw [e1]
  exact List.idxOf_lt_length_iff.mpr (mem_keysOf.mpr (List.getElem_mem hi))
theorem lotsOf_onto {ms : List κ} {l : Nat} (hl : l < (keysOf ms).length) : ∃ i, i < ms.length ∧ (lotsOf ms).getD i 0 = l := by
  have hm : (keysOf ms)[l] ∈ ms := mem_keysOf.mp (List.getElem_mem hl)
  obtain ⟨i, hi, e⟩ := List.getElem_of_mem hm
  refine ⟨i, hi, ?_⟩
  have e1 : (lotsOf ms).getD i 0 = (keysOf ms).idxOf ms[i] := by simp [lotsOf, idx, List.getD_eq_getElem?_getD, hi]
  rw [e1, e]
  exact (keysOf_nodup ms).idxOf_getElem l hl
end
end Hop

/-! The partition of a machine's states: splitting by waiting lots. Plain mathematics. -/
namespace Hop
/-! ### lists -/
theorem nodup_sub_len {α : Type} [BEq α] [LawfulBEq α] : ∀ {l k : List α}, l.Nodup → (∀ x, x ∈ l → x ∈ k) → l.length ≤ k.length
  | [], _, _, _ => Nat.zero_le _
  | a :: l, k, h, hs => by
    have ha : a ∈ k := hs a List.mem_cons_self
    have hn := List.nodup_cons.mp h
    have ih := nodup_sub_len (l := l) (k := k.erase a) hn.2 fun x hx => by
      have hxa : x ≠ a := fun e => hn.1 (e ▸ hx)
      exact (List.mem_erase_of_ne hxa).mpr (hs x (List.mem_cons_of_mem _ hx))
    rw [List.length_erase_of_mem ha] at ih
    have : 0 < k.length := List.length_pos_of_mem ha
    simp only [List.length_cons]
    omega
theorem nodup_sub_all {α : Type} [BEq α] [LawfulBEq α] {l k : List α} (h : l.Nodup) (hs : ∀ x, x ∈ l → x ∈ k) (hl : k.length ≤ l.length) {x : α} (hx : x ∈ k) : x ∈ l := by
  by_cases c : x ∈ l
  · exact c
  · have h2 : (x :: l).Nodup := List.nodup_cons.mpr ⟨c, h⟩
    have := nodup_sub_len h2 (k := k) fun y hy => by
      rcases List.mem_cons.mp hy with e | e
      · exact e ▸ hx
      · exact hs y e
    simp only [List.length_cons] at this
    omega
/-- a shorter list leaves something out -/
theorem exists_out {α : Type} [BEq α] [LawfulBEq α] {l k : List α} (hk : k.Nodup) (hl : l.length < k.length) : ∃ x, x ∈ k ∧ ¬ x ∈ l := by
  by_cases c : ∃ x, x ∈ k ∧ ¬ x ∈ l
  · exact c
  · have hall : ∀ x, x ∈ k → x ∈ l := fun x hx => by
      by_cases d : x ∈ l
      · exact d
      · exact absurd ⟨x, hx, d⟩ c
    have := nodup_sub_len hk hall
    omega
theorem nodup_filter {α : Type} {p : α → Bool} {l : List α} (h : l.Nodup) : (l.filter p).Nodup := List.Pairwise.filter p h
/-! ### the partition -/
structure S where
  lots : List Nat
  members : List (List Nat)
  waiting : List Nat
def lotOf (σ : S) (s : Nat) : Nat := σ.lots.getD s 0
def mem (σ : S) (l : Nat) : List Nat := σ.members.getD l []
structure Ok (n : Nat) (σ : S) : Prop where
  len : σ.lots.length = n
  lt : ∀ s, s < n → lotOf σ s < σ.members.length
  mem : ∀ l, l < σ.members.length → ∀ s, s ∈ mem σ l ↔ s < n ∧ lotOf σ s = l
  nd : ∀ l, l < σ.members.length → (Hop.mem σ l).Nodup
  ne : ∀ l, l < σ.members.length → ∃ s, s ∈ Hop.mem σ l
  wlt : ∀ l, l ∈ σ.waiting → l < σ.members.length
def setAll (lots : List Nat) (hs : List Nat) (m : Nat) : List Nat := hs.foldl (fun l s => l.set s m) lots
theorem setAll_len (m : Nat) : ∀ (hs lots : List Nat), (setAll lots hs m).length = lots.length
  | [], _ => rfl
  | s :: hs, lots => by
    show (setAll (lots.set s m) hs m).length = _
    rw [setAll_len m hs, List.length_set]
theorem setAll_get (m : Nat) : ∀ (hs lots : List Nat) (s : Nat), (setAll lots hs m).getD s 0 = if s ∈ hs ∧ s < lots.length then m else lots.getD s 0
  | [], lots, s => by simp [setAll]
  | t :: hs, lots, s => by
    show (setAll (lots.set t m) hs m).getD s 0 = _
    rw [setAll_get m hs, List.length_set]
    by_cases c : s < lots.length
    · by_cases d : s ∈ hs
      · simp [c, d]
      · by_cases e : s = t
        · subst e
          simp [c, d, List.getD_eq_getElem?_getD, List.getElem?_set]
        · have e' : ¬ t = s := fun q => e q.symm
          simp [c, d, e, e', List.getD_eq_getElem?_getD, List.getElem?_set]
    · simp [c, List.getD_eq_getElem?_getD, List.getElem?_set]
/-- one lot is split by those of it that are hit -/
def split (σ : S) (L : Nat) (hs : List Nat) : S :=
  if hs.length < (mem σ L).length then
    let m := σ.members.length
    let lots' := setAll σ.lots hs m
    let rest := (mem σ L).filter fun s => lots'.getD s 0 == L
    ⟨lots', σ.members.set L rest ++ [hs], σ.waiting ++ [if !σ.waiting.contains L && decide (rest.length < hs.length) then L else m]⟩
  else σ
theorem split_not {σ : S} {L : Nat} {hs : List Nat} (h : ¬ hs.length < (mem σ L).length) : split σ L hs = σ := if_neg h
section
variable {n : Nat} {σ : S} {L : Nat} {hs : List Nat} {T : Nat → Bool}
/-- what is hit of a lot -/
structure Hit (σ : S) (T : Nat → Bool) (L : Nat) (hs : List Nat) : Prop where
  lt : L < σ.members.length
  nd : hs.Nodup
  ne : ∃ s, s ∈ hs
  iff : ∀ s, s ∈ hs ↔ s ∈ mem σ L ∧ T s = true
theorem split_lot (ok : Ok n σ) (h : Hit σ T L hs) (hlt : hs.length < (mem σ L).length) {s : Nat} (hs' : s < n) : lotOf (split σ L hs) s = if s ∈ hs then σ.members.length else lotOf σ s := by
  unfold split
  rw [if_pos hlt]
  show (setAll σ.lots hs σ.members.length).getD s 0 = _
  rw [setAll_get, ok.len]
  simp [hs', lotOf]
theorem split_mlen (hlt : hs.length < (mem σ L).length) : (split σ L hs).members.length = σ.members.length + 1 := by
  unfold split
  rw [if_pos hlt]
  simp
theorem hit_lot (ok : Ok n σ) (h : Hit σ T L hs) {s : Nat} (x : s ∈ hs) : s < n ∧ lotOf σ s = L := (ok.mem L h.lt s).mp ((h.iff s).mp x).1
theorem split_ok (ok : Ok n σ) (h : Hit σ T L hs) : Ok n (split σ L hs) := by
  by_cases hlt : hs.length < (mem σ L).length
  · have hL := h.lt
    have lot := @split_lot n σ L hs T ok h hlt
    have ml := split_mlen hlt
    have memL : mem (split σ L hs) L = (mem σ L).filter fun s => (setAll σ.lots hs σ.members.length).getD s 0 == L := by
      unfold split
      rw [if_pos hlt]
      unfold mem
      simp [List.getD_eq_getElem?_getD, List.getElem?_append, List.getElem?_set, hL]
    have memM : mem (split σ L hs) σ.members.length = hs := by
      unfold split
      rw [if_pos hlt]
      unfold mem
      simp [List.getD_eq_getElem?_getD, List.getElem?_append]
    have memO : ∀ l, l < σ.members.length → l ≠ L → mem (split σ L hs) l = mem σ l := by
      intro l hl hne
      unfold split
      rw [if_pos hlt]
      unfold mem
      have : ¬ L = l := fun e => hne e.symm
      simp [List.getD_eq_getElem?_getD, List.getElem?_append, List.getElem?_set, hl, this]
    have lotL : ∀ s, s < n → ((setAll σ.lots hs σ.members.length).getD s 0 == L) = true → (lotOf σ s = L ∧ ¬ s ∈ hs) ∨ (s ∈ hs ∧ σ.members.length = L) := by
      intro s hs' e
      have e' := eq_of_beq e
      rw [setAll_get, ok.len] at e'
      by_cases d : s ∈ hs
      · rw [if_pos ⟨d, hs'⟩] at e'
        exact .inr ⟨d, e'⟩
      · rw [if_neg (fun q => d q.1)] at e'
        exact .inl ⟨e', d⟩
    refine ⟨?_, ?_, ?_, ?_, ?_, ?_⟩
    · unfold split
      rw [if_pos hlt]
      exact (setAll_len _ _ _).trans ok.len
    · intro s hs'
      rw [lot hs', ml]
      split
      · omega
      · have := ok.lt s hs'
        omega
    · intro l hl s
      rw [ml] at hl
      by_cases e1 : l = σ.members.length
      · subst e1
        rw [memM]
        constructor
        · intro x
          have := hit_lot ok h x
          exact ⟨this.1, by rw [lot this.1, if_pos x]⟩
        · rintro ⟨a, b⟩
          rw [lot a] at b
          by_cases d : s ∈ hs
          · exact d
          · rw [if_neg d] at b
            have := ok.lt s a
            omega
      · have hl' : l < σ.members.length := by omega
        by_cases e2 : l = L
        · subst e2
          rw [memL, List.mem_filter]
          constructor
          · rintro ⟨a, b⟩
            have a' := (ok.mem l hl' s).mp a
            refine ⟨a'.1, ?_⟩
            rw [lot a'.1]
            rcases lotL s a'.1 b with ⟨c, d⟩ | ⟨c, d⟩
            · rw [if_neg d]; exact c
            · omega
          · rintro ⟨a, b⟩
            rw [lot a] at b
            by_cases d : s ∈ hs
            · rw [if_pos d] at b
              omega
            · rw [if_neg d] at b
              refine ⟨(ok.mem l hl' s).mpr ⟨a, b⟩, ?_⟩
              rw [setAll_get, if_neg (fun q => d q.1)]
              show (lotOf σ s == l) = true
              rw [b]
              exact beq_self_eq_true _
        · rw [memO l hl' e2, ok.mem l hl']
          constructor
          · rintro ⟨a, b⟩
            refine ⟨a, ?_⟩
            rw [lot a]
            by_cases d : s ∈ hs
            · have := (hit_lot ok h d).2
              omega
            · rw [if_neg d]; exact b
          · rintro ⟨a, b⟩
            rw [lot a] at b
            by_cases d : s ∈ hs
            · rw [if_pos d] at b; omega
            · rw [if_neg d] at b; exact ⟨a, b⟩
    · intro l hl
      rw [ml] at hl
      by_cases e1 : l = σ.members.length
      · subst e1; rw [memM]; exact h.nd
      · have hl' : l < σ.members.length := by omega
        by_cases e2 : l = L
        · subst e2; rw [memL]; exact nodup_filter (ok.nd _ hl')
        · rw [memO l hl' e2]; exact ok.nd l hl'
    · intro l hl
      rw [ml] at hl
      by_cases e1 : l = σ.members.length
      · subst e1; rw [memM]; exact h.ne
      · have hl' : l < σ.members.length := by omega
        by_cases e2 : l = L
        · subst e2
          obtain ⟨x, hx, hn⟩ := exists_out (ok.nd _ hl') hlt
          have hx' := (ok.mem l hl' x).mp hx
          refine ⟨x, ?_⟩
          rw [memL, List.mem_filter]
          refine ⟨hx, ?_⟩
          rw [setAll_get, if_neg (fun q => hn q.1)]
          show (lotOf σ x == l) = true
          rw [hx'.2]
          exact beq_self_eq_true _
        · rw [memO l hl' e2]; exact ok.ne l hl'
    · intro l hl
      rw [ml]
      unfold split at hl
      rw [if_pos hlt] at hl
      rcases List.mem_append.mp hl with a | a
      · have := ok.wlt l a; omega
      · have := List.mem_singleton.mp a
        rw [this]
        split <;> omega
  · rw [split_not hlt]; exact ok
/-! ### what holds of the lots that wait -/
/-- of two states of one lot, whose figures lead into unlike lots, one of these waits, or they differ by P -/
def Sep (n : Nat) (step : Nat → Nat) (P : Nat → Bool) (σ : S) : Prop := ∀ s t, s < n → t < n → lotOf σ s = lotOf σ t → lotOf σ (step s) ≠ lotOf σ (step t) →
  lotOf σ (step s) ∈ σ.waiting ∨ lotOf σ (step t) ∈ σ.waiting ∨ P (step s) ≠ P (step t)
theorem split_sep {step : Nat → Nat} {P : Nat → Bool} (ok : Ok n σ) (h : Hit σ T L hs) (hst : ∀ s, s < n → step s < n) (sp : Sep n step P σ) : Sep n step P (split σ L hs) := by
  by_cases hlt : hs.length < (mem σ L).length
  · have lot := @split_lot n σ L hs T ok h hlt
    have w : (split σ L hs).waiting = σ.waiting ++ [if !σ.waiting.contains L && decide (((mem σ L).filter fun s => (setAll σ.lots hs σ.members.length).getD s 0 == L).length < hs.length) then L else σ.members.length] := by
      unfold split
      rw [if_pos hlt]
    -- one of the two halves waits; both, if the lot waits
    have w1 : L ∈ (split σ L hs).waiting ∨ σ.members.length ∈ (split σ L hs).waiting := by
      rw [w]
      split
      · exact .inl (List.mem_append_right _ List.mem_cons_self)
      · exact .inr (List.mem_append_right _ List.mem_cons_self)
    have w2 : L ∈ σ.waiting → σ.members.length ∈ (split σ L hs).waiting := by
      intro q
      rw [w]
      have : σ.waiting.contains L = true := List.contains_iff_mem.mpr q
      simp [q]
    have wk : ∀ l, l ∈ σ.waiting → l ∈ (split σ L hs).waiting := by
      intro l q
      rw [w]
      exact List.mem_append_left _ q
    have lotB : ∀ s, s < n → lotOf σ s ∈ σ.waiting → lotOf (split σ L hs) s ∈ (split σ L hs).waiting := by
      intro s hs' q
      rw [lot hs']
      by_cases d : s ∈ hs
      · rw [if_pos d]
        exact w2 ((hit_lot ok h d).2 ▸ q)
      · rw [if_neg d]
        exact wk _ q
    have back : ∀ s t, s < n → t < n → lotOf (split σ L hs) s = lotOf (split σ L hs) t → lotOf σ s = lotOf σ t := by
      intro s t h1 h2 e
      rw [lot h1, lot h2] at e
      by_cases d1 : s ∈ hs
      · by_cases d2 : t ∈ hs
        · rw [(hit_lot ok h d1).2, (hit_lot ok h d2).2]
        · rw [if_pos d1, if_neg d2] at e
          have := ok.lt t h2
          omega
      · by_cases d2 : t ∈ hs
        · rw [if_neg d1, if_pos d2] at e
          have := ok.lt s h1
          omega
        · rw [if_neg d1, if_neg d2] at e
          exact e
    intro s t h1 h2 e ne
    have e0 := back s t h1 h2 e
    by_cases c : lotOf σ (step s) = lotOf σ (step t)
    · -- split apart just now: one of them is in hs, the other isn't
      rw [lot (hst s h1), lot (hst t h2)] at ne ⊢
      by_cases d1 : step s ∈ hs
      · by_cases d2 : step t ∈ hs
        · rw [if_pos d1, if_pos d2] at ne; exact absurd rfl ne
        · rw [if_pos d1, if_neg d2]
          have : lotOf σ (step t) = L := by rw [← c]; exact (hit_lot ok h d1).2
          rw [this]
          rcases w1 with q | q
          · exact .inr (.inl q)
          · exact .inl q
      · by_cases d2 : step t ∈ hs
        · rw [if_neg d1, if_pos d2]
          have : lotOf σ (step s) = L := by rw [c]; exact (hit_lot ok h d2).2
          rw [this]
          rcases w1 with q | q
          · exact .inl q
          · exact .inr (.inl q)
        · rw [if_neg d1, if_neg d2] at ne; exact absurd c ne
    · rcases sp s t h1 h2 e0 c with q | q | q
      · exact .inl (lotB _ (hst s h1) q)
      · exact .inr (.inl (lotB _ (hst t h2) q))
      · exact .inr (.inr q)
  · rw [split_not hlt]; exact sp
/-! ### all lots that are hit -/
/-- behind some of the lots that are hit -/
structure Prog (n : Nat) (σ0 : S) (T : Nat → Bool) (done : List Nat) (σ : S) : Prop where
  ok : Ok n σ
  grow : σ0.members.length ≤ σ.members.length
  keep : ∀ l, l < σ0.members.length → ¬ l ∈ done → mem σ l = mem σ0 l
  fine : ∀ s t, s < n → t < n → lotOf σ s = lotOf σ t → lotOf σ0 s = lotOf σ0 t
  even : ∀ s t, s < n → t < n → lotOf σ s = lotOf σ t → lotOf σ0 s ∈ done → T s = T t
theorem Prog.start (ok : Ok n σ) : Prog n σ T [] σ := ⟨ok, Nat.le_refl _, fun _ _ _ => rfl, fun _ _ _ _ e => e, fun _ _ _ _ _ q => absurd q List.not_mem_nil⟩
theorem split_mem_other {l : Nat} (hl : l < σ.members.length) (hne : l ≠ L) : mem (split σ L hs) l = mem σ l := by
  by_cases hlt : hs.length < (mem σ L).length
  · unfold split
    rw [if_pos hlt]
    unfold mem
    have : ¬ L = l := fun e => hne e.symm
    simp [List.getD_eq_getElem?_getD, List.getElem?_append, List.getElem?_set, hl, this]
  · rw [split_not hlt]
theorem split_grow : σ.members.length ≤ (split σ L hs).members.length := by
  by_cases hlt : hs.length < (mem σ L).length
  · rw [split_mlen hlt]; omega
  · rw [split_not hlt]; omega
theorem Prog.hit {σ0 : S} {done : List Nat} (p : Prog n σ0 T done σ) (h : Hit σ0 T L hs) (hd : ¬ L ∈ done) : Hit σ T L hs :=
  ⟨Nat.lt_of_lt_of_le h.lt p.grow, h.nd, h.ne, fun s => by rw [h.iff, p.keep L h.lt hd]⟩
theorem Prog.next {σ0 : S} {done : List Nat} (p : Prog n σ0 T done σ) (ok0 : Ok n σ0) (h0 : Hit σ0 T L hs) (hd : ¬ L ∈ done) : Prog n σ0 T (L :: done) (split σ L hs) := by
  have h := p.hit h0 hd
  refine ⟨split_ok p.ok h, Nat.le_trans p.grow split_grow, ?_, ?_, ?_⟩
  · intro l hl hn
    have n1 : l ≠ L := fun e => hn (e ▸ List.mem_cons_self)
    have n2 : ¬ l ∈ done := fun q => hn (List.mem_cons_of_mem _ q)
    rw [split_mem_other (Nat.lt_of_lt_of_le hl p.grow) n1]
    exact p.keep l hl n2
  · intro s t h1 h2 e
    by_cases hlt : hs.length < (mem σ L).length
    · have lot := @split_lot n σ L hs T p.ok h hlt
      rw [lot h1, lot h2] at e
      by_cases d1 : s ∈ hs
      · by_cases d2 : t ∈ hs
        · exact p.fine s t h1 h2 (by rw [(hit_lot p.ok h d1).2, (hit_lot p.ok h d2).2])
        · rw [if_pos d1, if_neg d2] at e
          have := p.ok.lt t h2; omega
      · by_cases d2 : t ∈ hs
        · rw [if_neg d1, if_pos d2] at e
          have := p.ok.lt s h1; omega
        · rw [if_neg d1, if_neg d2] at e
          exact p.fine s t h1 h2 e
    · rw [split_not hlt] at e
      exact p.fine s t h1 h2 e
  · intro s t h1 h2 e hm
    -- the old lots of both are alike
    have ef : lotOf σ s = lotOf σ t := by
      by_cases hlt : hs.length < (mem σ L).length
      · have lot := @split_lot n σ L hs T p.ok h hlt
        rw [lot h1, lot h2] at e
        by_cases d1 : s ∈ hs
        · by_cases d2 : t ∈ hs
          · rw [(hit_lot p.ok h d1).2, (hit_lot p.ok h d2).2]
          · rw [if_pos d1, if_neg d2] at e
            have := p.ok.lt t h2; omega
        · by_cases d2 : t ∈ hs
          · rw [if_neg d1, if_pos d2] at e
            have := p.ok.lt s h1; omega
          · rw [if_neg d1, if_neg d2] at e; exact e
      · rw [split_not hlt] at e; exact e
    rcases List.mem_cons.mp hm with q | q
    · -- the lot that is split now
      have ms : s ∈ mem σ L := by
        rw [p.keep L h0.lt hd]
        exact (ok0.mem L h0.lt s).mpr ⟨h1, q⟩
      have mt : t ∈ mem σ L := (p.ok.mem L h.lt t).mpr ⟨h2, by rw [← ef]; exact ((p.ok.mem L h.lt s).mp ms).2⟩
      have is := h.iff s
      have it := h.iff t
      by_cases hlt : hs.length < (mem σ L).length
      · have lot := @split_lot n σ L hs T p.ok h hlt
        rw [lot h1, lot h2] at e
        by_cases d1 : s ∈ hs
        · by_cases d2 : t ∈ hs
          · rw [(is.mp d1).2, (it.mp d2).2]
          · rw [if_pos d1, if_neg d2] at e
            have := p.ok.lt t h2; omega
        · by_cases d2 : t ∈ hs
          · rw [if_neg d1, if_pos d2] at e
            have := p.ok.lt s h1; omega
          · have f1 : T s = false := by
              cases z : T s with
              | false => rfl
              | true => exact absurd (is.mpr ⟨ms, z⟩) d1
            have f2 : T t = false := by
              cases z : T t with
              | false => rfl
              | true => exact absurd (it.mpr ⟨mt, z⟩) d2
            rw [f1, f2]
      · have a1 := nodup_sub_all h.nd (fun x hx => ((h.iff x).mp hx).1) (Nat.le_of_not_lt hlt) ms
        have a2 := nodup_sub_all h.nd (fun x hx => ((h.iff x).mp hx).1) (Nat.le_of_not_lt hlt) mt
        rw [(is.mp a1).2, (it.mp a2).2]
    · exact p.even s t h1 h2 ef q
end
section
variable {n : Nat} {σ : S} {T : Nat → Bool}
/-! ### the states that are hit, by their lots -/
def addHit : List (Nat × List Nat) → Nat → Nat → List (Nat × List Nat)
  | [], k, s => [(k, [s])]
  | (k', v) :: r, k, s => if k' = k then (k', v ++ [s]) :: r else (k', v) :: addHit r k s
def group (lots : List Nat) (kvs : List (Nat × List Nat)) (xs : List Nat) : List (Nat × List Nat) := xs.foldl (fun kvs s => addHit kvs (lots.getD s 0) s) kvs
theorem addHit_keys (k s : Nat) : ∀ kvs : List (Nat × List Nat), (addHit kvs k s).map (·.1) = if k ∈ kvs.map (·.1) then kvs.map (·.1) else kvs.map (·.1) ++ [k]
  | [] => by simp [addHit]
  | (k', v) :: r => by
    unfold addHit
    by_cases e : k' = k
    · simp [e]
    · have ih := addHit_keys k s r
      have e' : ¬ k = k' := fun q => e q.symm
      rw [if_neg e]
      simp only [List.map_cons, ih, List.mem_cons, e', false_or]
      split <;> simp
theorem addHit_mem (k s : Nat) : ∀ (kvs : List (Nat × List Nat)), (kvs.map (·.1)).Nodup → ∀ k' v', (k', v') ∈ addHit kvs k s →
    (k' ≠ k ∧ (k', v') ∈ kvs) ∨ (k' = k ∧ ((∃ v, (k, v) ∈ kvs ∧ v' = v ++ [s]) ∨ (¬ k ∈ kvs.map (·.1) ∧ v' = [s])))
  | [], _, k', v', h => by
    simp only [addHit, List.mem_singleton] at h
    cases h
    exact .inr ⟨rfl, .inr ⟨by simp, rfl⟩⟩
  | (k0, v0) :: r, hn, k', v', h => by
    unfold addHit at h
    have hn' := List.nodup_cons.mp (show ((k0 :: r.map (·.1))).Nodup from hn)
    by_cases e : k0 = k
    · rw [if_pos e] at h
      rcases List.mem_cons.mp h with q | q
      · cases q
        exact .inr ⟨e, .inl ⟨v0, by rw [e]; exact List.mem_cons_self, rfl⟩⟩
      · have : k' ≠ k := fun z => hn'.1 (by rw [e, ← z]; exact List.mem_map_of_mem (f := (·.1)) q)
        exact .inl ⟨this, List.mem_cons_of_mem _ q⟩
    · rw [if_neg e] at h
      rcases List.mem_cons.mp h with q | q
      · cases q
        exact .inl ⟨e, List.mem_cons_self⟩
      · rcases addHit_mem k s r hn'.2 k' v' q with ⟨a, b⟩ | ⟨a, ⟨v, b, c⟩ | ⟨b, c⟩⟩
        · exact .inl ⟨a, List.mem_cons_of_mem _ b⟩
        · exact .inr ⟨a, .inl ⟨v, List.mem_cons_of_mem _ b, c⟩⟩
        · refine .inr ⟨a, .inr ⟨?_, c⟩⟩
          have e' : ¬ k = k0 := fun q => e q.symm
          simp only [List.map_cons, List.mem_cons, e', false_or]
          exact b
/-- what a table of the hit states is, behind xs -/
structure Grouped (lots xs : List Nat) (kvs : List (Nat × List Nat)) : Prop where
  nd : (kvs.map (·.1)).Nodup
  val : ∀ k v, (k, v) ∈ kvs → v = xs.filter (fun s => lots.getD s 0 == k) ∧ v ≠ []
  has : ∀ s, s ∈ xs → lots.getD s 0 ∈ kvs.map (·.1)
theorem Grouped.nil (lots : List Nat) : Grouped lots [] [] := ⟨List.nodup_nil, fun _ _ h => absurd h List.not_mem_nil, fun _ h => absurd h List.not_mem_nil⟩
theorem Grouped.more {lots xs : List Nat} {kvs : List (Nat × List Nat)} (g : Grouped lots xs kvs) (s : Nat) : Grouped lots (xs ++ [s]) (addHit kvs (lots.getD s 0) s) := by
  have hk := addHit_keys (lots.getD s 0) s kvs
  refine ⟨?_, ?_, ?_⟩
  · rw [hk]
    split
    · exact g.nd
    · rename_i c
      exact List.nodup_append.mpr ⟨g.nd, by simp, fun a ha b hb => by
        have := List.mem_singleton.mp hb
        intro e
        exact c (by rw [← this, ← e]; exact ha)⟩
  · intro k v h
    rw [List.filter_append]
    rcases addHit_mem _ _ kvs g.nd k v h with ⟨a, b⟩ | ⟨a, ⟨w, b, c⟩ | ⟨b, c⟩⟩
    · obtain ⟨e1, e2⟩ := g.val k v b
      have : (lots.getD s 0 == k) = false := by simpa using fun q => a q.symm
      refine ⟨?_, e2⟩
      rw [List.filter_cons, this]
      simpa using e1
    · obtain ⟨e1, e2⟩ := g.val _ w b
      subst a
      refine ⟨?_, by rw [c]; simp⟩
      rw [c, e1]
      congr 1
      simp
    · subst a
      have : xs.filter (fun t => lots.getD t 0 == lots.getD s 0) = [] := by
        rw [List.filter_eq_nil_iff]
        intro t ht q
        exact b ((eq_of_beq q) ▸ g.has t ht)
      refine ⟨?_, by rw [c]; simp⟩
      rw [this, c]
      simp
  · intro t ht
    rw [hk]
    rcases List.mem_append.mp ht with q | q
    · have := g.has t q
      split
      · exact this
      · exact List.mem_append_left _ this
    · have := List.mem_singleton.mp q
      subst this
      split
      · assumption
      · exact List.mem_append_right _ List.mem_cons_self
theorem Grouped.hit {xs : List Nat} {kvs : List (Nat × List Nat)} (g : Grouped σ.lots xs kvs) (ok : Ok n σ) (hx : xs.Nodup) (hT : ∀ s, s ∈ xs ↔ s < n ∧ T s = true) {L : Nat} {hs : List Nat} (h : (L, hs) ∈ kvs) : Hit σ T L hs := by
  obtain ⟨e1, e2⟩ := g.val L hs h
  have iff1 : ∀ s, s ∈ hs ↔ s ∈ xs ∧ lotOf σ s = L := fun s => by
    rw [e1, List.mem_filter]
    exact ⟨fun ⟨a, b⟩ => ⟨a, eq_of_beq b⟩, fun ⟨a, b⟩ => ⟨a, by show (lotOf σ s == L) = true; rw [b]; exact beq_self_eq_true _⟩⟩
  obtain ⟨s, hs'⟩ := List.exists_mem_of_ne_nil hs e2
  have h1 := (iff1 s).mp hs'
  have hL : L < σ.members.length := h1.2 ▸ ok.lt s ((hT s).mp h1.1).1
  refine ⟨hL, by rw [e1]; exact nodup_filter hx, ⟨s, hs'⟩, fun t => ?_⟩
  rw [iff1, hT, ok.mem L hL]
  constructor
  · rintro ⟨⟨a, b⟩, c⟩
    exact ⟨⟨a, c⟩, b⟩
  · rintro ⟨⟨a, c⟩, b⟩
    exact ⟨⟨a, b⟩, c⟩
/-- all lots that are hit have been gone over: two states of one lot are both hit or both not -/
theorem Prog.all {σ0 : S} {done xs : List Nat} {kvs : List (Nat × List Nat)} (p : Prog n σ0 T done σ) (g : Grouped σ0.lots xs kvs) (hT : ∀ s, s ∈ xs ↔ s < n ∧ T s = true) (hd : ∀ k, k ∈ kvs.map (·.1) → k ∈ done)
    {s t : Nat} (h1 : s < n) (h2 : t < n) (e : lotOf σ s = lotOf σ t) : T s = T t := by
  by_cases c : lotOf σ0 s ∈ done
  · exact p.even s t h1 h2 e c
  · have e0 := p.fine s t h1 h2 e
    have f : ∀ r, r < n → lotOf σ0 r = lotOf σ0 s → T r = false := fun r hr q => by
      cases z : T r with
      | false => rfl
      | true => exact absurd (hd _ (g.has r ((hT r).mpr ⟨hr, z⟩))) (by rw [show σ0.lots.getD r 0 = lotOf σ0 r from rfl, q]; exact c)
    rw [f s h1 rfl, f t h2 e0.symm]
/-! ### what is kept over all -/
/-- R's states stay together -/
def Resp (n : Nat) (R : Nat → Nat → Prop) (σ : S) : Prop := ∀ s t, s < n → t < n → R s t → lotOf σ s = lotOf σ t
theorem split_resp {R : Nat → Nat → Prop} {L : Nat} {hs : List Nat} (ok : Ok n σ) (h : Hit σ T L hs) (hR : ∀ s t, s < n → t < n → R s t → T s = T t) (r : Resp n R σ) : Resp n R (split σ L hs) := by
  by_cases hlt : hs.length < (mem σ L).length
  · have lot := @split_lot n σ L hs T ok h hlt
    intro s t h1 h2 q
    have e := r s t h1 h2 q
    have eT := hR s t h1 h2 q
    rw [lot h1, lot h2]
    by_cases d1 : s ∈ hs
    · have ms := (h.iff s).mp d1
      have mt : t ∈ hs := (h.iff t).mpr ⟨(ok.mem L h.lt t).mpr ⟨h2, by rw [← e]; exact ((ok.mem L h.lt s).mp ms.1).2⟩, by rw [← eT]; exact ms.2⟩
      rw [if_pos d1, if_pos mt]
    · have nt : ¬ t ∈ hs := fun d2 => by
        have mt := (h.iff t).mp d2
        exact d1 ((h.iff s).mpr ⟨(ok.mem L h.lt s).mpr ⟨h1, by rw [e]; exact ((ok.mem L h.lt t).mp mt.1).2⟩, by rw [eT]; exact mt.2⟩)
      rw [if_neg d1, if_neg nt]
      exact e
  · rw [split_not hlt]; exact r
/-- the lots tell the marks -/
def Marks {M : Type} (n : Nat) (mark : Nat → M) (σ : S) : Prop := ∀ s t, s < n → t < n → lotOf σ s = lotOf σ t → mark s = mark t
/-- one lot is split: what is carried. P: what is in the lot that splits now (as states); i: which figures are through -/
structure Carry {M : Type} (n b : Nat) (step : Nat → Nat → Nat) (mark : Nat → M) (R : Nat → Nat → Prop) (P : Nat → Bool) (i : Nat) (σ : S) : Prop where
  ok : Ok n σ
  old : ∀ a, a < i → a < b → Sep n (fun s => step s a) (fun _ => false) σ
  now : ∀ a, i ≤ a → a < b → Sep n (fun s => step s a) P σ
  resp : Resp n R σ
  marks : Marks n mark σ
theorem Carry.split {M : Type} {b : Nat} {step : Nat → Nat → Nat} {mark : Nat → M} {R : Nat → Nat → Prop} {P : Nat → Bool} {i : Nat} {L : Nat} {hs : List Nat} (c : Carry n b step mark R P i σ) (h : Hit σ T L hs)
    (hst : ∀ s a, s < n → a < b → step s a < n) (hR : ∀ s t, s < n → t < n → R s t → T s = T t) : Carry n b step mark R P i (split σ L hs) := by
  refine ⟨split_ok c.ok h, fun a ha hb => split_sep c.ok h (fun s hs' => hst s a hs' hb) (c.old a ha hb), fun a ha hb => split_sep c.ok h (fun s hs' => hst s a hs' hb) (c.now a ha hb), split_resp c.ok h hR c.resp, ?_⟩
  intro s t h1 h2 e
  have p := (Prog.start (T := T) c.ok).next c.ok h List.not_mem_nil
  exact c.marks s t h1 h2 (p.fine s t h1 h2 e)
/-- a figure is through -/
theorem Carry.next {M : Type} {b : Nat} {step : Nat → Nat → Nat} {mark : Nat → M} {R : Nat → Nat → Prop} {P : Nat → Bool} {i : Nat} (c : Carry n b step mark R P i σ)
    (hev : ∀ s t, s < n → t < n → lotOf σ s = lotOf σ t → P (step s i) = P (step t i)) : Carry n b step mark R P (i + 1) σ := by
  refine ⟨c.ok, fun a ha hb => ?_, fun a ha hb => c.now a (by omega) hb, c.resp, c.marks⟩
  by_cases e : a = i
  · subst e
    intro s t h1 h2 q ne
    rcases c.now a (Nat.le_refl _) hb s t h1 h2 q ne with x | x | x
    · exact .inl x
    · exact .inr (.inl x)
    · exact absurd (hev s t h1 h2 q) x
  · exact c.old a (by omega) hb
/-- between two turns -/
abbrev Still {M : Type} (n b : Nat) (step : Nat → Nat → Nat) (mark : Nat → M) (R : Nat → Nat → Prop) (σ : S) : Prop := Carry n b step mark R (fun _ => false) b σ
/-- the last lot that waits is taken -/
theorem Carry.pop {M : Type} {b : Nat} {step : Nat → Nat → Nat} {mark : Nat → M} {R : Nat → Nat → Prop} {w : List Nat} {p : Nat} (c : Still n b step mark R σ) (hw : σ.waiting = w ++ [p]) (hst : ∀ s a, s < n → a < b → step s a < n) :
    Carry n b step mark R (fun x => (mem σ p).contains x) 0 { σ with waiting := w } := by
  have hp : p < σ.members.length := c.ok.wlt p (by rw [hw]; exact List.mem_append_right _ List.mem_cons_self)
  refine ⟨⟨c.ok.len, c.ok.lt, c.ok.mem, c.ok.nd, c.ok.ne, fun l hl => c.ok.wlt l (by rw [hw]; exact List.mem_append_left _ hl)⟩, fun a ha _ => absurd ha (Nat.not_lt_zero _), fun a _ hb => ?_, c.resp, c.marks⟩
  intro s t h1 h2 q ne
  have hP : ∀ x, x < n → ((mem σ p).contains x = true ↔ lotOf σ x = p) := fun x hx => by
    rw [List.contains_iff_mem, c.ok.mem p hp]
    exact ⟨fun z => z.2, fun z => ⟨hx, z⟩⟩
  have case1 : ∀ u v, u < n → v < n → lotOf σ u ≠ lotOf σ v → lotOf σ u ∈ σ.waiting → lotOf σ u ∈ w ∨ (mem σ p).contains u ≠ (mem σ p).contains v := by
    intro u v hu hv hne hm
    rw [hw] at hm
    rcases List.mem_append.mp hm with z | z
    · exact .inl z
    · have z := List.mem_singleton.mp z
      refine .inr ?_
      rw [(hP u hu).mpr z]
      intro e
      exact hne (by rw [z, (hP v hv).mp e.symm])
  have hs' := hst s a h1 hb
  have ht' := hst t a h2 hb
  rcases c.old a hb hb s t h1 h2 q ne with z | z | z
  · rcases case1 _ _ hs' ht' ne z with y | y
    · exact .inl y
    · exact .inr (.inr y)
  · rcases case1 _ _ ht' hs' (Ne.symm ne) z with y | y
    · exact .inr (.inl y)
    · exact .inr (.inr (Ne.symm y))
  · exact absurd rfl z
theorem Carry.done {M : Type} {b : Nat} {step : Nat → Nat → Nat} {mark : Nat → M} {R : Nat → Nat → Prop} {P : Nat → Bool} (c : Carry n b step mark R P b σ) : Still n b step mark R σ :=
  ⟨c.ok, c.old, fun a ha hb => absurd hb (by omega), c.resp, c.marks⟩
/-! ### the end -/
def runs (step : Nat → Nat → Nat) (s : Nat) (w : List Nat) : Nat := w.foldl step s
/-- no figures behind tell two states apart -/
def Alike {M : Type} (b : Nat) (step : Nat → Nat → Nat) (mark : Nat → M) (s t : Nat) : Prop := ∀ w : List Nat, (∀ a, a ∈ w → a < b) → mark (runs step s w) = mark (runs step t w)
theorem Alike.step {M : Type} {b : Nat} {step : Nat → Nat → Nat} {mark : Nat → M} {s t a : Nat} (h : Alike b step mark s t) (ha : a < b) : Alike b step mark (step s a) (step t a) := fun w hw =>
  h (a :: w) fun x hx => by
    rcases List.mem_cons.mp hx with q | q
    · exact q ▸ ha
    · exact hw x q
theorem Still.alike {M : Type} {b : Nat} {step : Nat → Nat → Nat} {mark : Nat → M} {R : Nat → Nat → Prop} (c : Still n b step mark R σ) (hst : ∀ s a, s < n → a < b → step s a < n) (hw : σ.waiting = []) :
    ∀ (w : List Nat) (s t : Nat), s < n → t < n → lotOf σ s = lotOf σ t → (∀ a, a ∈ w → a < b) → mark (runs step s w) = mark (runs step t w)
  | [], s, t, h1, h2, e, _ => c.marks s t h1 h2 e
  | a :: w, s, t, h1, h2, e, hb => by
    have ha := hb a List.mem_cons_self
    refine Still.alike c hst hw w (step s a) (step t a) (hst s a h1 ha) (hst t a h2 ha) ?_ fun x hx => hb x (List.mem_cons_of_mem _ hx)
    by_cases q : lotOf σ (step s a) = lotOf σ (step t a)
    · exact q
    · rcases c.old a ha ha s t h1 h2 e q with z | z | z
      · rw [hw] at z; exact absurd z List.not_mem_nil
      · rw [hw] at z; exact absurd z List.not_mem_nil
      · exact absurd rfl z
theorem Still.iff {M : Type} {b : Nat} {step : Nat → Nat → Nat} {mark : Nat → M} (c : Still n b step mark (Alike b step mark) σ) (hst : ∀ s a, s < n → a < b → step s a < n) (hw : σ.waiting = []) {s t : Nat} (h1 : s < n) (h2 : t < n) :
    lotOf σ s = lotOf σ t ↔ Alike b step mark s t := ⟨fun e w hb => Still.alike c hst hw w s t h1 h2 e hb, c.resp s t h1 h2⟩
/-- a state of each lot, no two of them alike -/
theorem reps {R : Nat → Nat → Prop} (ok : Ok n σ) (r : Resp n R σ) : ∀ k, k ≤ σ.members.length → ∃ ss : List Nat, ss.length = k ∧ (∀ s, s ∈ ss → s < n ∧ lotOf σ s < k) ∧ ss.Nodup ∧ ss.Pairwise (fun s t => ¬ R s t ∧ ¬ R t s)
  | 0, _ => ⟨[], rfl, fun _ h => absurd h List.not_mem_nil, List.nodup_nil, List.Pairwise.nil⟩
  | k + 1, hk => by
    obtain ⟨ss, e, h, nd, pw⟩ := reps ok r k (by omega)
    obtain ⟨s, hs⟩ := ok.ne k (by omega)
    have hs' := (ok.mem k (by omega) s).mp hs
    have ne : ∀ t, t ∈ ss → lotOf σ t ≠ lotOf σ s := fun t ht q => by
      have := (h t ht).2
      rw [q, hs'.2] at this
      omega
    refine ⟨s :: ss, by simp [e], ?_, ?_, ?_⟩
    · intro t ht
      rcases List.mem_cons.mp ht with q | q
      · subst q; exact ⟨hs'.1, by omega⟩
      · have := h t q; exact ⟨this.1, by omega⟩
    · exact List.nodup_cons.mpr ⟨fun q => ne s q rfl, nd⟩
    · exact List.pairwise_cons.mpr ⟨fun t ht => ⟨fun q => ne t ht (r s t hs'.1 (h t ht).1 q).symm, fun q => ne t ht (r t s (h t ht).1 hs'.1 q)⟩, pw⟩
theorem Ok.le (ok : Ok n σ) : σ.members.length ≤ n := by
  obtain ⟨ss, e, h, nd, _⟩ := reps (R := fun _ _ => False) ok (fun _ _ _ _ q => q.elim) σ.members.length (Nat.le_refl _)
  have := nodup_sub_len nd (k := List.range n) fun s hs => List.mem_range.mpr (h s hs).1
  rw [List.length_range] at this
  omega
/-- the measure: it falls by each lot that is taken, and doesn't grow by a split -/
def meas (n : Nat) (σ : S) : Nat := 2 * (n - σ.members.length) + σ.waiting.length
theorem split_meas {L : Nat} {hs : List Nat} (ok : Ok n σ) (h : Hit σ T L hs) : meas n (split σ L hs) ≤ meas n σ := by
  by_cases hlt : hs.length < (mem σ L).length
  · have a := (split_ok ok h).le
    have b := split_mlen hlt
    have w : (split σ L hs).waiting.length = σ.waiting.length + 1 := by
      unfold split
      rw [if_pos hlt]
      simp
    unfold meas
    omega
  · rw [split_not hlt]; exact Nat.le_refl _
end
end Hop

namespace B
open PySem L2 MK Hop
/-! ### lists of numbers -/
def nv (xs : List Nat) : List V := xs.map fun (n : Nat) => V.int (n : Int)
theorem nv_len (xs : List Nat) : (nv xs).length = xs.length := by simp [nv]
theorem nv_get {xs : List Nat} {i : Nat} {x : Nat} (h : xs[i]? = some x) : (nv xs)[i]? = some (V.int x) := by simp [nv, h]
theorem nv_at {xs : List Nat} {i : Nat} {y : V} (h : (nv xs)[i]? = some y) : ∃ x, xs[i]? = some x ∧ y = V.int (x : Int) := by
  simp only [nv, List.getElem?_map, Option.map_eq_some_iff] at h
  obtain ⟨x, h1, h2⟩ := h
  exact ⟨x, h1, h2.symm⟩
theorem nv_snoc (xs : List Nat) (x : Nat) : nv xs ++ [V.int x] = nv (xs ++ [x]) := by simp [nv]
theorem nv_set (xs : List Nat) (i x : Nat) : (nv xs).set i (V.int x) = nv (xs.set i x) := by simp [nv, List.map_set]
theorem take_snoc {α : Type} {l : List α} {i : Nat} {x : α} (h : l[i]? = some x) : l.take (i + 1) = l.take i ++ [x] := by
  obtain ⟨h1, h2⟩ := List.getElem?_eq_some_iff.mp h
  rw [List.take_add_one, h]
  rfl
/-! ### lots by marks -/
def kvOf (ks : List (Option Bool)) : List (Option Bool × V) := ks.zipIdx.map fun p => (p.1, V.int (p.2 : Int))
theorem kvOf_len (ks : List (Option Bool)) : (kvOf ks).length = ks.length := by simp [kvOf]
theorem kvOf_snoc (ks : List (Option Bool)) (m : Option Bool) : kvOf (ks ++ [m]) = kvOf ks ++ [(m, V.int (ks.length : Nat))] := by simp [kvOf, List.zipIdx_append]
theorem valV_kvOf : ∀ (ks : List (Option Bool)) (o : Nat) (m : Option Bool), valV ((ks.zipIdx o).map fun p => (p.1, V.int (p.2 : Int))) m = if m ∈ ks then some (V.int ((o + idx ks m : Nat) : Int)) else none
  | [], o, m => by simp [valV]
  | k :: ks, o, m => by
    rw [List.zipIdx_cons, List.map_cons]
    by_cases e : k = m
    · subst e
      rw [valV_pos rfl, idx_cons, if_pos rfl]
      simp
    · rw [valV_neg e, valV_kvOf ks (o + 1) m]
      have e' : ¬ m = k := fun z => e z.symm
      by_cases c : m ∈ ks
      · rw [if_pos c, if_pos (List.mem_cons_of_mem _ c), idx_cons, if_neg e]
        congr 2
        omega
      · rw [if_neg c, if_neg (by simp [e', c])]
/-- lots by marks of any kind: how marks lie in the heap is told by Rep -/
abbrev RepT (μ : Type) := Hp → List (Option μ) → List V → Prop
def spLbmG {μ : Type} [DecidableEq μ] (K : PySem.W.Frag) (Rep : RepT μ) : Sp := fun vs H Q _ => ∃ (a : Addr) (ms : List (Option μ)) (ws : List V), vs = [.ref a] ∧ SqL K H a ws ∧ Rep H ms ws ∧ ws.length = ms.length ∧ ms.length ≤ 100000 ∧
  ∀ p H', H p = none → Same H H' → H' p = some (.lst (nv (lotsOf ms))) → Q (.ref p) H'
def RepB : RepT Bool := fun _ ms ws => ws = ms.map mV
def spLbm (K : PySem.W.Frag) : Sp := fun vs H Q _ => ∃ (a : Addr) (ms : List (Option Bool)), vs = [.ref a] ∧ SqL K H a (ms.map mV) ∧ ms.length ≤ 100000 ∧
  ∀ p H', H p = none → Same H H' → H' p = some (.lst (nv (lotsOf ms))) → Q (.ref p) H'
section
variable {P : Program} {w : World} {K : PySem.W.Frag} {mg : Str → Option Value} {base : Heap}
theorem lbm_imp : ∀ vs H Q E, spLbmG K RepB vs H Q E → spLbm K vs H Q E := by
  rintro vs H Q E ⟨a, ms, ws, rfl, h1, h2, h3, h4, q⟩
  have h2 : ws = ms.map mV := h2
  subst h2
  exact ⟨a, ms, rfl, h1, h4, q⟩
end
end B

namespace L2
open PySem PySem.Spec PyProof.Rows
theorem for_enumL {K : PySem.W.Frag} {a : Addr} {xs : List V} {g : TG} {tb : TS} {D : Ends} {σ : St} {H : Hp} (Pv : Nat → St → Hp → Prop) (h0 : Pv 0 σ H) (hl : ∀ i σ H, i ≤ xs.length → Pv i σ H → SqL K H a xs)
    (hs : ∀ i x σ H T, xs[i]? = some x → Pv i σ H → H T = none → g (.ref T) σ (upd H T (.tup [.int (i : Nat), x])) fun σ2 H2 => tb { D with nx := Pv (i + 1), ct := Pv (i + 1), bk := D.nx } σ2 H2) (hd : ∀ σ H, Pv xs.length σ H → D.nx σ H) :
    ∃ W : Nat → Nat → St → Hp → Prop, (∃ m, W 0 m σ H) ∧ ∀ i m σ H, W i m σ H →
      ((Ite K a).stop i H ∧ D.nx σ H) ∨ ((Ite K a).go i H ∧ ∃ N : St → Hp → Prop, (∀ σ' H', N σ' H' → ∃ m', m' < m ∧ W (i + 1) m' σ' H') ∧ ∀ x H', (Ite K a).yld i H x H' → g x σ H' fun σ2 H2 => tb { D with nx := N, ct := N, bk := D.nx } σ2 H2) := by
  refine ⟨fun i m σ H => m = xs.length - i ∧ i ≤ xs.length ∧ Pv i σ H, ⟨xs.length, by simp, Nat.zero_le _, h0⟩, ?_⟩
  rintro i m σ H ⟨rfl, hi, p⟩
  have q := hl i σ H hi p
  by_cases hlt : i < xs.length
  · refine .inr ⟨⟨xs, xs[i], q, by simp [hlt]⟩, Pv (i + 1), fun σ' H' p' => ⟨xs.length - (i + 1), by omega, rfl, hlt, p'⟩, fun x H' y => ?_⟩
    obtain ⟨T, z, rfl, hT, rfl, y⟩ := y
    exact hs i z _ _ T (y xs q) p hT
  · have e : i = xs.length := by omega
    subst e
    exact .inl ⟨⟨xs, q, Nat.le_refl _⟩, hd _ _ p⟩
end L2
namespace B
open PySem L2 MK Hop
/-! ### lists of lists of numbers -/
structure Lol (H : Hp) (p : Addr) (as : List Addr) (xss : List (List Nat)) : Prop where
  top : H p = some (.lst (as.map V.ref))
  nd : as.Nodup
  np : ¬ p ∈ as
  len : as.length = xss.length
  cell : ∀ l a, as[l]? = some a → H a = some (.lst (nv (xss.getD l [])))
theorem Lol.get {H : Hp} {p : Addr} {as : List Addr} {xss : List (List Nat)} (h : Lol H p as xss) {l : Nat} (hl : l < xss.length) : ∃ a, as[l]? = some a ∧ a ∈ as ∧ (as.map V.ref)[l]? = some (V.ref a) ∧ H a = some (.lst (nv (xss.getD l []))) := by
  have hl' : l < as.length := by rw [h.len]; exact hl
  have e := List.getElem?_eq_getElem hl'
  exact ⟨as[l], e, List.getElem_mem hl', by simp [e], h.cell l _ e⟩
theorem Lol.at {H H' : Hp} {p : Addr} {as : List Addr} {xss : List (List Nat)} (h : Lol H p as xss) (k : ∀ b o, b = p ∨ b ∈ as → H b = some o → H' b = some o) : Lol H' p as xss :=
  ⟨k _ _ (.inl rfl) h.top, h.nd, h.np, h.len, fun l a e => k _ _ (.inr (List.mem_of_getElem? e)) (h.cell l a e)⟩
theorem Lol.same {H H' : Hp} {p : Addr} {as : List Addr} {xss : List (List Nat)} (h : Lol H p as xss) (k : Same H H') : Lol H' p as xss := h.at fun b o _ e => k b o e
theorem Lol.put {H : Hp} {p a : Addr} {as : List Addr} {xss : List (List Nat)} {l : Nat} (ys : List Nat) (h : Lol H p as xss) (ha : as[l]? = some a) : Lol (upd H a (.lst (nv ys))) p as (xss.set l ys) := by
  have am : a ∈ as := List.mem_of_getElem? ha
  have hl : l < as.length := (List.getElem?_eq_some_iff.mp ha).1
  refine ⟨by rw [upd_ne (fun z : p = a => h.np (z ▸ am))]; exact h.top, h.nd, h.np, by rw [List.length_set]; exact h.len, fun l' a' e => ?_⟩
  by_cases c : l' = l
  · subst c
    have : a' = a := Option.some.inj (e.symm.trans ha)
    subst this
    rw [upd_same, List.getD_eq_getElem?_getD, List.getElem?_set_self (by rw [← h.len]; exact hl)]
    rfl
  · have na : a' ≠ a := fun z => c (nd_ix h.nd (z ▸ e) ha)
    rw [upd_ne na, h.cell l' a' e, List.getD_eq_getElem?_getD, List.getD_eq_getElem?_getD, List.getElem?_set_ne (fun z => c z.symm)]
/-- a list of new empty lists, as a comprehension makes it -/
structure Fresh (H : Hp) (D : Addr) (n : Nat) (H' : Hp) : Prop where
  same : Same H H'
  ex : ∃ as : List Addr, Lol H' D as (List.replicate n []) ∧ ∀ a, a ∈ as → H a = none
theorem Fresh.start {H : Hp} {D : Addr} (hD : H D = none) : Fresh H D 0 (upd H D (.lst [])) :=
  ⟨fun b o e => by rw [upd_ne (ne_of_none e hD)]; exact e, [], ⟨upd_same, List.nodup_nil, List.not_mem_nil, rfl, fun l a e => by simp at e⟩, fun a h => absurd h List.not_mem_nil⟩
theorem Fresh.more {H H' : Hp} {D p : Addr} {n : Nat} (f : Fresh H D n H') (hD : H D = none) (hp : H' p = none) (hz : n < sizeLine) :
    ∃ acc, (upd H' p (.lst [])) D = some (.lst acc) ∧ acc.length < sizeLine ∧ Fresh H D (n + 1) (upd (upd H' p (.lst [])) D (.lst (acc ++ [V.ref p]))) := by
  obtain ⟨as, L, fr⟩ := f.ex
  have pD : D ≠ p := ne_of_none L.top hp
  have al : as.length = n := by rw [L.len]; simp
  refine ⟨as.map V.ref, by rw [upd_ne pD]; exact L.top, by rw [List.length_map, al]; exact hz, fun b o e => ?_, as ++ [p], ⟨?_, ?_, ?_, ?_, ?_⟩, ?_⟩
  · rw [upd_ne (ne_of_none e hD), upd_ne (ne_of_none (f.same _ _ e) hp)]
    exact f.same _ _ e
  · rw [upd_same]; simp
  · refine List.nodup_append.mpr ⟨L.nd, by simp, fun a ha b hb e => ?_⟩
    have := List.mem_singleton.mp hb
    subst this
    subst e
    obtain ⟨l, hl⟩ := List.getElem?_of_mem ha
    rw [L.cell l _ hl] at hp
    cases hp
  · intro m
    rcases List.mem_append.mp m with m | m
    · exact L.np m
    · exact pD (List.mem_singleton.mp m)
  · simp [al]
  · intro l a e
    rw [List.getElem?_append] at e
    by_cases c : l < as.length
    · rw [if_pos c] at e
      have aD : a ≠ D := fun z => L.np (z ▸ List.mem_of_getElem? e)
      have ap : a ≠ p := ne_of_none (L.cell l a e) hp
      rw [upd_ne aD, upd_ne ap, L.cell l a e]
      congr 2
      simp [List.getD_eq_getElem?_getD, List.getElem?_replicate]
      split <;> split <;> rfl
    · rw [if_neg c] at e
      have e2 : a = p := by
        by_cases z : l - as.length = 0
        · rw [z] at e; exact (Option.some.inj e).symm
        · simp [z] at e
      subst e2
      rw [upd_ne pD.symm, upd_same]
      congr 2
      simp [List.getD_eq_getElem?_getD, List.getElem?_replicate, nv]
      split <;> rfl
  · intro a ha
    rcases List.mem_append.mp ha with m | m
    · exact fr a m
    · rw [List.mem_singleton.mp m]
      exact f.same.free hp
/-! ### buckets: which states are of a number -/
def buckets (n : Nat) (fs : List Nat) (i : Nat) : List (List Nat) := (List.range n).map fun l => (List.range i).filter fun s => fs.getD s 0 == l
theorem buckets_len (n : Nat) (fs : List Nat) (i : Nat) : (buckets n fs i).length = n := by simp [buckets]
theorem buckets_zero (n : Nat) (fs : List Nat) : buckets n fs 0 = List.replicate n [] := by
  apply List.ext_getElem
  · simp [buckets]
  · intro i h1 h2
    simp [buckets]
theorem buckets_get {n : Nat} {fs : List Nat} {i l : Nat} (h : l < n) : (buckets n fs i).getD l [] = (List.range i).filter fun s => fs.getD s 0 == l := by
  simp [buckets, List.getD_eq_getElem?_getD, h]
theorem buckets_succ {n : Nat} {fs : List Nat} {i x : Nat} (hx : fs[i]? = some x) (hn : x < n) : buckets n fs (i + 1) = (buckets n fs i).set x ((buckets n fs i).getD x [] ++ [i]) := by
  apply List.ext_getElem?
  intro l
  by_cases c : l < n
  · have e : fs[i]?.getD 0 = x := by simp [hx]
    by_cases d : x = l
    · subst d
      rw [List.getElem?_set_self (by rw [buckets_len]; exact c)]
      rw [buckets_get c]
      simp [buckets, c, List.range_succ, List.filter_append, e]
    · rw [List.getElem?_set_ne d]
      simp [buckets, c, List.range_succ, List.filter_append, e, d]
  · rw [List.getElem?_eq_none (by rw [buckets_len]; omega), List.getElem?_eq_none (by rw [List.length_set, buckets_len]; omega)]
end B

namespace B
open PySem L2 MK Hop
theorem nvZ (ls : List Nat) : nv ls = (ls.map (fun (n : Nat) => (n : Int))).map V.int := by simp [nv, List.map_map, Function.comp_def]
/-- a new list of lists is handed back -/
def GivesLol (H : Hp) (xss : List (List Nat)) (Q : VK) : Prop := ∀ p as H', H p = none → Same H H' → Lol H' p as xss → (∀ a, a ∈ as → H a = none) → Q (.ref p) H'
def spMem (K : PySem.W.Frag) : Sp := fun vs H Q _ => ∃ (a : Addr) (ls : List Nat) (n : Nat), vs = [.ref a] ∧ SqL K H a (nv ls) ∧ ls.length ≤ 100000 ∧ n ≤ 100000 ∧ (∀ x, x ∈ ls → x < n) ∧ (n - 1) ∈ ls ∧ GivesLol H (buckets n ls ls.length) Q
/-- a list of lists of numbers that is read only -/
structure RowsL (K : PySem.W.Frag) (H : Hp) (a : Addr) (rows : List (List Nat)) : Prop where
  ex : ∃ rs : List Addr, SqL K H a (rs.map V.ref) ∧ rs.length = rows.length ∧ ∀ i r, rs[i]? = some r → SqL K H r (nv (rows.getD i []))
theorem RowsL.same {K : PySem.W.Frag} {H H' : Hp} {a : Addr} {rows : List (List Nat)} (h : RowsL K H a rows) (s : Same H H') : RowsL K H' a rows := by
  obtain ⟨rs, h1, h2, h3⟩ := h.ex
  exact ⟨rs, s.seq h1, h2, fun i r e => s.seq (h3 i r e)⟩
theorem RowsL.row {K : PySem.W.Frag} {H : Hp} {a : Addr} {rows : List (List Nat)} (h : RowsL K H a rows) : ∃ xs : List V, SqL K H a xs ∧ xs.length = rows.length ∧ ∀ i, i < rows.length → ∃ r, xs[i]? = some (.ref r) ∧ SqL K H r (nv (rows.getD i [])) := by
  obtain ⟨rs, h1, h2, h3⟩ := h.ex
  refine ⟨_, h1, by simp [h2], fun i hi => ?_⟩
  have hi' : i < rs.length := by omega
  exact ⟨rs[i], by simp [hi'], h3 i _ (List.getElem?_eq_getElem hi')⟩
/-- the column of a figure -/
def col (rows : List (List Nat)) (f : Nat) : List Nat := rows.map fun r => r.getD f 0
def spBack (K : PySem.W.Frag) : Sp := fun vs H Q _ => ∃ (a : Addr) (rows : List (List Nat)) (f : Nat), vs = [.ref a, .int f] ∧ RowsL K H a rows ∧ rows.length ≤ 100000 ∧ (∀ r, r ∈ rows → f < r.length ∧ ∀ x, x ∈ r → x < rows.length) ∧
  GivesLol H (buckets rows.length (col rows f) rows.length) Q
section
variable {P : Program} {w : World} {K : PySem.W.Frag} {mg : Str → Option Value} {base : Heap}
end
end B

namespace Hop
theorem addHit_at (k s : Nat) : ∀ (kvs : List (Nat × List Nat)) (i : Nat) (v : List Nat), kvs[i]? = some (k, v) → (∀ j w, j < i → kvs[j]? ≠ some (k, w)) → addHit kvs k s = kvs.set i (k, v ++ [s])
  | [], i, v, h, _ => by simp at h
  | (k0, v0) :: r, 0, v, h, _ => by
    have e := Option.some.inj h
    cases e
    simp [addHit]
  | (k0, v0) :: r, i + 1, v, h, hn => by
    have ne : k0 ≠ k := fun e => hn 0 v0 (Nat.succ_pos _) (by rw [e]; rfl)
    unfold addHit
    rw [if_neg ne, addHit_at k s r i v (by simpa using h) fun j w hj e => hn (j + 1) w (by omega) (by simpa using e)]
    rfl
theorem addHit_new (k s : Nat) : ∀ (kvs : List (Nat × List Nat)), ¬ k ∈ kvs.map (·.1) → addHit kvs k s = kvs ++ [(k, [s])]
  | [], _ => rfl
  | (k0, v0) :: r, h => by
    simp only [List.map_cons, List.mem_cons, not_or] at h
    unfold addHit
    rw [if_neg (fun e => h.1 e.symm), addHit_new k s r h.2]
    rfl
theorem group_snoc (lots : List Nat) (kvs : List (Nat × List Nat)) (xs : List Nat) (s : Nat) : group lots kvs (xs ++ [s]) = addHit (group lots kvs xs) (lots.getD s 0) s := by simp [group, List.foldl_append]
theorem grouped_group (lots : List Nat) : ∀ (xs : List Nat), Grouped lots xs (group lots [] xs) := by
  have key : ∀ (ys xs : List Nat) (kvs : List (Nat × List Nat)), Grouped lots xs kvs → Grouped lots (xs ++ ys) (group lots kvs ys) := by
    intro ys
    induction ys with
    | nil => intro xs kvs g; simpa [group] using g
    | cons y ys ih =>
      intro xs kvs g
      have := ih (xs ++ [y]) _ (g.more y)
      simpa [group] using this
  intro xs
  simpa using key xs [] [] (Grouped.nil lots)
end Hop
namespace B
open PySem L2 MK Hop
/-! ### a table of lists by numbers -/
def kvD (kvs : List (Nat × List Nat)) (as : List Addr) : List (Key × V) := (kvs.zip as).map fun p => (Sum.inl (p.1.1 : Int), V.ref p.2)
theorem kvD_len {kvs : List (Nat × List Nat)} {as : List Addr} (h : as.length = kvs.length) : (kvD kvs as).length = kvs.length := by simp [kvD, h]
theorem kvD_get {kvs : List (Nat × List Nat)} {as : List Addr} {i : Nat} {k : Nat} {v : List Nat} {a : Addr} (h1 : kvs[i]? = some (k, v)) (h2 : as[i]? = some a) : (kvD kvs as)[i]? = some (Sum.inl (k : Int), V.ref a) := by
  have e : (kvs.zip as)[i]? = some ((k, v), a) := List.getElem?_zip_eq_some.mpr ⟨h1, h2⟩
  unfold kvD
  rw [List.getElem?_map, e]
  rfl
theorem kvD_val : ∀ (kvs : List (Nat × List Nat)) (as : List Addr) (k : Nat), as.length = kvs.length → (kvs.map (·.1)).Nodup →
    (∀ (i : Nat) (v : List Nat) (a : Addr), kvs[i]? = some (k, v) → as[i]? = some a → valV (kvD kvs as) (Sum.inl (k : Int)) = some (V.ref a)) ∧ (¬ k ∈ kvs.map (·.1) → valV (kvD kvs as) (Sum.inl (k : Int)) = none)
  | [], as, k, _, _ => ⟨fun i v a h => by simp at h, fun _ => rfl⟩
  | (k0, v0) :: r, [], k, h, _ => by simp at h
  | (k0, v0) :: r, a0 :: as, k, h, nd => by
    have nd' := List.nodup_cons.mp (show (k0 :: r.map (·.1)).Nodup from nd)
    have ih := kvD_val r as k (by simpa using h) nd'.2
    have e0 : kvD ((k0, v0) :: r) (a0 :: as) = (Sum.inl (k0 : Int), V.ref a0) :: kvD r as := rfl
    rw [e0]
    constructor
    · intro i v a h1 h2
      cases i with
      | zero =>
        have := Option.some.inj h1
        cases this
        have := Option.some.inj h2
        subst this
        exact valV_pos rfl
      | succ i =>
        have hm : k ∈ r.map (·.1) := List.mem_map.mpr ⟨(k, v), List.mem_of_getElem? (by simpa using h1), rfl⟩
        have ne : k0 ≠ k := fun e => nd'.1 (e ▸ hm)
        rw [valV_neg (fun e => ne (by have := Sum.inl.inj e; omega))]
        exact ih.1 i v a (by simpa using h1) (by simpa using h2)
    · intro hn
      simp only [List.map_cons, List.mem_cons, not_or] at hn
      rw [valV_neg (fun e => hn.1 (by have := Sum.inl.inj e; omega))]
      exact ih.2 hn.2
structure HitAt (H : Hp) (d : Addr) (as : List Addr) (kvs : List (Nat × List Nat)) : Prop where
  top : H d = some (.dK (kvD kvs as))
  nd : as.Nodup
  len : as.length = kvs.length
  cell : ∀ (i : Nat) (a : Addr) (k : Nat) (v : List Nat), as[i]? = some a → kvs[i]? = some (k, v) → H a = some (.lst (nv v))
theorem HitAt.at {H H' : Hp} {d : Addr} {as : List Addr} {kvs : List (Nat × List Nat)} (h : HitAt H d as kvs) (k : ∀ b o, b = d ∨ b ∈ as → H b = some o → H' b = some o) : HitAt H' d as kvs :=
  ⟨k _ _ (.inl rfl) h.top, h.nd, h.len, fun i a q v e1 e2 => k _ _ (.inr (List.mem_of_getElem? e1)) (h.cell i a q v e1 e2)⟩
theorem HitAt.has {H : Hp} {d : Addr} {as : List Addr} {kvs : List (Nat × List Nat)} (h : HitAt H d as kvs) {i : Nat} {a : Addr} (e : as[i]? = some a) : ∃ v, H a = some (.lst v) := by
  have hi : i < kvs.length := by rw [← h.len]; exact (List.getElem?_eq_some_iff.mp e).1
  exact ⟨_, h.cell i a (kvs[i]).1 (kvs[i]).2 e (List.getElem?_eq_getElem hi)⟩
/-- one state more -/
theorem HitAt.more {H : Hp} {d p : Addr} {as : List Addr} {kvs : List (Nat × List Nat)} {k s : Nat} (h : HitAt H d as kvs) (nd : (kvs.map (·.1)).Nodup) (hp : H p = none) :
    (∀ v, valV (kvD kvs as) (Sum.inl (k : Int)) = some v → ∃ (a : Addr) (xs : List Nat), v = V.ref a ∧ a ∈ as ∧ H a = some (.lst (nv xs)) ∧ (∃ i : Nat, as[i]? = some a ∧ kvs[i]? = some (k, xs)) ∧ HitAt (upd (upd H p (.lst [])) a (.lst (nv (xs ++ [s])))) d as (addHit kvs k s)) ∧
    (valV (kvD kvs as) (Sum.inl (k : Int)) = none → HitAt (upd (upd (upd H p (.lst [])) d (.dK (putK (kvD kvs as) (Sum.inl (k : Int)) (V.ref p)))) p (.lst (nv [s]))) d (as ++ [p]) (addHit kvs k s)) := by
  have dp : d ≠ p := ne_of_none h.top hp
  obtain ⟨v1, v2⟩ := kvD_val kvs as k h.len nd
  constructor
  · intro v hv
    by_cases c : k ∈ kvs.map (·.1)
    · obtain ⟨⟨k1, xs⟩, hm, e⟩ := List.mem_map.mp c
      dsimp only at e
      subst e
      obtain ⟨i, hi⟩ := List.getElem?_of_mem hm
      have hil : i < as.length := by rw [h.len]; exact (List.getElem?_eq_some_iff.mp hi).1
      have ha := List.getElem?_eq_getElem hil
      have e2 := v1 i xs _ hi ha
      rw [e2] at hv
      have := Option.some.inj hv
      subst this
      have hc := h.cell i _ _ _ ha hi
      refine ⟨as[i], xs, rfl, List.getElem_mem hil, hc, ⟨i, ha, hi⟩, ?_⟩
      have ap : as[i] ≠ p := ne_of_none hc hp
      have ad : d ≠ as[i] := ne_of h.top hc (fun z => by cases z)
      have e3 : addHit kvs k1 s = kvs.set i (k1, xs ++ [s]) := addHit_at k1 s kvs i xs hi fun j w hj e => by
        have : j = i := nd_ix nd (x := k1) (by simp [e]) (by simp [hi])
        omega
      rw [e3]
      have eq : kvD (kvs.set i (k1, xs ++ [s])) as = kvD kvs as := by
        apply List.ext_getElem?
        intro j
        have hl1 : as.length = (kvs.set i (k1, xs ++ [s])).length := by rw [List.length_set]; exact h.len
        by_cases cj : j < kvs.length
        · have cj2 : j < as.length := by rw [h.len]; exact cj
          have haj : as[j]? = some as[j] := List.getElem?_eq_getElem cj2
          by_cases d : j = i
          · subst d
            rw [kvD_get (k := k1) (v := xs ++ [s]) (by rw [List.getElem?_set_self (by exact cj)]) haj, kvD_get hi haj]
          · have hj : kvs[j]? = some (kvs[j].1, kvs[j].2) := List.getElem?_eq_getElem cj
            have hj2 : (kvs.set i (k1, xs ++ [s]))[j]? = some (kvs[j].1, kvs[j].2) := by
              rw [List.getElem?_set_ne (fun z => d z.symm)]
              exact hj
            exact (kvD_get hj2 haj).trans (kvD_get hj haj).symm
        · rw [List.getElem?_eq_none (by rw [kvD_len hl1, List.length_set]; omega), List.getElem?_eq_none (by rw [kvD_len h.len]; omega)]
      refine ⟨by rw [upd_ne ad, upd_ne dp, eq]; exact h.top, h.nd, by rw [List.length_set]; exact h.len, fun j a q w e1 e2 => ?_⟩
      by_cases d : j = i
      · subst d
        have : a = as[j] := Option.some.inj (e1.symm.trans ha)
        subst this
        rw [List.getElem?_set_self (by rw [← h.len]; exact hil)] at e2
        have := Option.some.inj e2
        cases this
        rw [upd_same]
      · rw [List.getElem?_set_ne (fun z => d z.symm)] at e2
        have na : a ≠ as[i] := fun z => d (nd_ix h.nd (z ▸ e1) ha)
        have hca := h.cell j a q w e1 e2
        rw [upd_ne na, upd_ne (ne_of_none hca hp)]
        exact hca
    · rw [v2 c] at hv; cases hv
  · intro hv
    have c : ¬ k ∈ kvs.map (·.1) := fun c => by
      obtain ⟨⟨k1, xs⟩, hm, e⟩ := List.mem_map.mp c
      dsimp only at e
      subst e
      obtain ⟨i, hi⟩ := List.getElem?_of_mem hm
      have hil : i < as.length := by rw [h.len]; exact (List.getElem?_eq_some_iff.mp hi).1
      rw [v1 i xs _ hi (List.getElem?_eq_getElem hil)] at hv
      cases hv
    rw [addHit_new k s kvs c]
    refine ⟨?_, ?_, by simp [h.len], fun j a q w e1 e2 => ?_⟩
    · rw [upd_ne dp, upd_same, putK_new _ hv]
      congr 2
      simp [kvD, List.zip_append h.len.symm]
    · refine List.nodup_append.mpr ⟨h.nd, by simp, fun a ha b hb e => ?_⟩
      have := List.mem_singleton.mp hb
      subst this
      subst e
      obtain ⟨l, hl⟩ := List.getElem?_of_mem ha
      obtain ⟨w, hw⟩ := h.has hl
      rw [hw] at hp
      cases hp
    · by_cases d : j < kvs.length
      · rw [List.getElem?_append_left (by rw [h.len]; exact d)] at e1
        rw [List.getElem?_append_left d] at e2
        have hca := h.cell j a q w e1 e2
        have ad : a ≠ _ := ne_of hca h.top (fun z => by cases z)
        rw [upd_ne (ne_of_none hca hp), upd_ne ad, upd_ne (ne_of_none hca hp)]
        exact hca
      · rw [List.getElem?_append_right (by rw [h.len]; omega)] at e1
        rw [List.getElem?_append_right (by omega)] at e2
        have e0 : j - kvs.length = 0 := by
          by_cases z : j - kvs.length = 0
          · exact z
          · exfalso
            rw [List.getElem?_eq_none (by simp; omega)] at e2
            cases e2
        rw [h.len, e0] at e1
        rw [e0] at e2
        have := Option.some.inj e1
        subst this
        have := Option.some.inj e2
        cases this
        rw [upd_same]
end B

namespace B
open PySem L2 MK Hop
def hitsOf (back : List (List Nat)) (ts : List Nat) : List Nat := ts.flatMap fun t => back.getD t []
theorem hitsOf_snoc (back : List (List Nat)) (ts : List Nat) (t : Nat) : hitsOf back (ts ++ [t]) = hitsOf back ts ++ back.getD t [] := by simp [hitsOf]
def spHit (K : PySem.W.Frag) : Sp := fun vs H Q _ => ∃ (t b l : Addr) (ts lots : List Nat) (back : List (List Nat)), vs = [.ref t, .ref b, .ref l] ∧ SqL K H t (nv ts) ∧ RowsL K H b back ∧ SqL K H l (nv lots) ∧
  (∀ x, x ∈ ts → x < back.length) ∧ (∀ r, r ∈ back → ∀ s, s ∈ r → s < lots.length) ∧ (hitsOf back ts).length ≤ 100000 ∧ ts.length ≤ 100000 ∧
  ∀ d as H', H d = none → Same H H' → HitAt H' d as (group lots [] (hitsOf back ts)) → (∀ a, a ∈ as → H a = none) → Q (.ref d) H'
section
variable {P : Program} {w : World} {K : PySem.W.Frag} {mg : Str → Option Value} {base : Heap}
theorem hits_prefix (back : List (List Nat)) (ts : List Nat) (i j : Nat) (t : Nat) (h : ts[i]? = some t) : (hitsOf back (ts.take i) ++ (back.getD t []).take j).length ≤ (hitsOf back ts).length := by
  have e : hitsOf back ts = hitsOf back (ts.take i) ++ (back.getD t [] ++ hitsOf back (ts.drop (i + 1))) := by
    have h1 : ts = ts.take i ++ t :: ts.drop (i + 1) := by
      obtain ⟨h2, h3⟩ := List.getElem?_eq_some_iff.mp h
      rw [← h3]
      exact (List.take_append_drop i ts).symm.trans (by rw [List.drop_eq_getElem_cons h2])
    conv => lhs; rw [h1]
    simp [hitsOf]
  rw [e, List.length_append, List.length_append, List.length_append, List.length_take]
  omega
theorem group_len (lots xs : List Nat) : (group lots [] xs).length ≤ xs.length := by
  have key : ∀ (xs : List Nat) (kvs : List (Nat × List Nat)), (group lots kvs xs).length ≤ kvs.length + xs.length := by
    intro xs
    induction xs with
    | nil => intro kvs; simp [group]
    | cons x xs ih =>
      intro kvs
      have h1 : (addHit kvs (lots.getD x 0) x).length ≤ kvs.length + 1 := by
        have h2 := congrArg List.length (addHit_keys (lots.getD x 0) x kvs)
        rw [List.length_map] at h2
        rw [h2]
        split <;> simp
      have h3 := ih (addHit kvs (lots.getD x 0) x)
      show (group lots (addHit kvs (lots.getD x 0) x) xs).length ≤ _
      simp only [List.length_cons]
      omega
  have := key xs []
  simpa using this
theorem group_val_len {lots xs : List Nat} {i k : Nat} {v : List Nat} (h : (group lots [] xs)[i]? = some (k, v)) : v.length ≤ xs.length := by
  have g := grouped_group lots xs
  rw [(g.val k v (List.mem_of_getElem? h)).1]
  exact List.length_filter_le _ _
end
end B

namespace B
open PySem L2 MK Hop
variable {μ : Type} [DecidableEq μ]
/-! ### a machine as lists -/
def stepOf (rows : List (List Nat)) (s a : Nat) : Nat := (rows.getD s []).getD a 0
def markOf (ms : List (Option μ)) (s : Nat) : Option μ := ms.getD s none
structure Mach (rows : List (List Nat)) (n b : Nat) : Prop where
  len : rows.length = n
  row : ∀ r, r ∈ rows → r.length = b ∧ ∀ x, x ∈ r → x < n
theorem Mach.step {rows : List (List Nat)} {n b s a : Nat} (m : Mach rows n b) (hs : s < n) (ha : a < b) : stepOf rows s a < n := by
  have h1 : s < rows.length := by rw [m.len]; exact hs
  have h2 := m.row _ (List.getElem_mem h1)
  have h3 : a < (rows[s]).length := by rw [h2.1]; exact ha
  have e : stepOf rows s a = (rows[s])[a] := by simp [stepOf, List.getD_eq_getElem?_getD, h1, h3]
  rw [e]
  exact h2.2 _ (List.getElem_mem h3)
theorem col_get {rows : List (List Nat)} {n b s : Nat} (m : Mach rows n b) (hs : s < n) (f : Nat) : (col rows f).getD s 0 = stepOf rows s f := by
  have h1 : s < rows.length := by rw [m.len]; exact hs
  simp [col, stepOf, List.getD_eq_getElem?_getD, h1]
theorem mem_bucket {n f l s : Nat} {rows : List (List Nat)} {b : Nat} (m : Mach rows n b) (hl : l < n) : s ∈ (buckets n (col rows f) n).getD l [] ↔ s < n ∧ stepOf rows s f = l := by
  rw [buckets_get hl, List.mem_filter, List.mem_range]
  constructor
  · rintro ⟨h1, h2⟩
    exact ⟨h1, by rw [← col_get m h1]; exact eq_of_beq h2⟩
  · rintro ⟨h1, h2⟩
    exact ⟨h1, by rw [col_get m h1, h2]; exact beq_self_eq_true _⟩
theorem mem_hits {rows : List (List Nat)} {n b f : Nat} (m : Mach rows n b) (hf : f < b) {ts : List Nat} (ht : ∀ t, t ∈ ts → t < n) (s : Nat) : s ∈ hitsOf (buckets n (col rows f) n) ts ↔ s < n ∧ ts.contains (stepOf rows s f) = true := by
  unfold hitsOf
  rw [List.mem_flatMap, List.contains_iff_mem]
  constructor
  · rintro ⟨t, h1, h2⟩
    have := (mem_bucket m (ht t h1)).mp h2
    exact ⟨this.1, this.2 ▸ h1⟩
  · rintro ⟨h1, h2⟩
    exact ⟨_, h2, (mem_bucket m (ht _ h2)).mpr ⟨h1, rfl⟩⟩
theorem hits_nodup {rows : List (List Nat)} {n b f : Nat} (m : Mach rows n b) {ts : List Nat} (ht : ∀ t, t ∈ ts → t < n) (hn : ts.Nodup) : (hitsOf (buckets n (col rows f) n) ts).Nodup := by
  unfold hitsOf List.Nodup
  rw [List.pairwise_flatMap]
  refine ⟨fun t h => ?_, ?_⟩
  · rw [buckets_get (ht t h)]
    exact nodup_filter List.nodup_range
  · have key : ∀ l : List Nat, (∀ t, t ∈ l → t < n) → l.Nodup → l.Pairwise fun t1 t2 => ∀ x, x ∈ (buckets n (col rows f) n).getD t1 [] → ∀ y, y ∈ (buckets n (col rows f) n).getD t2 [] → x ≠ y := by
      intro l hl hn
      refine List.Pairwise.imp_of_mem (R := fun a b => a ≠ b) (fun {t1 t2} m1 m2 ne x hx y hy e => ?_) hn
      have a1 := (mem_bucket m (hl t1 m1)).mp hx
      have a2 := (mem_bucket m (hl t2 m2)).mp hy
      exact ne (by rw [← a1.2, ← a2.2, e])
    exact key ts ht hn
theorem hits_len {rows : List (List Nat)} {n b f : Nat} (m : Mach rows n b) (hf : f < b) {ts : List Nat} (ht : ∀ t, t ∈ ts → t < n) (hn : ts.Nodup) : (hitsOf (buckets n (col rows f) n) ts).length ≤ n := by
  have := nodup_sub_len (hits_nodup (f := f) m ht hn) (k := List.range n) fun s hs => List.mem_range.mpr ((mem_hits m hf ht s).mp hs).1
  rw [List.length_range] at this
  exact this
/-! ### the beginning -/
theorem start_ok {ms : List (Option μ)} {w : List Nat} (hw : ∀ l, l ∈ w → l < (keysOf ms).length) : Ok ms.length ⟨lotsOf ms, buckets (keysOf ms).length (lotsOf ms) ms.length, w⟩ := by
  have mm : ∀ l, l < (keysOf ms).length → ∀ s, s ∈ (buckets (keysOf ms).length (lotsOf ms) ms.length).getD l [] ↔ s < ms.length ∧ (lotsOf ms).getD s 0 = l := fun l hl s => by
    rw [buckets_get hl, List.mem_filter, List.mem_range]
    exact ⟨fun ⟨h1, h2⟩ => ⟨h1, eq_of_beq h2⟩, fun ⟨h1, h2⟩ => ⟨h1, by rw [h2]; exact beq_self_eq_true _⟩⟩
  refine ⟨lotsOf_len ms, fun s hs => ?_, fun l hl => ?_, fun l hl => ?_, fun l hl => ?_, fun l hl => ?_⟩
  · show _ < (buckets _ _ _).length
    rw [buckets_len]
    exact lotsOf_lt hs
  · have hl : l < (buckets (keysOf ms).length (lotsOf ms) ms.length).length := hl
    rw [buckets_len] at hl
    exact mm l hl
  · have hl : l < (buckets (keysOf ms).length (lotsOf ms) ms.length).length := hl
    rw [buckets_len] at hl
    show ((buckets _ _ _).getD l []).Nodup
    rw [buckets_get hl]
    exact nodup_filter List.nodup_range
  · have hl : l < (buckets (keysOf ms).length (lotsOf ms) ms.length).length := hl
    rw [buckets_len] at hl
    obtain ⟨i, h1, h2⟩ := lotsOf_onto hl
    exact ⟨i, (mm l hl i).mpr ⟨h1, h2⟩⟩
  · show l < (buckets _ _ _).length
    rw [buckets_len]
    exact hw l hl
theorem markOf_get {ms : List (Option μ)} {s : Nat} (h : s < ms.length) : markOf ms s = ms[s] := by simp [markOf, List.getD_eq_getElem?_getD, h]
theorem start_still {ms : List (Option μ)} {rows : List (List Nat)} {b : Nat} {w : List Nat} (m : Mach rows ms.length b) (hw : ∀ l, l ∈ w → l < (keysOf ms).length) (hall : ∀ A B, A < (keysOf ms).length → B < (keysOf ms).length → A ≠ B → A ∈ w ∨ B ∈ w) :
    Still ms.length b (stepOf rows) (markOf ms) (Alike b (stepOf rows) (markOf ms)) ⟨lotsOf ms, buckets (keysOf ms).length (lotsOf ms) ms.length, w⟩ := by
  refine ⟨start_ok hw, fun a _ ha => fun s t h1 h2 e ne => ?_, fun a h1 h2 => absurd h2 (by omega), fun s t h1 h2 al => ?_, fun s t h1 h2 e => ?_⟩
  · rcases hall _ _ (lotsOf_lt (m.step h1 ha)) (lotsOf_lt (m.step h2 ha)) ne with q | q
    · exact .inl q
    · exact .inr (.inl q)
  · have := al [] (fun _ h => absurd h List.not_mem_nil)
    have e : markOf ms s = markOf ms t := this
    rw [markOf_get h1, markOf_get h2] at e
    exact (lotsOf_iff h1 h2).mpr e
  · rw [markOf_get h1, markOf_get h2]
    exact (lotsOf_iff h1 h2).mp e
/-! ### what comes out -/
def LotsOk (rows : List (List Nat)) (ms : List (Option μ)) (b most : Nat) (ls : List Nat) : Prop :=
  ls.length = ms.length ∧ (∀ s t, s < ms.length → t < ms.length → (ls.getD s 0 = ls.getD t 0 ↔ Alike b (stepOf rows) (markOf ms) s t)) ∧ ∃ k, k ≤ most ∧ (∀ s, s < ms.length → ls.getD s 0 < k) ∧ ∀ l, l < k → ∃ s, s < ms.length ∧ ls.getD s 0 = l
def Wide (rows : List (List Nat)) (ms : List (Option μ)) (b most : Nat) : Prop :=
  ∃ ss : List Nat, most < ss.length ∧ (∀ s, s ∈ ss → s < ms.length) ∧ ss.Pairwise fun s t => ¬ Alike b (stepOf rows) (markOf ms) s t
theorem lots_ok {ms : List (Option μ)} {rows : List (List Nat)} {b most : Nat} {σ : Hop.S} (m : Mach rows ms.length b) (c : Still ms.length b (stepOf rows) (markOf ms) (Alike b (stepOf rows) (markOf ms)) σ) (hw : σ.waiting = []) (hm : σ.members.length ≤ most) : LotsOk rows ms b most σ.lots := by
  refine ⟨c.ok.len, fun s t h1 h2 => c.iff (fun s a hs ha => m.step hs ha) hw h1 h2, σ.members.length, hm, c.ok.lt, fun l hl => ?_⟩
  obtain ⟨s, hs⟩ := c.ok.ne l hl
  have := (c.ok.mem l hl s).mp hs
  exact ⟨s, this.1, this.2⟩
theorem wide_of {ms : List (Option μ)} {rows : List (List Nat)} {b most : Nat} {σ : Hop.S} (ok : Ok ms.length σ) (r : Resp ms.length (Alike b (stepOf rows) (markOf ms)) σ) (hm : most < σ.members.length) : Wide rows ms b most := by
  obtain ⟨ss, e, h, _, pw⟩ := reps ok r σ.members.length (Nat.le_refl _)
  exact ⟨ss, by omega, fun s hs => (h s hs).1, pw.imp fun h => h.1⟩
end B

namespace B
open PySem L2 MK Hop
structure PtAt (H : Hp) (lo me wa : Addr) (as : List Addr) (σ : Hop.S) : Prop where
  lots : H lo = some (.lst (nv σ.lots))
  top : H me = some (.lst (as.map V.ref))
  len : as.length = σ.members.length
  wait : H wa = some (.lst (nv σ.waiting))
  cell : ∀ (l : Nat) (a : Addr), as[l]? = some a → H a = some (.lst (nv (σ.members.getD l []))) ∧ a ≠ lo ∧ a ≠ me ∧ a ≠ wa
  ne1 : lo ≠ me
  ne2 : lo ≠ wa
  ne3 : me ≠ wa
def spLos {μ : Type} [DecidableEq μ] (K : PySem.W.Frag) (Rep : RepT μ) : Sp := fun vs H Q _ => ∃ (st mk : Addr) (rows : List (List Nat)) (ms : List (Option μ)) (ws : List V) (b most : Nat), vs = [.ref st, .ref mk, .int (most : Nat)] ∧ RowsL K H st rows ∧ SqL K H mk ws ∧ Rep H ms ws ∧ ws.length = ms.length ∧ Mach rows ms.length b ∧ 0 < b ∧ 0 < ms.length ∧ ms.length ≤ 50000 ∧ b ≤ 100 ∧
  (∀ H', Same H H' → Wide rows ms b most → Q .non H') ∧ ∀ p ls H', H p = none → Same H H' → H' p = some (.lst (nv ls)) → LotsOk rows ms b most ls → Q (.ref p) H'
/-- all lots but one -/
def spWid (K : PySem.W.Frag) : Sp := fun vs H Q _ => ∃ (me pm : Addr) (as : List Addr) (xss : List (List Nat)), vs = [.ref me] ∧ H me = some (.lst (as.map V.ref)) ∧ Lol H pm as xss ∧ xss.length ≤ 50000 ∧
  ∀ wa ws H', H wa = none → Same H H' → H' wa = some (.lst (nv ws)) → (∀ l, l ∈ ws → l < xss.length) → (∀ A B, A < xss.length → B < xss.length → A ≠ B → A ∈ ws ∨ B ∈ ws) → ws.length ≤ xss.length → Q (.ref wa) H'
/-- a def of the text, where it stands and what it promises -/
def Df (P : Program) (w : World) (K : PySem.W.Frag) (mg : Str → Option Value) (base : Heap) (CX : CXT) (k : Nat) (x : Str) (ps : List Str) (sp : Sp) : Prop :=
  ∃ (f : Addr) (fd : FuncData), FnOk P w K mg base CX k f fd ps sp ∧ mg x = some (.ref f) ∧ PySem.W.keepIn K (.ref f) = true ∧ Binds K fd ps []
/-- the lot of a pair (size, lot) -/
def lotOf (H : Hp) : V → Nat
  | .ref t => match H t with
    | some (.tup [_, .int i]) => i.toNat
    | _ => 0
  | _ => 0
theorem lotOf_ref {H : Hp} {t : Addr} {x : V} {j : Nat} (h : H t = some (.tup [x, .int (j : Nat)])) : lotOf H (.ref t) = j := by
  show (match H t with | some (.tup [_, .int i]) => i.toNat | _ => 0) = j
  rw [h]
  exact Int.toNat_natCast j
theorem but_one {l : List Nat} {A B : Nat} (ha : A ∈ l) (hb : B ∈ l) (hn : A ≠ B) : A ∈ l.dropLast ∨ B ∈ l.dropLast := by
  have hne : l ≠ [] := fun z => by rw [z] at ha; cases ha
  have e := List.dropLast_concat_getLast hne
  rw [← e] at ha hb
  rcases List.mem_append.mp ha with h | h
  · exact .inl h
  rcases List.mem_append.mp hb with h2 | h2
  · exact .inr h2
  · exact absurd ((List.mem_singleton.mp h).trans (List.mem_singleton.mp h2).symm) hn
theorem cutV_last {xs : List V} : cutV xs none (some (-1)) = xs.dropLast := by
  unfold cutV
  rw [HT.sIx_none, List.drop_zero]
  have : HT.sIx xs.length xs.length (some (-1)) = xs.length - 1 := by
    show (if (-1 : Int) < 0 then ((-1 : Int) + (xs.length : Int)).toNat else min (-1 : Int).toNat xs.length) = _
    rw [if_pos (by decide)]
    omega
  rw [this, List.dropLast_eq_take]
  rfl
theorem yes_i {σ : L2.St} {H : Hp} {A B : Hp → Prop} (h : A H) : tYes σ H (fun b H3 => if b = true then A H3 else B H3) := iteT (B := B H) h
section
variable {P : Program} {w : World} {K : PySem.W.Frag} {mg : Str → Option Value} {base : Heap}
end
end B

namespace B
open PySem L2 MK Hop
def tLenL (K : PySem.W.Frag) (te : TE) : TE := tCB (rLen K) (tCons te tNil)
def rLtV : R2 := rI0 fun i j => .bl (decide (i < j))
/-- one lot that is hit -/
def tBody (K : PySem.W.Frag) : TS :=
  tIfS (tTest (tOp rLtV (tLenL K (tDGet (tVar 10) (tVar 11))) (tLenL K (tOp (rIxL K) (tVar 4) (tVar 11)))))
    (tSeq (tFor (iList K (tDGet (tVar 10) (tVar 11))) (gName 12) (tAsg (tLenL K (tVar 4)) (gSub (tVar 3) (tVar 12) rSetL)))
    (tSeq (tAsg (tLc (iList K (tOp (rIxL K) (tVar 4) (tVar 11))) (gName 12) (tTest (tOp rEq (tOp (rIxL K) (tVar 3) (tVar 12)) (tVar 11))) (tVar 12) [12]) (gSub (tVar 4) (tVar 11) rSetL))
    (tSeq (tIfS (tAnd (tTest (tOp (rIn K true) (tVar 11) (tVar 7))) (tTest (tOp rLtV (tLenL K (tOp (rIxL K) (tVar 4) (tVar 11))) (tLenL K (tDGet (tVar 10) (tVar 11))))))
        (tDrop (tBM K "list" rAppend (tVar 7) (tCons (tVar 11) tNil))) (tDrop (tBM K "list" rAppend (tVar 7) (tCons (tLenL K (tVar 4)) tNil))))
      (tDrop (tBM K "list" rAppend (tVar 4) (tCons (tDGet (tVar 10) (tVar 11)) tNil)))))) tNext
/-- what is left as it was: all but three lists -/
def Kp (lo me wa : Addr) (H H' : Hp) : Prop := ∀ b o, b ≠ lo → b ≠ me → b ≠ wa → H b = some o → H' b = some o
theorem Kp.refl (lo me wa : Addr) (H : Hp) : Kp lo me wa H H := fun _ _ _ _ _ e => e
theorem Kp.trans {lo me wa : Addr} {H H1 H2 : Hp} (a : Kp lo me wa H H1) (b : Kp lo me wa H1 H2) : Kp lo me wa H H2 := fun c o x y z e => b c o x y z (a c o x y z e)
theorem nv_in {xs : List Nat} {x : Nat} : inV (.int (x : Int)) (nv xs) = xs.contains x := by
  unfold inV nv
  rw [List.any_map]
  rw [Bool.eq_iff_iff, List.any_eq_true, List.contains_iff_mem]
  constructor
  · rintro ⟨y, hy, e⟩
    have e' : ((y : Int) == (x : Int)) = true := e
    have : y = x := by have := eq_of_beq e'; omega
    exact this ▸ hy
  · intro h
    exact ⟨x, h, by show ((x : Int) == (x : Int)) = true; exact beq_self_eq_true _⟩
theorem nv_flat (xs : List Nat) : (nv xs).all flatV = true := by
  rw [List.all_eq_true]
  intro v hv
  obtain ⟨x, _, e⟩ := List.mem_map.mp hv
  subst e
  rfl
theorem filter_take_snoc {α : Type} {l : List α} {p : α → Bool} {i : Nat} {x : α} (h : l[i]? = some x) : (l.take (i + 1)).filter p = (l.take i).filter p ++ (if p x = true then [x] else []) := by
  rw [take_snoc h, List.filter_append]
  congr 1
  by_cases c : p x = true
  · simp [c]
  · simp [c]
theorem setAll_snoc (lots hs : List Nat) (m s : Nat) : setAll lots (hs ++ [s]) m = (setAll lots hs m).set s m := by simp [setAll, List.foldl_append]
theorem body_run {K : PySem.W.Frag} {D : Ends} {H : Hp} {s0 s1 s2 s5 s6 s10 s11 s13 : Option V} {lo me wa d ha : Addr} {L : Nat} {as : List Addr} {σs : Hop.S} {hs : List Nat} {od : Obj} {kvs : List (Key × V)}
    (p : PtAt H lo me wa as σs) (hd : H d = some (.frz od (.dK kvs))) (hv : valV kvs (Sum.inl (L : Int)) = some (.ref ha)) (hh : H ha = some (.lst (nv hs))) (h1 : ha ≠ lo) (h2 : ha ≠ me) (h3 : ha ≠ wa)
    (hL : L < σs.members.length) (hsb : ∀ s, s ∈ hs → s < σs.lots.length) (hmb : ∀ s, s ∈ Hop.mem σs L → s < σs.lots.length) (z1 : σs.members.length < 100000) (z2 : σs.waiting.length < 200000) (z3 : hs.length ≤ 100000) (z4 : (Hop.mem σs L).length ≤ 100000)
    (k : ∀ (v : Option V) (H' : Hp) (as' : List Addr), PtAt H' lo me wa as' (split σs L hs) → Kp lo me wa H H' → (∀ a, a ∈ as' → a ∈ as ∨ a = ha ∨ H a = none) → D.nx [s0, s1, s2, some (.ref lo), some (.ref me), s5, s6, some (.ref wa), s10, s11, some (.ref d), some (.int L), v] H') :
    tBody K D [s0, s1, s2, some (.ref lo), some (.ref me), s5, s6, some (.ref wa), s10, s11, some (.ref d), some (.int L), s13] H := by
  have hLa : L < as.length := by rw [p.len]; exact hL
  have eA := List.getElem?_eq_getElem hLa
  obtain ⟨ca, cn1, cn2, cn3⟩ := p.cell L _ eA
  have eAr : (as.map V.ref)[L]? = some (V.ref as[L]) := by simp [hLa]
  have dne : ∀ {a : Addr} {xs : List V}, H a = some (.lst xs) → d ≠ a := fun e => ne_of hd e (fun z => by cases z)
  have dlo := dne p.lots
  have dme := dne p.top
  have dwa := dne p.wait
  have gd : ∀ {H' : Hp}, H' d = some (.frz od (.dK kvs)) → DGet H' d (.int L) (some (.ref ha)) := fun {H'} e => .inl ⟨kvs, Sum.inl (L : Int), .inr ⟨od, e⟩, rfl, hv.symm⟩
  refine ⟨_, rfl, _, rfl, d, _, rfl, gd hd, _, hs.length, rfl, .inl ⟨_, SqL.of hh, (nv_len hs).symm⟩, ?_⟩
  refine ⟨_, rfl, _, rfl, me, _, _, _, rfl, rfl, SqL.of p.top, atI_nat eAr, _, (Hop.mem σs L).length, rfl, .inl ⟨_, SqL.of ca, (nv_len _).symm⟩, _, _, rfl, rfl, _, rfl, ?_⟩
  by_cases c : hs.length < (Hop.mem σs L).length
  · have c' : ((hs.length : Int) < ((Hop.mem σs L).length : Int)) := by omega
    rw [decide_eq_true c']
    refine iteT ?_
    -- for state in hit[lot]: lots[state] = len(members)
    refine ⟨_, rfl, _, rfl, d, _, rfl, gd hd, ha, rfl, ⟨_, SqL.of hh⟩, for_list (K := K) (a := ha) (xs := nv hs) (fun i σ H2 => ∃ v : Option V, σ = [s0, s1, s2, some (.ref lo), some (.ref me), s5, s6, some (.ref wa), s10, s11, some (.ref d), some (.int L), v] ∧ H2 lo = some (.lst (nv (setAll σs.lots (hs.take i) σs.members.length))) ∧ ∀ b o, b ≠ lo → H b = some o → H2 b = some o)
      ⟨s13, rfl, p.lots, fun _ _ _ e => e⟩ (fun i σ H2 _ ⟨_, _, _, kp⟩ => SqL.of (kp _ _ h1 hh)) ?_ ?_⟩
    · rintro i y σ H2 hi ⟨v, rfl, hlo, kp⟩
      obtain ⟨x, hx, rfl⟩ := nv_at hi
      have hxm : x ∈ hs := List.mem_of_getElem? hx
      have hxl := hsb x hxm
      refine ⟨_, rfl, _, σs.members.length, rfl, .inl ⟨_, SqL.of (kp _ _ p.ne1.symm p.top), by rw [List.length_map, p.len]⟩, ?_⟩
      refine ⟨_, rfl, _, rfl, lo, _, _, x, rfl, rfl, hlo, Evl.ixN_nat (by rw [nv_len, setAll_len]; exact hxl), some (.int x), rfl, ?_, fun b o hb e => by rw [upd_ne hb]; exact kp b o hb e⟩
      rw [upd_same, nv_set, take_snoc hx, setAll_snoc]
    · rintro σ H2 ⟨v, rfl, hlo, kp⟩
      rw [nv_len, List.take_length] at hlo
      have lots' := hlo
      -- members[lot] = [state for state in members[lot] if lots[state] == lot]
      have top2 := kp _ _ p.ne1.symm p.top
      have ca2 := kp _ _ cn1 ca
      have hd2 := kp _ _ dlo hd
      refine ⟨_, rfl, _, rfl, me, _, _, _, rfl, rfl, SqL.of top2, atI_nat eAr, as[L], rfl, ⟨_, SqL.of ca2⟩, fun R hR => ?_⟩
      have Rn : ∀ {b : Addr} {o : HO}, H2 b = some o → b ≠ R := fun e => ne_of_none e hR
      refine lc_list (K := K) (a := as[L]) (xs := nv (Hop.mem σs L)) (fun i H3 => H3 R = some (.lst (nv (((Hop.mem σs L).take i).filter fun s => (setAll σs.lots hs σs.members.length).getD s 0 == L))) ∧ ∀ b o, b ≠ R → H2 b = some o → H3 b = some o)
        ⟨upd_same, fun b o hb e => by rw [upd_ne hb]; exact e⟩ (fun i H3 _ ⟨_, kp3⟩ => SqL.of (kp3 _ _ (Rn ca2) ca2)) ?_ ?_
      · rintro i y H3 hi ⟨hR3, kp3⟩
        obtain ⟨x, hx, rfl⟩ := nv_at hi
        have hxm : x ∈ Hop.mem σs L := List.mem_of_getElem? hx
        have hxl := hmb x hxm
        have lo3 := kp3 _ _ (Rn lots') lots'
        have hsl : x < (setAll σs.lots hs σs.members.length).length := by rw [setAll_len]; exact hxl
        have hget : (setAll σs.lots hs σs.members.length)[x]? = some (setAll σs.lots hs σs.members.length)[x] := List.getElem?_eq_getElem hsl
        have egd : (setAll σs.lots hs σs.members.length).getD x 0 = (setAll σs.lots hs σs.members.length)[x] := by simp [List.getD_eq_getElem?_getD, hsl]
        refine ⟨rfl, _, rfl, _, rfl, lo, _, _, V.int ((setAll σs.lots hs σs.members.length)[x] : Nat), rfl, rfl, SqL.of lo3, atI_nat (nv_get hget), _, rfl, rfl, _, rfl, ?_⟩
        have fl : (((Hop.mem σs L).take i).filter fun s => (setAll σs.lots hs σs.members.length).getD s 0 == L).length ≤ 100000 := by
          refine Nat.le_trans (List.length_filter_le _ _) ?_
          rw [List.length_take]; omega
        have ef := filter_take_snoc (p := fun s => (setAll σs.lots hs σs.members.length).getD s 0 == L) hx
        rw [egd] at ef
        by_cases e : (setAll σs.lots hs σs.members.length)[x] = L
        · rw [e, decide_eq_true (show V.int (L : Int) = V.int (L : Int) from rfl)]
          refine iteT ⟨_, rfl, _, hR3, by rw [nv_len, sizeLine_eq]; omega, ?_, fun b o hb e => by rw [upd_ne hb]; exact kp3 b o hb e⟩
          rw [upd_same, nv_snoc, ef, e]
          simp
        · have ne : ¬ (V.int ((setAll σs.lots hs σs.members.length)[x] : Nat) = V.int (L : Int)) := fun z => e (by have := V.int.inj z; omega)
          rw [decide_eq_false ne]
          refine iteF ⟨?_, kp3⟩
          rw [hR3, ef]
          have : (((setAll σs.lots hs σs.members.length)[x] : Nat) == L) = false := by simpa using e
          rw [this]
          simp
      · rintro H3 ⟨hR3, kp3⟩
        rw [nv_len, List.take_length] at hR3
        have top3 := kp3 _ _ (Rn top2) top2
        have lo3 := kp3 _ _ (Rn lots') lots'
        have wa2 := kp _ _ p.ne2.symm p.wait
        have wa3 := kp3 _ _ (Rn wa2) wa2
        have hd3 := kp3 _ _ (Rn hd2) hd2
        have hh2 := kp _ _ h1 hh
        have hh3 := kp3 _ _ (Rn hh2) hh2
        have RH : H R = none := by
          cases e : H R with
          | none => rfl
          | some o =>
            by_cases z : R = lo
            · rw [z, lots'] at hR; cases hR
            · rw [kp R o z e] at hR; cases hR
        have Rlo : lo ≠ R := Rn lots'
        have Rme : me ≠ R := Rn top2
        have Rwa : wa ≠ R := Rn wa2
        have Rha : ha ≠ R := Rn hh2
        have Rd : d ≠ R := Rn hd2
        refine ⟨_, rfl, _, rfl, me, _, _, L, rfl, rfl, top3, Evl.ixN_nat (by rw [List.length_map]; exact hLa), ?_⟩
        -- the heap now
        generalize hH4 : upd H3 me (.lst ((as.map V.ref).set L (.ref R))) = H4
        have g4 : ∀ {b : Addr}, b ≠ me → H4 b = H3 b := fun hb => by rw [← hH4, upd_ne hb]
        have top4 : H4 me = some (.lst ((as.set L R).map V.ref)) := by rw [← hH4, upd_same, List.map_set]
        have R4 : H4 R = some (.lst (nv ((Hop.mem σs L).filter fun s => (setAll σs.lots hs σs.members.length).getD s 0 == L))) := by rw [g4 Rme.symm]; exact hR3
        have wa4 : H4 wa = some (.lst (nv σs.waiting)) := by rw [g4 p.ne3.symm]; exact wa3
        have lo4 : H4 lo = some (.lst (nv (setAll σs.lots hs σs.members.length))) := by rw [g4 p.ne1]; exact lo3
        have hh4 : H4 ha = some (.lst (nv hs)) := by rw [g4 h2]; exact hh3
        have hd4 : H4 d = some (.frz od (.dK kvs)) := by rw [g4 dme]; exact hd3
        have eR : ((as.set L R).map V.ref)[L]? = some (V.ref R) := by simp [hLa]
        have kp4 : ∀ b o, b ≠ lo → b ≠ me → b ≠ R → H b = some o → H4 b = some o := fun b o x1 x2 x3 e => by rw [g4 x2]; exact kp3 b o x3 (kp b o x1 e)
        -- the last step: members.append(hit[lot]), behind a new waiting list
        have last : ∀ (w' : List Nat) (H5 : Hp), H5 wa = some (.lst (nv w')) → (∀ b o, b ≠ wa → H4 b = some o → H5 b = some o) → (split σs L hs).waiting = w' →
            (tDrop (tBM K "list" rAppend (tVar 4) (tCons (tDGet (tVar 10) (tVar 11)) tNil))) D [s0, s1, s2, some (.ref lo), some (.ref me), s5, s6, some (.ref wa), s10, s11, some (.ref d), some (.int L), v] H5 := by
          intro w' H5 hw kp5 ew
          have top5 := kp5 _ _ p.ne3 top4
          have hd5 := kp5 _ _ dwa hd4
          refine ⟨_, rfl, .inl ⟨rfl, _, SqL.of top5⟩, _, rfl, _, rfl, d, _, rfl, gd hd5, me, _, _, rfl, rfl, top5, (by rw [List.length_map, List.length_set, sizeLine_eq, p.len]; omega), ?_⟩
          refine k v _ ((as.set L R) ++ [ha]) ⟨?_, ?_, ?_, ?_, ?_, p.ne1, p.ne2, p.ne3⟩ ?_ ?_
          · rw [upd_ne p.ne1, kp5 _ _ p.ne2 lo4]
            unfold split
            rw [if_pos c]
          · rw [upd_same]
            simp
          · unfold split
            rw [if_pos c]
            simp [p.len]
          · rw [upd_ne p.ne3.symm, hw, ew]
          · intro l a e
            have ms : (split σs L hs).members = σs.members.set L ((Hop.mem σs L).filter fun s => (setAll σs.lots hs σs.members.length).getD s 0 == L) ++ [hs] := by
              unfold split
              rw [if_pos c]
            rw [ms]
            by_cases cl : l < as.length
            · rw [List.getElem?_append_left (by rw [List.length_set]; exact cl)] at e
              have clm : l < σs.members.length := by rw [← p.len]; exact cl
              have eg : (σs.members.set L ((Hop.mem σs L).filter fun s => (setAll σs.lots hs σs.members.length).getD s 0 == L) ++ [hs]).getD l [] = (σs.members.set L ((Hop.mem σs L).filter fun s => (setAll σs.lots hs σs.members.length).getD s 0 == L)).getD l [] := by
                rw [List.getD_eq_getElem?_getD, List.getD_eq_getElem?_getD, List.getElem?_append_left (by rw [List.length_set]; exact clm)]
              rw [eg]
              by_cases cL : L = l
              · subst cL
                rw [List.getElem?_set_self hLa] at e
                have := Option.some.inj e
                subst this
                refine ⟨?_, Rlo.symm, Rme.symm, Rwa.symm⟩
                rw [upd_ne Rme.symm, kp5 _ _ Rwa.symm R4, List.getD_eq_getElem?_getD, List.getElem?_set_self hL]
                rfl
              · rw [List.getElem?_set_ne cL] at e
                obtain ⟨x1, x2, x3, x4⟩ := p.cell l a e
                refine ⟨?_, x2, x3, x4⟩
                have aR : a ≠ R := ne_of_none x1 RH
                rw [upd_ne x3, kp5 _ _ x4 (kp4 _ _ x2 x3 aR x1), List.getD_eq_getElem?_getD, List.getD_eq_getElem?_getD, List.getElem?_set_ne cL]
            · rw [List.getElem?_append_right (by rw [List.length_set]; omega), List.length_set] at e
              have e0 : l - as.length = 0 := by
                by_cases z : l - as.length = 0
                · exact z
                · rw [List.getElem?_eq_none (by simp; omega)] at e; cases e
              rw [e0] at e
              have := Option.some.inj e
              subst this
              have el : l = σs.members.length := by rw [← p.len]; omega
              refine ⟨?_, h1, h2, h3⟩
              rw [upd_ne h2, kp5 _ _ h3 hh4, el, List.getD_eq_getElem?_getD, List.getElem?_append_right (by simp)]
              simp
          · intro b o x1 x2 x3 e
            rw [upd_ne x2]
            exact kp5 _ _ x3 (kp4 b o x1 x2 (ne_of_none e RH) e)
          · intro a ha'
            rcases List.mem_append.mp ha' with q | q
            · rcases List.mem_or_eq_of_mem_set q with q | q
              · exact .inl q
              · exact .inr (.inr (by rw [q]; exact RH))
            · exact .inr (.inl (List.mem_singleton.mp q))
        -- if lot not in waiting and len(members[lot]) < len(hit[lot])
        have ew : (split σs L hs).waiting = σs.waiting ++ [if !σs.waiting.contains L && decide (((Hop.mem σs L).filter fun s => (setAll σs.lots hs σs.members.length).getD s 0 == L).length < hs.length) then L else σs.members.length] := by
          unfold split
          rw [if_pos c]
        have wl : (nv σs.waiting).length < sizeLine := by rw [nv_len, sizeLine_eq]; omega
        have app : ∀ (x : Nat), (if !σs.waiting.contains L && decide (((Hop.mem σs L).filter fun s => (setAll σs.lots hs σs.members.length).getD s 0 == L).length < hs.length) then L else σs.members.length) = x →
            (tDrop (tBM K "list" rAppend (tVar 4) (tCons (tDGet (tVar 10) (tVar 11)) tNil))) D [s0, s1, s2, some (.ref lo), some (.ref me), s5, s6, some (.ref wa), s10, s11, some (.ref d), some (.int L), v] (upd H4 wa (.lst (nv σs.waiting ++ [V.int x]))) := by
          intro x ex
          refine last (σs.waiting ++ [x]) _ (by rw [upd_same, nv_snoc]) (fun b o hb e => by rw [upd_ne hb]; exact e) (by rw [ew, ex])
        have appM : (tDrop (tBM K "list" rAppend (tVar 7) (tCons (tLenL K (tVar 4)) tNil))) { D with nx := tDrop (tBM K "list" rAppend (tVar 4) (tCons (tDGet (tVar 10) (tVar 11)) tNil)) D } [s0, s1, s2, some (.ref lo), some (.ref me), s5, s6, some (.ref wa), s10, s11, some (.ref d), some (.int L), v] H4 ∨ (!σs.waiting.contains L && decide (((Hop.mem σs L).filter fun s => (setAll σs.lots hs σs.members.length).getD s 0 == L).length < hs.length)) = true := by
          by_cases z : (!σs.waiting.contains L && decide (((Hop.mem σs L).filter fun s => (setAll σs.lots hs σs.members.length).getD s 0 == L).length < hs.length)) = true
          · exact .inr z
          · refine .inl ⟨_, rfl, .inl ⟨rfl, _, SqL.of wa4⟩, _, rfl, _, σs.members.length, rfl, .inl ⟨_, SqL.of top4, by rw [List.length_map, List.length_set, p.len]⟩, wa, _, _, rfl, rfl, wa4, wl, ?_⟩
            exact app σs.members.length (by rw [if_neg z])
        refine ⟨_, rfl, _, rfl, wa, _, rfl, .inl (SqL.of wa4), rfl, nv_flat _, _, rfl, ?_⟩
        by_cases cw : σs.waiting.contains L = true
        · have e1 : (!inV (.int (L : Int)) (nv σs.waiting)) = false := by rw [nv_in, cw]; rfl
          show (if (if true = true then !inV (.int (L : Int)) (nv σs.waiting) else inV (.int (L : Int)) (nv σs.waiting)) = true then _ else _)
          rw [if_pos rfl, e1]
          refine iteF ?_
          refine iteF ?_
          rcases appM with z | z
          · exact z
          · rw [cw] at z; cases z
        · have cw' : σs.waiting.contains L = false := by simpa using cw
          have e1 : (!inV (.int (L : Int)) (nv σs.waiting)) = true := by rw [nv_in, cw']; rfl
          show (if (if true = true then !inV (.int (L : Int)) (nv σs.waiting) else inV (.int (L : Int)) (nv σs.waiting)) = true then _ else _)
          rw [if_pos rfl, e1]
          refine iteT ?_
          refine ⟨_, rfl, _, rfl, me, _, _, _, rfl, rfl, SqL.of top4, atI_nat eR, _, ((Hop.mem σs L).filter fun s => (setAll σs.lots hs σs.members.length).getD s 0 == L).length, rfl, .inl ⟨_, SqL.of R4, (nv_len _).symm⟩, ?_⟩
          refine ⟨_, rfl, _, rfl, d, _, rfl, gd hd4, _, hs.length, rfl, .inl ⟨_, SqL.of hh4, (nv_len _).symm⟩, _, _, rfl, rfl, _, rfl, ?_⟩
          by_cases cz : ((Hop.mem σs L).filter fun s => (setAll σs.lots hs σs.members.length).getD s 0 == L).length < hs.length
          · rw [decide_eq_true (show ((((Hop.mem σs L).filter fun s => (setAll σs.lots hs σs.members.length).getD s 0 == L).length : Nat) : Int) < (hs.length : Int) by omega)]
            refine iteT ?_
            refine ⟨_, rfl, .inl ⟨rfl, _, SqL.of wa4⟩, _, rfl, wa, _, _, rfl, rfl, wa4, wl, ?_⟩
            exact app L (by rw [cw', decide_eq_true cz]; rfl)
          · rw [decide_eq_false (show ¬ ((((Hop.mem σs L).filter fun s => (setAll σs.lots hs σs.members.length).getD s 0 == L).length : Nat) : Int) < (hs.length : Int) by omega)]
            refine iteF ?_
            rcases appM with z | z
            · exact z
            · rw [decide_eq_false cz] at z; simp at z
  · have c' : ¬ ((hs.length : Int) < ((Hop.mem σs L).length : Int)) := by omega
    rw [decide_eq_false c']
    refine iteF ?_
    refine k s13 H as (by rw [split_not c]; exact p) (Kp.refl _ _ _ _) fun a ha => .inl ha
end B

namespace B
open PySem L2 MK Hop
theorem PtAt.kp {H H' : Hp} {lo me wa : Addr} {as : List Addr} {σs : Hop.S} (p : PtAt H lo me wa as σs) (s : Same H H') : PtAt H' lo me wa as σs :=
  ⟨s _ _ p.lots, s _ _ p.top, p.len, s _ _ p.wait, fun l a e => ⟨s _ _ (p.cell l a e).1, (p.cell l a e).2⟩, p.ne1, p.ne2, p.ne3⟩
/-- all lots that are hit by one figure -/
theorem hits_run {K : PySem.W.Frag} {D : Ends} {H : Hp} {s0 s1 s2 s5 s6 s8 s10 s11 s13 : Option V} {lo me wa d : Addr} {as hs : List Addr} {σ0 : Hop.S} {od : Obj} {xs : List Nat}
    {M : Type} {n b fi m0 : Nat} {step : Nat → Nat → Nat} {mark : Nat → M} {R : Nat → Nat → Prop} {P : Nat → Bool}
    (p : PtAt H lo me wa as σ0) (hd : H d = some (.frz od (.dK (kvD (group σ0.lots [] xs) hs)))) (hlen : hs.length = (group σ0.lots [] xs).length)
    (hcell : ∀ (i : Nat) (a : Addr) (k : Nat) (v : List Nat), hs[i]? = some a → (group σ0.lots [] xs)[i]? = some (k, v) → H a = some (.lst (nv v)) ∧ a ≠ lo ∧ a ≠ me ∧ a ≠ wa)
    (c0 : Carry n b step mark R P fi σ0) (hfi : fi < b) (hst : ∀ s a, s < n → a < b → step s a < n) (hR : ∀ s t, s < n → t < n → R s t → P (step s fi) = P (step t fi))
    (hxn : xs.Nodup) (hT : ∀ s, s ∈ xs ↔ s < n ∧ P (step s fi) = true) (hm : meas n σ0 ≤ m0) (hn : n ≤ 50000) (hm0 : m0 ≤ 150000)
    (k : ∀ (v8 v13 : Option V) (H' : Hp) (as' : List Addr) (σs : Hop.S), PtAt H' lo me wa as' σs → Kp lo me wa H H' → Carry n b step mark R P (fi + 1) σs → meas n σs ≤ m0 →
      D.nx [s0, s1, s2, some (.ref lo), some (.ref me), s5, s6, some (.ref wa), s10, s11, some (.ref d), v8, v13] H') :
    tFor (iKeys (tVar 10)) (gName 11) (tBody K) D [s0, s1, s2, some (.ref lo), some (.ref me), s5, s6, some (.ref wa), s10, s11, some (.ref d), s8, s13] H := by
  have gr := grouped_group σ0.lots xs
  have kl := kvD_len hlen
  have dne : ∀ {a : Addr} {ys : List V}, H a = some (.lst ys) → d ≠ a := fun e => ne_of hd e (fun z => by cases z)
  refine ⟨_, rfl, d, od, rfl, .inl ⟨_, hd, for_it walk_keys (fun i σ H2 => ∃ (v8 v13 : Option V) (as' : List Addr) (σs : Hop.S) (done : List Nat), σ = [s0, s1, s2, some (.ref lo), some (.ref me), s5, s6, some (.ref wa), s10, s11, some (.ref d), v8, v13] ∧ PtAt H2 lo me wa as' σs ∧ Kp lo me wa H H2 ∧
      (∀ x, x ∈ done ↔ x ∈ ((group σ0.lots [] xs).take i).map (·.1)) ∧ Prog n σ0 (fun s => P (step s fi)) done σs ∧ Carry n b step mark R P fi σs ∧ meas n σs ≤ m0)
    ⟨s8, s13, as, σ0, [], rfl, p, Kp.refl _ _ _ _, by simp, Prog.start c0.ok, c0, hm⟩ (fun i σ H2 _ ⟨_, _, _, _, _, _, _, kp, _⟩ => kp _ _ (dne p.lots) (dne p.top) (dne p.wait) hd) ?_ ?_⟩⟩
  · rintro i y σ H2 H2' hi ⟨v8, v13, as', σs, done, rfl, p2, kp, hdone, pr, ca, hms⟩ ⟨rfl, kk, vv, hkv, rfl⟩
    rw [kl] at hi
    have hgi : (group σ0.lots [] xs)[i]? = some ((group σ0.lots [] xs)[i].1, (group σ0.lots [] xs)[i].2) := List.getElem?_eq_getElem hi
    have hih : i < hs.length := by rw [hlen]; exact hi
    have hai : hs[i]? = some hs[i] := List.getElem?_eq_getElem hih
    have hkv2 := kvD_get hgi hai
    generalize eL : (group σ0.lots [] xs)[i].1 = L at *
    generalize eh : (group σ0.lots [] xs)[i].2 = hl at *
    rw [hkv] at hkv2
    have e3 := Option.some.inj hkv2
    cases e3
    obtain ⟨hc, n1, n2, n3⟩ := hcell i _ L hl hai hgi
    have hmem : (L, hl) ∈ group σ0.lots [] xs := List.mem_of_getElem? hgi
    have hit0 : Hit σ0 (fun s => P (step s fi)) L hl := gr.hit c0.ok hxn hT hmem
    have hnd : ¬ L ∈ done := fun q => by
      have q' := (hdone L).mp q
      obtain ⟨⟨k1, w1⟩, hm1, e1⟩ := List.mem_map.mp q'
      dsimp only at e1
      subst e1
      obtain ⟨j, hj⟩ := List.getElem?_of_mem hm1
      rw [List.getElem?_take] at hj
      by_cases cj : j < i
      · rw [if_pos cj] at hj
        have : j = i := nd_ix gr.nd (x := k1) (by rw [List.getElem?_map, hj]; rfl) (by rw [List.getElem?_map, hgi]; rfl)
        omega
      · rw [if_neg cj] at hj; cases hj
    have hit1 := pr.hit hit0 hnd
    have ok1 := ca.ok
    have v1 : valV (kvD (group σ0.lots [] xs) hs) (Sum.inl (L : Int)) = some (.ref hs[i]) := (kvD_val _ hs L hlen gr.nd).1 i hl _ hgi hai
    have ml := ok1.le
    have wl : σs.waiting.length ≤ meas n σs := by unfold meas; omega
    have hll : hl.length ≤ n := by
      have := nodup_sub_len hit1.nd (k := List.range n) fun s hs' => List.mem_range.mpr ((ok1.mem L hit1.lt s).mp ((hit1.iff s).mp hs').1).1
      rw [List.length_range] at this
      exact this
    have mll : (Hop.mem σs L).length ≤ n := by
      have := nodup_sub_len (ok1.nd L hit1.lt) (k := List.range n) fun s hs' => List.mem_range.mpr ((ok1.mem L hit1.lt s).mp hs').1
      rw [List.length_range] at this
      exact this
    refine body_run p2 (kp _ _ (dne p.lots) (dne p.top) (dne p.wait) hd) v1 (kp _ _ n1 n2 n3 hc) n1 n2 n3 hit1.lt (fun s hs' => by rw [ok1.len]; exact ((ok1.mem L hit1.lt s).mp ((hit1.iff s).mp hs').1).1) (fun s hs' => by rw [ok1.len]; exact ((ok1.mem L hit1.lt s).mp hs').1) (by omega) (by omega) (by omega) (by omega) ?_
    intro v H3 as3 p3 kp3 _
    refine ⟨_, v, as3, _, L :: done, rfl, p3, kp.trans kp3, fun x => ?_, pr.next c0.ok hit0 hnd, ca.split hit1 hst (fun s t hs' ht r => hR s t hs' ht r), Nat.le_trans (split_meas ok1 hit1) hms⟩
    rw [take_snoc hgi, List.map_append, List.mem_append, List.mem_cons, hdone]
    simp [or_comm]
  · rintro σ H2 ⟨v8, v13, as', σs, done, rfl, p2, kp, hdone, pr, ca, hms⟩
    rw [kl, List.take_length] at hdone
    refine k v8 v13 H2 as' σs p2 kp (ca.next fun s t h1 h2 e => ?_) hms
    exact pr.all gr hT (fun x hx => (hdone x).mpr hx) h1 h2 e
end B

namespace B
open PySem L2 MK Hop
/-- the tables of steps back, one a figure -/
structure BkAt (H : Hp) (bk : Addr) (rows : List (List Nat)) (n i : Nat) (bs : List (Addr × List Addr)) : Prop where
  top : H bk = some (.lst (bs.map fun q => V.ref q.1))
  len : bs.length = i
  lol : ∀ (j : Nat) (q : Addr × List Addr), bs[j]? = some q → Lol H q.1 q.2 (buckets n (col rows j) n)
theorem Lol.rows {K : PySem.W.Frag} {H : Hp} {p : Addr} {as : List Addr} {xss : List (List Nat)} (h : Lol H p as xss) : RowsL K H p xss :=
  ⟨as, SqL.of h.top, h.len, fun i r e => SqL.of (h.cell i r e)⟩
/-- between two turns of the while: m is what is left to do -/
def WhW {μ : Type} [DecidableEq μ] (H7 : Hp) (st mk lo me bk wa : Addr) (rows : List (List Nat)) (ms : List (Option μ)) (b most m : Nat) (σ : L2.St) (Hx : Hp) : Prop :=
  ∃ (v6 v8 v10 v11 v12 v13 : Option V) (as' : List Addr) (σs : Hop.S), σ = [some (.ref st), some (.ref mk), some (.int most), some (.ref lo), some (.ref me), some (.ref bk), v6, some (.ref wa), v10, v11, v12, v8, v13] ∧
    PtAt Hx lo me wa as' σs ∧ Kp lo me wa H7 Hx ∧ Still ms.length b (stepOf rows) (markOf ms) (Alike b (stepOf rows) (markOf ms)) σs ∧ meas ms.length σs ≤ 150000 ∧ m = meas ms.length σs
section
variable {P : Program} {w : World} {K : PySem.W.Frag} {mg : Str → Option Value} {base : Heap}
end
end B

namespace B
open PySem L2 MK Hop
/-! ### machines in order: plain mathematics. Marks of any kind -/
def mkOf {M : Type} (d : M) (ms : List M) (s : Nat) : M := ms.getD s d
/-- entries of a row: known states, or the next new one -/
def RG : Nat → List Nat → Nat → Prop
  | k, [], k' => k = k'
  | k, e :: xs, k' => (e < k ∧ RG k xs k') ∨ (e = k ∧ RG (k + 1) xs k')
def RGR : Nat → Nat → List (List Nat) → Nat → Prop
  | _, k, [], k' => k = k'
  | i, k, r :: rs, k' => i < k ∧ ∃ k1, RG k r k1 ∧ RGR (i + 1) k1 rs k'
theorem RG.le : ∀ {xs : List Nat} {k k' : Nat}, RG k xs k' → k ≤ k'
  | [], k, k', h => Nat.le_of_eq h
  | e :: xs, k, k', h => by
    rcases h with ⟨_, h⟩ | ⟨_, h⟩
    · exact RG.le h
    · have := RG.le h; omega
theorem RG.lt : ∀ {xs : List Nat} {k k' : Nat}, RG k xs k' → ∀ e, e ∈ xs → e < k'
  | [], k, k', h, e, he => absurd he List.not_mem_nil
  | x :: xs, k, k', h, e, he => by
    rcases h with ⟨h1, h⟩ | ⟨h1, h⟩
    · rcases List.mem_cons.mp he with q | q
      · have := RG.le h; omega
      · exact RG.lt h e q
    · rcases List.mem_cons.mp he with q | q
      · have := RG.le h; omega
      · exact RG.lt h e q
theorem RG.snoc : ∀ {xs : List Nat} {k k' e : Nat}, RG k xs k' → e < k' → RG k (xs ++ [e]) k'
  | [], k, k', e, h, he => .inl ⟨by have : k = k' := h; omega, h⟩
  | x :: xs, k, k', e, h, he => by
    rcases h with ⟨h1, h⟩ | ⟨h1, h⟩
    · exact .inl ⟨h1, RG.snoc h he⟩
    · exact .inr ⟨h1, RG.snoc h he⟩
theorem RG.snocN : ∀ {xs : List Nat} {k k' : Nat}, RG k xs k' → RG k (xs ++ [k']) (k' + 1)
  | [], k, k', h => .inr ⟨h.symm, by have : k = k' := h; subst this; rfl⟩
  | x :: xs, k, k', h => by
    rcases h with ⟨h1, h⟩ | ⟨h1, h⟩
    · exact .inl ⟨h1, RG.snocN h⟩
    · exact .inr ⟨h1, RG.snocN h⟩
theorem RGR.le : ∀ {rs : List (List Nat)} {i k k' : Nat}, RGR i k rs k' → k ≤ k'
  | [], _, _, _, h => Nat.le_of_eq h
  | r :: rs, i, k, k', ⟨_, k1, h1, h2⟩ => Nat.le_trans h1.le h2.le
theorem RGR.lt : ∀ {rs : List (List Nat)} {i k k' : Nat}, RGR i k rs k' → ∀ r, r ∈ rs → ∀ e, e ∈ r → e < k'
  | [], _, _, _, _, r, hr => absurd hr List.not_mem_nil
  | r0 :: rs, i, k, k', ⟨_, k1, h1, h2⟩, r, hr => by
    rcases List.mem_cons.mp hr with q | q
    · subst q
      intro e he
      exact Nat.lt_of_lt_of_le (h1.lt e he) h2.le
    · exact h2.lt r q
theorem RGR.snoc : ∀ {rs : List (List Nat)} {i k k' k'' : Nat} {r : List Nat}, RGR i k rs k' → i + rs.length < k' → RG k' r k'' → RGR i k (rs ++ [r]) k''
  | [], i, k, k', k'', r, h, hi, hr => by
    have : k = k' := h
    subst this
    exact ⟨by simpa using hi, k'', hr, rfl⟩
  | r0 :: rs, i, k, k', k'', r, ⟨h0, k1, h1, h2⟩, hi, hr => ⟨h0, k1, h1, RGR.snoc h2 (by simp only [List.length_cons] at hi; omega) hr⟩
/-- a machine in order, none of whose states are alike -/
structure Canon {M : Type} (d : M) (rows : List (List Nat)) (ms : List M) (b : Nat) : Prop where
  len : ms.length = rows.length
  wid : ∀ r, r ∈ rows → r.length = b
  grow : RGR 0 1 rows rows.length
  min : ∀ i j, i < rows.length → j < rows.length → Alike b (stepOf rows) (mkOf d ms) i j → i = j
theorem Canon.mach {M : Type} {d : M} {rows : List (List Nat)} {ms : List M} {b : Nat} (c : Canon d rows ms b) : Mach rows rows.length b := ⟨rfl, fun r hr => ⟨c.wid r hr, c.grow.lt r hr⟩⟩
/-- two states of two machines tell the same -/
def Both {M : Type} (b : Nat) (s1 s2 : Nat → Nat → Nat) (m1 m2 : Nat → M) (x y : Nat) : Prop := ∀ w : List Nat, (∀ a, a ∈ w → a < b) → m1 (runs s1 x w) = m2 (runs s2 y w)
theorem Both.step {M : Type} {b : Nat} {s1 s2 : Nat → Nat → Nat} {m1 m2 : Nat → M} {x y a : Nat} (h : Both b s1 s2 m1 m2 x y) (ha : a < b) : Both b s1 s2 m1 m2 (s1 x a) (s2 y a) := fun w hw =>
  h (a :: w) fun z hz => by
    rcases List.mem_cons.mp hz with q | q
    · exact q ▸ ha
    · exact hw z q
theorem getD_mem {α : Type} {l : List α} {i : Nat} {d : α} (h : i < l.length) : l.getD i d = l[i] := by simp [List.getD_eq_getElem?_getD, h]
section
variable {M : Type} {d : M} {b : Nat} {R1 R2 : List (List Nat)} {m1 m2 : List M}
/-- one row: entry by entry -/
theorem same_row (c1 : Canon d R1 m1 b) (c2 : Canon d R2 m2 b) : ∀ (xs ys : List Nat) (k k1 k2 : Nat), xs.length = ys.length → RG k xs k1 → RG k ys k2 → k1 ≤ R1.length → k2 ≤ R2.length →
    (∀ q, q < k → Both b (stepOf R1) (stepOf R2) (mkOf d m1) (mkOf d m2) q q) → (∀ (j : Nat) (x y : Nat), xs[j]? = some x → ys[j]? = some y → Both b (stepOf R1) (stepOf R2) (mkOf d m1) (mkOf d m2) x y) →
    xs = ys ∧ k1 = k2 ∧ ∀ q, q < k1 → Both b (stepOf R1) (stepOf R2) (mkOf d m1) (mkOf d m2) q q
  | [], [], k, k1, k2, _, h1, h2, _, _, hq, _ => by
    have a : k = k1 := h1
    have b' : k = k2 := h2
    subst a; subst b'
    exact ⟨rfl, rfl, hq⟩
  | x :: xs, [], _, _, _, h, _, _, _, _, _, _ => by simp at h
  | [], y :: ys, _, _, _, h, _, _, _, _, _, _ => by simp at h
  | x :: xs, y :: ys, k, k1, k2, hl, h1, h2, l1, l2, hq, hxy => by
    have bxy : Both b (stepOf R1) (stepOf R2) (mkOf d m1) (mkOf d m2) x y := hxy 0 x y rfl rfl
    have rest : ∀ (j : Nat) (a b' : Nat), xs[j]? = some a → ys[j]? = some b' → Both b (stepOf R1) (stepOf R2) (mkOf d m1) (mkOf d m2) a b' := fun j a b' e1 e2 => hxy (j + 1) a b' (by simpa using e1) (by simpa using e2)
    have hl' : xs.length = ys.length := by simpa using hl
    rcases h1 with ⟨a1, h1⟩ | ⟨a1, h1⟩
    · rcases h2 with ⟨a2, h2⟩ | ⟨a2, h2⟩
      · have k2' := h2.le
        have k1' := h1.le
        have e : x = y := c2.min x y (by omega) (by omega) fun w hw => (hq x a1 w hw).symm.trans (bxy w hw)
        subst e
        obtain ⟨e1, e2, e3⟩ := same_row c1 c2 xs ys k k1 k2 hl' h1 h2 l1 l2 hq rest
        exact ⟨by rw [e1], e2, e3⟩
      · -- y is new, x is not
        exfalso
        have k2' := h2.le
        have k1' := h1.le
        have : x = y := c2.min x y (by omega) (by omega) fun w hw => (hq x a1 w hw).symm.trans (bxy w hw)
        omega
    · rcases h2 with ⟨a2, h2⟩ | ⟨a2, h2⟩
      · exfalso
        have k2' := h2.le
        have k1' := h1.le
        have : x = y := c1.min x y (by omega) (by omega) fun w hw => (bxy w hw).trans (hq y a2 w hw).symm
        omega
      · have e : x = y := by omega
        subst e
        obtain ⟨e1, e2, e3⟩ := same_row c1 c2 xs ys (k + 1) k1 k2 hl' h1 h2 l1 l2 (fun q hq' => by
          by_cases z : q < k
          · exact hq q z
          · have : q = x := by omega
            subst this
            exact bxy) rest
        exact ⟨by rw [e1], e2, e3⟩
theorem same_rows (c1 : Canon d R1 m1 b) (c2 : Canon d R2 m2 b) : ∀ (A1 A2 P : List (List Nat)) (k : Nat), P ++ A1 = R1 → P ++ A2 = R2 → RGR P.length k A1 R1.length → RGR P.length k A2 R2.length →
    (∀ q, q < k → Both b (stepOf R1) (stepOf R2) (mkOf d m1) (mkOf d m2) q q) → A1 = A2 ∧ ∀ q, q < R1.length → Both b (stepOf R1) (stepOf R2) (mkOf d m1) (mkOf d m2) q q
  | [], [], P, k, e1, e2, h1, h2, hq => by
    have : k = R1.length := h1
    exact ⟨rfl, fun q hq' => hq q (by omega)⟩
  | [], r :: rs, P, k, e1, e2, h1, h2, hq => by
    exfalso
    have a : k = R1.length := h1
    have b' := h2.1
    have : R1.length = P.length := by rw [← e1]; simp
    omega
  | r :: rs, [], P, k, e1, e2, h1, h2, hq => by
    exfalso
    have a : k = R2.length := h2
    have b' := h1.1
    have : R2.length = P.length := by rw [← e2]; simp
    omega
  | r1 :: A1, r2 :: A2, P, k, e1, e2, ⟨i1, k1, g1, h1⟩, ⟨i2, k2, g2, h2⟩, hq => by
    have m1' : r1 ∈ R1 := by rw [← e1]; simp
    have m2' : r2 ∈ R2 := by rw [← e2]; simp
    have w1 := c1.wid r1 m1'
    have w2 := c2.wid r2 m2'
    have s1 : ∀ a, stepOf R1 P.length a = r1.getD a 0 := fun a => by unfold stepOf; rw [← e1]; simp [List.getD_eq_getElem?_getD]
    have s2 : ∀ a, stepOf R2 P.length a = r2.getD a 0 := fun a => by unfold stepOf; rw [← e2]; simp [List.getD_eq_getElem?_getD]
    obtain ⟨er, ek, hq'⟩ := same_row c1 c2 r1 r2 k k1 k2 (by rw [w1, w2]) g1 g2 h1.le h2.le hq fun j x y ex ey => by
      have hj : j < b := by rw [← w1]; exact (List.getElem?_eq_some_iff.mp ex).1
      have := (hq P.length i1).step hj
      rw [s1, s2, List.getD_eq_getElem?_getD, List.getD_eq_getElem?_getD, ex, ey] at this
      exact this
    subst er
    subst ek
    obtain ⟨ea, hall⟩ := same_rows c1 c2 A1 A2 (P ++ [r1]) k1 (by simpa using e1) (by simpa using e2) (by simpa using h1) (by simpa using h2) hq'
    exact ⟨by rw [ea], hall⟩
/-- machines in order that tell the same are the same -/
theorem canon_eq (c1 : Canon d R1 m1 b) (c2 : Canon d R2 m2 b) (h : Both b (stepOf R1) (stepOf R2) (mkOf d m1) (mkOf d m2) 0 0) : R1 = R2 ∧ m1 = m2 := by
  obtain ⟨e, hall⟩ := same_rows c1 c2 R1 R2 [] 1 rfl rfl c1.grow c2.grow fun q hq => by
    have : q = 0 := by omega
    subst this
    exact h
  refine ⟨e, ?_⟩
  subst e
  apply List.ext_getElem
  · rw [c1.len, c2.len]
  · intro i h1 h2
    have := hall i (by rw [← c1.len]; exact h1) [] (fun _ h => absurd h List.not_mem_nil)
    have e : mkOf d m1 i = mkOf d m2 i := this
    unfold mkOf at e
    rw [getD_mem h1, getD_mem h2] at e
    exact e
end
end B

namespace B
open PySem L2 MK Hop
/-! ### the states in the order in which they are met -/
section
variable {lt : Nat → Nat}
def addMet (lt : Nat → Nat) (met : List Nat) (s : Nat) : List Nat := if lt s ∈ met.map lt then met else met ++ [s]
def fOf (lt : Nat → Nat) (met : List Nat) (s : Nat) : Nat := idx (met.map lt) (lt s)
theorem idx_lt {ks : List Nat} {m : Nat} (h : m ∈ ks) : idx ks m < ks.length := List.idxOf_lt_length_iff.mpr h
theorem idx_get {ks : List Nat} {m : Nat} (h : m ∈ ks) : ks[idx ks m]? = some m := by
  have := idx_lt h
  rw [List.getElem?_eq_getElem this]
  congr 1
  exact List.getElem_idxOf this
theorem idx_app {ks ext : List Nat} {m : Nat} (h : m ∈ ks) : idx (ks ++ ext) m = idx ks m := by
  unfold idx
  rw [List.idxOf_append, if_pos h]
theorem idx_nd {ks : List Nat} (hn : ks.Nodup) {i : Nat} (h : i < ks.length) : idx ks ks[i] = i := by
  have := hn.idxOf_getElem i h
  unfold idx
  exact this
theorem addMet_ext (met : List Nat) (s : Nat) : ∃ e, addMet lt met s = met ++ e := by
  unfold addMet
  split
  · exact ⟨[], by simp⟩
  · exact ⟨[s], rfl⟩
theorem fold_ext : ∀ (xs met : List Nat), ∃ e, xs.foldl (addMet lt) met = met ++ e
  | [], met => ⟨[], by simp⟩
  | x :: xs, met => by
    obtain ⟨e1, h1⟩ := addMet_ext (lt := lt) met x
    obtain ⟨e2, h2⟩ := fold_ext xs (addMet lt met x)
    exact ⟨e1 ++ e2, by show xs.foldl (addMet lt) (addMet lt met x) = _; rw [h2, h1, List.append_assoc]⟩
theorem fOf_ext {met e : List Nat} {s : Nat} (h : lt s ∈ met.map lt) : fOf lt (met ++ e) s = fOf lt met s := by
  unfold fOf
  rw [List.map_append]
  exact idx_app h
theorem addMet_mem (met : List Nat) (s : Nat) : lt s ∈ (addMet lt met s).map lt := by
  unfold addMet
  split
  · assumption
  · simp
theorem addMet_nd {met : List Nat} (h : (met.map lt).Nodup) (s : Nat) : ((addMet lt met s).map lt).Nodup := by
  unfold addMet
  split
  · exact h
  · rename_i c
    rw [List.map_append]
    refine List.nodup_append.mpr ⟨h, by simp, fun a ha b hb e => ?_⟩
    have : b = lt s := by simpa using hb
    exact c (this ▸ e ▸ ha)
/-- a row is gone through -/
theorem row_grow : ∀ (xs met0 met : List Nat) (ys : List Nat), (met.map lt).Nodup → RG met0.length (ys.map (fOf lt met)) met.length → (∀ y, y ∈ ys → lt y ∈ met.map lt) →
    ((xs.foldl (addMet lt) met).map lt).Nodup ∧ RG met0.length ((ys ++ xs).map (fOf lt (xs.foldl (addMet lt) met))) (xs.foldl (addMet lt) met).length ∧ ∀ y, y ∈ ys ++ xs → lt y ∈ (xs.foldl (addMet lt) met).map lt
  | [], met0, met, ys, hn, hg, hm => ⟨hn, by simpa using hg, fun y hy => hm y (by simpa using hy)⟩
  | x :: xs, met0, met, ys, hn, hg, hm => by
    have step : RG met0.length ((ys ++ [x]).map (fOf lt (addMet lt met x))) (addMet lt met x).length := by
      obtain ⟨e, he⟩ := addMet_ext (lt := lt) met x
      have same : ys.map (fOf lt (addMet lt met x)) = ys.map (fOf lt met) := by
        apply List.map_congr_left
        intro y hy
        rw [he]
        exact fOf_ext (hm y hy)
      rw [List.map_append, same]
      by_cases c : lt x ∈ met.map lt
      · have e1 : addMet lt met x = met := if_pos c
        rw [e1]
        refine RG.snoc hg ?_
        have := idx_lt c
        rw [List.length_map] at this
        exact this
      · have e1 : addMet lt met x = met ++ [x] := if_neg c
        have e2 : fOf lt (met ++ [x]) x = met.length := by
          unfold fOf
          rw [List.map_append]
          unfold idx
          rw [List.idxOf_append, if_neg c]
          simp
        rw [e1]
        show RG _ (_ ++ [fOf lt (met ++ [x]) x]) _
        rw [e2]
        simpa using RG.snocN hg
    have hm' : ∀ y, y ∈ ys ++ [x] → lt y ∈ (addMet lt met x).map lt := by
      intro y hy
      rcases List.mem_append.mp hy with q | q
      · obtain ⟨e, he⟩ := addMet_ext (lt := lt) met x
        rw [he, List.map_append]
        exact List.mem_append_left _ (hm y q)
      · rw [List.mem_singleton.mp q]
        exact addMet_mem met x
    have := row_grow xs met0 (addMet lt met x) (ys ++ [x]) (addMet_nd hn x) step hm'
    simpa using this
end
structure InO (lt : Nat → Nat) (rows : List (List Nat)) (n at_ : Nat) (met : List Nat) : Prop where
  nd : (met.map lt).Nodup
  mem : ∀ s, s ∈ met → s < n
  zero : met[0]? = some 0
  le : at_ ≤ met.length
  grow : RGR 0 1 ((met.take at_).map fun s => (rows.getD s []).map (fOf lt met)) met.length
  closed : ∀ s, s ∈ met.take at_ → ∀ t, t ∈ rows.getD s [] → lt t ∈ met.map lt
theorem InO.start {lt : Nat → Nat} {rows : List (List Nat)} {n : Nat} (h : 0 < n) : InO lt rows n 0 [0] :=
  ⟨by simp, fun s hs => by rw [List.mem_singleton.mp hs]; exact h, rfl, Nat.zero_le _, rfl, fun s hs => by simp at hs⟩
theorem InO.next {lt : Nat → Nat} {rows : List (List Nat)} {n at_ b : Nat} {met : List Nat} (m : Mach rows n b) (h : InO lt rows n at_ met) {s : Nat} (hs : met[at_]? = some s) : InO lt rows n (at_ + 1) ((rows.getD s []).foldl (addMet lt) met) := by
  have hat : at_ < met.length := (List.getElem?_eq_some_iff.mp hs).1
  obtain ⟨e, he⟩ := fold_ext (lt := lt) (rows.getD s []) met
  obtain ⟨h1, h2, h3⟩ := row_grow (lt := lt) (rows.getD s []) met met [] h.nd rfl (fun y hy => absurd hy List.not_mem_nil)
  rw [List.nil_append] at h2 h3
  have sm : s < n := h.mem s (List.mem_of_getElem? hs)
  have rowm : ∀ t, t ∈ rows.getD s [] → t < n := by
    intro t ht
    have hsl : s < rows.length := by rw [m.len]; exact sm
    rw [getD_mem hsl] at ht
    exact (m.row _ (List.getElem_mem hsl)).2 t ht
  have tk : (met ++ e).take (at_ + 1) = met.take at_ ++ [s] := by
    rw [List.take_append_of_le_length (by omega), take_snoc hs]
  refine ⟨h1, ?_, ?_, ?_, ?_, ?_⟩
  · have key : ∀ (xs mt : List Nat), (∀ t, t ∈ xs → t < n) → (∀ t, t ∈ mt → t < n) → ∀ t, t ∈ xs.foldl (addMet lt) mt → t < n := by
      intro xs
      induction xs with
      | nil => intro mt _ h2 t ht; exact h2 t ht
      | cons x xs ih =>
        intro mt h1 h2
        refine ih (addMet lt mt x) (fun t ht => h1 t (List.mem_cons_of_mem _ ht)) fun t ht => ?_
        unfold addMet at ht
        split at ht
        · exact h2 t ht
        · rcases List.mem_append.mp ht with q | q
          · exact h2 t q
          · rw [List.mem_singleton.mp q]; exact h1 x List.mem_cons_self
    exact key _ met rowm h.mem
  · rw [he, List.getElem?_append_left (by omega)]; exact h.zero
  · rw [he, List.length_append]; omega
  · rw [he] at h2 h3 ⊢
    rw [tk, List.map_append]
    have same : (met.take at_).map (fun s => (rows.getD s []).map (fOf lt (met ++ e))) = (met.take at_).map fun s => (rows.getD s []).map (fOf lt met) := by
      apply List.map_congr_left
      intro z hz
      apply List.map_congr_left
      intro t ht
      exact fOf_ext (h.closed z hz t ht)
    rw [same]
    refine RGR.snoc h.grow ?_ h2
    rw [List.length_map, List.length_take]
    omega
  · rw [he] at h3 ⊢
    rw [tk]
    intro z hz t ht
    rcases List.mem_append.mp hz with q | q
    · rw [List.map_append]
      exact List.mem_append_left _ (h.closed z q t ht)
    · rw [List.mem_singleton.mp q] at ht
      exact h3 t ht
variable {μ : Type} [DecidableEq μ]
/-- the machine that is read off -/
def newRows (lt : Nat → Nat) (rows : List (List Nat)) (met : List Nat) : List (List Nat) := met.map fun s => (rows.getD s []).map (fOf lt met)
def newMarks (ms : List (Option μ)) (met : List Nat) : List (Option μ) := met.map fun s => ms.getD s none
section
variable {rows : List (List Nat)} {ms : List (Option μ)} {b most : Nat} {ls met : List Nat}
theorem in_order_step (m : Mach rows ms.length b) (io : InO (fun s => ls.getD s 0) rows ms.length met.length met) {i a : Nat} (hi : i < met.length) (ha : a < b) :
    stepOf (newRows (fun s => ls.getD s 0) rows met) i a < met.length ∧ ls.getD (met.getD (stepOf (newRows (fun s => ls.getD s 0) rows met) i a) 0) 0 = ls.getD (stepOf rows (met.getD i 0) a) 0 := by
  have sm : met[i] < ms.length := io.mem _ (List.getElem_mem hi)
  have hsl : met[i] < rows.length := by rw [m.len]; exact sm
  have wr := (m.row _ (List.getElem_mem hsl)).1
  have e0 : met.getD i 0 = met[i] := getD_mem hi
  have ha' : a < (rows[met[i]]).length := by rw [wr]; exact ha
  have e1 : stepOf rows (met.getD i 0) a = (rows[met[i]])[a] := by
    unfold stepOf
    rw [e0, getD_mem hsl, getD_mem ha']
  have e2 : stepOf (newRows (fun s => ls.getD s 0) rows met) i a = fOf (fun s => ls.getD s 0) met ((rows[met[i]])[a]) := by
    unfold stepOf newRows
    have l1 : i < (met.map fun s => (rows.getD s []).map (fOf (fun s => ls.getD s 0) met)).length := by rw [List.length_map]; exact hi
    rw [getD_mem l1, List.getElem_map, getD_mem hsl]
    have l2 : a < ((rows[met[i]]).map (fOf (fun s => ls.getD s 0) met)).length := by rw [List.length_map]; exact ha'
    rw [getD_mem l2, List.getElem_map]
  have cl : (fun s => ls.getD s 0) ((rows[met[i]])[a]) ∈ met.map (fun s => ls.getD s 0) := by
    refine io.closed met[i] (by rw [List.take_length]; exact List.getElem_mem hi) _ ?_
    rw [getD_mem hsl]
    exact List.getElem_mem ha'
  rw [e1, e2]
  have il := idx_lt cl
  rw [List.length_map] at il
  refine ⟨il, ?_⟩
  have ig := idx_get cl
  rw [List.getElem?_map, List.getElem?_eq_getElem il] at ig
  have ig2 := Option.some.inj ig
  unfold fOf
  rw [getD_mem il]
  exact ig2
theorem in_order_runs (m : Mach rows ms.length b) (io : InO (fun s => ls.getD s 0) rows ms.length met.length met) (lo : LotsOk rows ms b most ls) : ∀ (w : List Nat) (i s : Nat), i < met.length → s < ms.length → ls.getD (met.getD i 0) 0 = ls.getD s 0 → (∀ a, a ∈ w → a < b) →
    mkOf none (newMarks ms met) (runs (stepOf (newRows (fun s => ls.getD s 0) rows met)) i w) = markOf ms (runs (stepOf rows) s w)
  | [], i, s, hi, hs, e, _ => by
    have sm : met[i] < ms.length := io.mem _ (List.getElem_mem hi)
    show mkOf none (newMarks ms met) i = markOf ms s
    have e0 : met.getD i 0 = met[i] := getD_mem hi
    rw [e0] at e
    have al := (lo.2.1 _ _ sm hs).mp e [] (fun _ h => absurd h List.not_mem_nil)
    have e1 : mkOf none (newMarks ms met) i = markOf ms met[i] := by
      unfold mkOf newMarks markOf
      have l1 : i < (met.map fun s => ms.getD s none).length := by rw [List.length_map]; exact hi
      rw [getD_mem l1, List.getElem_map]
    rw [e1]
    exact al
  | a :: w, i, s, hi, hs, e, hw => by
    have ha := hw a List.mem_cons_self
    obtain ⟨h1, h2⟩ := in_order_step m io hi ha
    have sm : met[i] < ms.length := io.mem _ (List.getElem_mem hi)
    have e0 : met.getD i 0 = met[i] := getD_mem hi
    refine in_order_runs m io lo w _ (stepOf rows s a) h1 (m.step hs ha) ?_ fun x hx => hw x (List.mem_cons_of_mem _ hx)
    rw [h2, e0]
    rw [e0] at e
    exact (lo.2.1 _ _ (m.step sm ha) (m.step hs ha)).mpr (((lo.2.1 _ _ sm hs).mp e).step ha)
theorem in_order_canon (m : Mach rows ms.length b) (hn : 0 < ms.length) (io : InO (fun s => ls.getD s 0) rows ms.length met.length met) (lo : LotsOk rows ms b most ls) :
    Canon none (newRows (fun s => ls.getD s 0) rows met) (newMarks ms met) b ∧ Both b (stepOf (newRows (fun s => ls.getD s 0) rows met)) (stepOf rows) (mkOf none (newMarks ms met)) (markOf ms) 0 0 := by
  have ml : 0 < met.length := (List.getElem?_eq_some_iff.mp io.zero).1
  have nl : (newRows (fun s => ls.getD s 0) rows met).length = met.length := by simp [newRows]
  constructor
  · refine ⟨by simp [newRows, newMarks], fun r hr => ?_, ?_, fun i j hi hj al => ?_⟩
    · obtain ⟨s, hs, e⟩ := List.mem_map.mp hr
      subst e
      rw [List.length_map]
      have hsl : s < rows.length := by rw [m.len]; exact io.mem s hs
      rw [getD_mem hsl]
      exact (m.row _ (List.getElem_mem hsl)).1
    · have := io.grow
      rw [List.take_length] at this
      rw [nl]
      exact this
    · rw [nl] at hi hj
      have si : met[i] < ms.length := io.mem _ (List.getElem_mem hi)
      have sj : met[j] < ms.length := io.mem _ (List.getElem_mem hj)
      have ei : met.getD i 0 = met[i] := getD_mem hi
      have ej : met.getD j 0 = met[j] := getD_mem hj
      have al2 : Alike b (stepOf rows) (markOf ms) met[i] met[j] := fun w hw => by
        rw [← in_order_runs m io lo w i met[i] hi si (by rw [ei]) hw, ← in_order_runs m io lo w j met[j] hj sj (by rw [ej]) hw]
        exact al w hw
      have e := (lo.2.1 _ _ si sj).mpr al2
      exact nd_ix io.nd (x := ls.getD met[i] 0) (by rw [List.getElem?_map, List.getElem?_eq_getElem hi]; rfl) (by rw [List.getElem?_map, List.getElem?_eq_getElem hj, e]; rfl)
  · intro w hw
    have z : met.getD 0 0 = 0 := by rw [List.getD_eq_getElem?_getD, io.zero]; rfl
    exact in_order_runs m io lo w 0 0 ml hn (by rw [z]) hw
theorem InO.len_le {n at_ k : Nat} (io : InO (fun s => ls.getD s 0) rows n at_ met) (h : ∀ s, s < n → ls.getD s 0 < k) : met.length ≤ k := by
  have := nodup_sub_len io.nd (k := List.range k) fun x hx => by
    obtain ⟨s, hs, e⟩ := List.mem_map.mp hx
    rw [List.mem_range, ← e]
    exact h s (io.mem s hs)
  simpa using this
end
end B

namespace B
open PySem L2 MK Hop
def numD (ks : List Nat) : List (Key × V) := ks.zipIdx.map fun p => (Sum.inl (p.1 : Int), V.int (p.2 : Int))
theorem numD_len (ks : List Nat) : (numD ks).length = ks.length := by simp [numD]
theorem numD_snoc (ks : List Nat) (m : Nat) : numD (ks ++ [m]) = numD ks ++ [(Sum.inl (m : Int), V.int (ks.length : Nat))] := by simp [numD, List.zipIdx_append]
theorem valV_numD0 : ∀ (ks : List Nat) (o : Nat) (m : Nat), valV ((ks.zipIdx o).map fun p => ((Sum.inl (p.1 : Int) : Key), V.int (p.2 : Int))) (Sum.inl (m : Int)) = if m ∈ ks then some (V.int ((o + idx ks m : Nat) : Int)) else none
  | [], o, m => by simp [valV]
  | k :: ks, o, m => by
    rw [List.zipIdx_cons, List.map_cons]
    by_cases e : k = m
    · subst e
      rw [valV_pos rfl, idx_cons, if_pos rfl]
      simp
    · rw [valV_neg (fun z => e (by have := Sum.inl.inj z; omega)), valV_numD0 ks (o + 1) m]
      have e' : ¬ m = k := fun z => e z.symm
      by_cases c : m ∈ ks
      · rw [if_pos c, if_pos (List.mem_cons_of_mem _ c), idx_cons, if_neg e]
        congr 2
        omega
      · rw [if_neg c, if_neg (by simp [e', c])]
theorem valV_numD (ks : List Nat) (m : Nat) : valV (numD ks) (Sum.inl (m : Int)) = if m ∈ ks then some (V.int (idx ks m : Nat)) else none := by
  have := valV_numD0 ks 0 m
  simpa [numD] using this
theorem nodup_of_map {α β : Type} {f : α → β} : ∀ {l : List α}, (l.map f).Nodup → l.Nodup
  | [], _ => List.nodup_nil
  | a :: l, h => by
    have h' := List.nodup_cons.mp (show (f a :: l.map f).Nodup from h)
    exact List.nodup_cons.mpr ⟨fun m => h'.1 (List.mem_map_of_mem m), nodup_of_map h'.2⟩
def rTupOf (K : PySem.W.Frag) : List V → Hp → VK → Prop := fun xs H Q => ∃ p ys, xs = [.ref p] ∧ ((SqL K H p ys ∧ ∀ l, H l = none → Q (.ref l) (upd H l (.tup ys))) ∨ (SqT K H p ys ∧ Q (.ref p) H))
/-- a tuple of tuples of numbers -/
structure RowsT (K : PySem.W.Frag) (H : Hp) (a : Addr) (rows : List (List Nat)) : Prop where
  ex : ∃ rs : List Addr, SqT K H a (rs.map V.ref) ∧ rs.length = rows.length ∧ ∀ (i : Nat) (r : Addr), rs[i]? = some r → SqT K H r (nv (rows.getD i []))
/-- the values of the marks of the states that were met -/
def metVals (ws : List V) (met : List Nat) : List V := met.map fun s => ws.getD s .non
def spIno (μ : Type) [DecidableEq μ] (K : PySem.W.Frag) : Sp := fun vs H Q _ => ∃ (st mk lo : Addr) (rows : List (List Nat)) (ms : List (Option μ)) (ws : List V) (ls : List Nat) (b most : Nat), vs = [.ref st, .ref mk, .ref lo] ∧ RowsL K H st rows ∧ SqL K H mk ws ∧ ws.length = ms.length ∧ SqL K H lo (nv ls) ∧ Mach rows ms.length b ∧ 0 < ms.length ∧ ms.length ≤ 50000 ∧ b ≤ 100 ∧ LotsOk rows ms b most ls ∧
  ∀ (p a c : Addr) (H' : Hp) (met : List Nat), H p = none → Same H H' → H' p = some (.tup [.ref a, .ref c]) → RowsT K H' a (newRows (fun s => ls.getD s 0) rows met) → SqT K H' c (metVals ws met) → InO (fun s => ls.getD s 0) rows ms.length met.length met → Q (.ref p) H'
section
variable {P : Program} {w : World} {K : PySem.W.Frag} {mg : Str → Option Value} {base : Heap}
end
end B

namespace B
open PySem L2 MK Hop
/-- the machine that least_machine makes of rows and marks: told by its lists -/
def Least {μ : Type} (rows : List (List Nat)) (ms : List (Option μ)) (b most : Nat) (R : List (List Nat)) (M : List (Option μ)) : Prop :=
  Canon none R M b ∧ Both b (stepOf R) (stepOf rows) (mkOf none M) (markOf ms) 0 0 ∧ R.length ≤ most
def spLmG {μ : Type} [DecidableEq μ] (K : PySem.W.Frag) (Rep : RepT μ) : Sp := fun vs H Q _ => ∃ (st mk : Addr) (rows : List (List Nat)) (ms : List (Option μ)) (ws : List V) (b most : Nat), vs = [.ref st, .ref mk, .int (most : Nat)] ∧ RowsL K H st rows ∧ SqL K H mk ws ∧ Rep H ms ws ∧ ws.length = ms.length ∧ Mach rows ms.length b ∧ 0 < b ∧ 0 < ms.length ∧ ms.length ≤ 50000 ∧ b ≤ 100 ∧
  (∀ H', Same H H' → Wide rows ms b (most + 1) → Q .non H') ∧
  ∀ (p a c : Addr) (H' : Hp) (R : List (List Nat)) (met : List Nat), H p = none → Same H H' → H' p = some (.tup [.ref a, .ref c]) → RowsT K H' a R → SqT K H' c (metVals ws met) → (∀ s, s ∈ met → s < ms.length) → Least rows ms b (most + 1) R (newMarks ms met) → Q (.ref p) H'
def spLm (K : PySem.W.Frag) : Sp := fun vs H Q _ => ∃ (st mk : Addr) (rows : List (List Nat)) (ms : List (Option Bool)) (b most : Nat), vs = [.ref st, .ref mk, .int (most : Nat)] ∧ RowsL K H st rows ∧ SqL K H mk (ms.map mV) ∧ Mach rows ms.length b ∧ 0 < b ∧ 0 < ms.length ∧ ms.length ≤ 50000 ∧ b ≤ 100 ∧
  (∀ H', Same H H' → Wide rows ms b (most + 1) → Q .non H') ∧
  ∀ (p a c : Addr) (H' : Hp) (R : List (List Nat)) (M : List (Option Bool)), H p = none → Same H H' → H' p = some (.tup [.ref a, .ref c]) → RowsT K H' a R → SqT K H' c (M.map mV) → Least rows ms b (most + 1) R M → Q (.ref p) H'
section
variable {P : Program} {w : World} {K : PySem.W.Frag} {mg : Str → Option Value} {base : Heap}
theorem metVals_mV {ms : List (Option Bool)} {met : List Nat} (h : ∀ s, s ∈ met → s < ms.length) : metVals (ms.map mV) met = (newMarks ms met).map mV := by
  unfold metVals newMarks
  rw [List.map_map]
  refine List.map_congr_left fun s hs => ?_
  have sm := h s hs
  show (ms.map mV).getD s .non = mV (ms.getD s none)
  rw [getD_mem sm, getD_mem (show s < (ms.map mV).length by rw [List.length_map]; exact sm), List.getElem_map]
theorem lm_imp : ∀ vs H Q E, spLm K vs H Q E → spLmG K RepB vs H Q E := by
  rintro vs H Q E ⟨st, mk, rows, ms, b, most, rfl, R, hK, hM, hb0, hn0, hn, hb, qN, qR⟩
  exact ⟨st, mk, rows, ms, ms.map mV, b, most, rfl, R, hK, rfl, by rw [List.length_map], hM, hb0, hn0, hn, hb, qN, fun p a c H' R met hp s e ra mc hm le => qR p a c H' R _ hp s e ra (by rw [← metVals_mV hm]; exact mc) le⟩
end
end B

namespace B
open PySem L2 MK Hop
/-- the figures of n in the base b, the foremost first -/
def figs (b n : Nat) : List Nat := if h : n = 0 ∨ b < 2 then [] else figs b (n / b) ++ [n % b]
termination_by n
decreasing_by exact Nat.div_lt_self (by omega) (by omega)
theorem figs_zero {b : Nat} : figs b 0 = [] := by rw [figs]; simp
theorem figs_pos {b n : Nat} (h : 0 < n) (hb : 2 ≤ b) : figs b n = figs b (n / b) ++ [n % b] := by
  rw [figs, dif_neg (by omega)]
theorem figs_lt {b : Nat} (hb : 2 ≤ b) : ∀ (n : Nat) (a : Nat), a ∈ figs b n → a < b := by
  intro n
  induction n using Nat.strongRecOn with
  | ind n ih =>
    intro a ha
    by_cases h : n = 0
    · subst h; rw [figs_zero] at ha; exact absurd ha List.not_mem_nil
    · rw [figs_pos (by omega) hb] at ha
      rcases List.mem_append.mp ha with q | q
      · exact ih (n / b) (Nat.div_lt_self (by omega) (by omega)) a q
      · rw [List.mem_singleton.mp q]; exact Nat.mod_lt _ (by omega)
theorem figs_len {b : Nat} (hb : 2 ≤ b) : ∀ {k n : Nat}, n < 2 ^ k → (figs b n).length ≤ k := by
  intro k
  induction k with
  | zero =>
    intro n h
    have : n = 0 := by simp at h; exact h
    subst this
    rw [figs_zero]; simp
  | succ k ih =>
    intro n h
    by_cases h0 : n = 0
    · subst h0; rw [figs_zero]; simp
    · rw [figs_pos (by omega) hb, List.length_append]
      have h1 : n / b ≤ n / 2 := Nat.div_le_div_left hb (by omega)
      have h2 : n / 2 < 2 ^ k := by rw [Nat.pow_succ] at h; omega
      have := ih (Nat.lt_of_le_of_lt h1 h2)
      simp only [List.length_singleton]
      omega
/-- all stands but what lies at a -/
def Kp1 (a : Addr) (H H' : Hp) : Prop := ∀ (x : Addr) (o : HO), H x = some o → x ≠ a → H' x = some o
def spFig : Sp := fun vs H Q _ => ∃ (n b : Nat), vs = [.int (n : Nat), .int (b : Nat)] ∧ 2 ≤ b ∧ b ≤ 100 ∧ n < 2 ^ 4000 ∧ ∀ p H', H p = none → Same H H' → H' p = some (.lst (nv (figs b n))) → Q (.ref p) H'
section
variable {P : Program} {w : World} {K : PySem.W.Frag} {mg : Str → Option Value} {base : Heap}
end
end B

namespace B
open PySem L2 MK Hop

def spSb (K : PySem.W.Frag) : Sp := fun vs H Q _ => ∃ (st : Addr) (rows : List (List Nat)) (n N b : Nat), vs = [.ref st, .int (n : Nat)] ∧ RowsT K H st rows ∧ Mach rows N b ∧ 0 < N ∧ 2 ≤ b ∧ b ≤ 100 ∧ n < 2 ^ 4000 ∧ ∀ H', Same H H' → Q (.int (runs (stepOf rows) 0 (figs b n) : Nat)) H'
section
variable {P : Program} {w : World} {K : PySem.W.Frag} {mg : Str → Option Value} {base : Heap}
end
end B

namespace B
open PySem L2 MK Hop
/-- a value that is no whole number: its type's name -/
def NoInt (K : PySem.W.Frag) (H : Hp) (x : V) : Prop := ∃ t : String, TyX K H x (.type t) ∧ (t = "bool" ∨ t = "NoneType" ∨ t = "str" ∨ t = "list" ∨ t = "tuple" ∨ t = "dict")
theorem NoInt.kit {K : PySem.W.Frag} {H : Hp} {x : V} (h : NoInt K H x) : ∃ (t : Value) (a b : Bool), TyX K H x t ∧ PySem.W.kitOne K t (.type "int") = some a ∧ PySem.W.kitOne K t (.type "bool") = some b ∧ (a = true → b = true) := by
  obtain ⟨t, h1, h2⟩ := h
  rcases h2 with rfl | rfl | rfl | rfl | rfl | rfl
  · exact ⟨_, true, true, h1, kit_ty (by decide +kernel), kit_ty (by decide +kernel), fun _ => rfl⟩
  all_goals exact ⟨_, false, false, h1, kit_ty (by decide +kernel), kit_ty (by decide +kernel), fun z => nomatch z⟩
def spIw (K : PySem.W.Frag) : Sp := fun vs H Q _ => (∃ i : Int, vs = [.int i] ∧ Q (.bl true) H) ∨ ∃ x, vs = [x] ∧ NoInt K H x ∧ Q (.bl false) H
def spIb (K : PySem.W.Frag) : Sp := fun vs H Q _ => (∃ i lo hi : Int, vs = [.int i, .int lo, .int hi] ∧ Q (.bl (decide (lo ≤ i) && decide (i ≤ hi))) H) ∨ ∃ x lo hi, vs = [x, .int lo, .int hi] ∧ NoInt K H x ∧ Q (.bl false) H
/-- a check of one number that passes -/
def spCk1 (lo hi : Int) : Sp := fun vs H Q _ => ∃ i : Int, vs = [.int i] ∧ lo ≤ i ∧ i ≤ hi ∧ Q .non H
/-- a check of a number by another one that passes -/
def spCk2 : Sp := fun vs H Q _ => ∃ i j : Int, vs = [.int i, .int j] ∧ 0 ≤ i ∧ i < j ∧ Q .non H
section
variable {P : Program} {w : World} {K : PySem.W.Frag} {mg : Str → Option Value} {base : Heap}
end
end B

namespace B
open PySem L2 MK Hop
def tTru (K : PySem.W.Frag) (ta : TE) : TT := fun σ H Q => ta σ H fun x H' => ∃ k, TruV K x H' k ∧ Q k H'
theorem pt_tru {X : Cx} {a : Expr} {ta : TE} (ha : PE X a ta) (he : ∀ whole, isTrue a X.env whole = (do let v ← whole; standAt a.pos; holding [v] (truthy v))) : PT X a (tTru X.K ta) := pt_truth ha he
/-- what is asked of the class of kinds -/
structure KC (K : PySem.W.Frag) (C : Addr) : Prop where
  cls : Cls K C
  steps : NoAttr K C "steps"
  marks : NoAttr K C "marks"
  ways : NoAttr K C "_ways"
/-- an instance that holds a machine -/
def bitOf : Option Bool → Nat
  | some true => 1
  | _ => 0
def KindO (C : Addr) (H : Hp) (x st mk wy : Addr) : Prop := ∃ (dx : Addr), H x = some (.ins C dx [("steps", .ref st), ("marks", .ref mk), ("_ways", .ref wy)])
theorem sqT_kp {K : PySem.W.Frag} {H H' : Hp} {a x C dx : Addr} {xs : List V} {fs : List (Str × V)} (h : SqT K H a xs) (hx : H x = some (.ins C dx fs)) (k : Kp1 x H H') : SqT K H' a xs := by
  rcases h with h | h
  · left
    rcases h with h | ⟨o, h⟩
    · exact .inl (k _ _ h (fun e => by subst e; rw [h] at hx; cases hx))
    · exact .inr ⟨o, k _ _ h (fun e => by subst e; rw [h] at hx; cases hx)⟩
  · exact .inr h
theorem mv_at {xs : List (Option Bool)} {i : Nat} {y : V} (h : (xs.map mV)[i]? = some y) : ∃ x, xs[i]? = some x ∧ y = mV x := by
  simp only [List.getElem?_map, Option.map_eq_some_iff] at h
  obtain ⟨x, h1, h2⟩ := h
  exact ⟨x, h1, h2.symm⟩
def spInit (K : PySem.W.Frag) (C : Addr) : Sp := fun vs H Q _ => ∃ (x dx st mk : Addr) (ms : List (Option Bool)), vs = [.ref x, .ref st, .ref mk] ∧ H x = some (.ins C dx []) ∧ SqT K H mk (ms.map mV) ∧ ms.length ≤ 50000 ∧
  ∀ H' wy w0, Kp1 x H H' → KindO C H' x st mk wy → H wy = none → H w0 = none → H' wy = some (.lst [.ref w0]) → H' w0 = some (.lst (nv (ms.map bitOf))) → Q .non H'
section
variable {P : Program} {w : World} {K : PySem.W.Frag} {mg : Str → Option Value} {base : Heap}
end
end B

namespace B
open PySem L2 MK Hop
/-- a kind in the heap: its machine as lists -/
def KindAt (K : PySem.W.Frag) (C : Addr) (H : Hp) (x : Addr) (R : List (List Nat)) (M : List (Option Bool)) : Prop :=
  ∃ st mk wy, KindO C H x st mk wy ∧ RowsT K H st R ∧ SqT K H mk (M.map mV)
/-- the ways that are kept: new, as yet those of no figures alone -/
def WaysNew (H0 H : Hp) (wy : Addr) (M : List (Option Bool)) : Prop := H0 wy = none ∧ ∃ w0, H0 w0 = none ∧ H wy = some (.lst [.ref w0]) ∧ H w0 = some (.lst (nv (M.map bitOf)))
def KindNew (K : PySem.W.Frag) (C : Addr) (H0 H : Hp) (x : Addr) (R : List (List Nat)) (M : List (Option Bool)) : Prop :=
  ∃ st mk wy, KindO C H x st mk wy ∧ RowsT K H st R ∧ SqT K H mk (M.map mV) ∧ WaysNew H0 H wy M
theorem KindNew.at {K : PySem.W.Frag} {C : Addr} {H0 H : Hp} {x : Addr} {R : List (List Nat)} {M : List (Option Bool)} (h : KindNew K C H0 H x R M) : KindAt K C H x R M := let ⟨st, mk, wy, h1, h2, h3, _⟩ := h; ⟨st, mk, wy, h1, h2, h3⟩
theorem none_back {H0 H1 : Hp} (s : Same H0 H1) {a : Addr} (h : H1 a = none) : H0 a = none := by
  cases e : H0 a with
  | none => rfl
  | some o => rw [s _ _ e] at h; cases h
theorem WaysNew.back {H0 H1 H : Hp} {wy : Addr} {M : List (Option Bool)} (h : WaysNew H1 H wy M) (s : Same H0 H1) : WaysNew H0 H wy M := let ⟨h1, w0, h2, h3, h4⟩ := h; ⟨none_back s h1, w0, none_back s h2, h3, h4⟩
theorem KindNew.back {K : PySem.W.Frag} {C : Addr} {H0 H1 H : Hp} {x : Addr} {R : List (List Nat)} {M : List (Option Bool)} (h : KindNew K C H1 H x R M) (s : Same H0 H1) : KindNew K C H0 H x R M := let ⟨st, mk, wy, h1, h2, h3, h4⟩ := h; ⟨st, mk, wy, h1, h2, h3, h4.back s⟩
theorem RowsT.ext {K : PySem.W.Frag} {H H' : Hp} {a : Addr} {rows : List (List Nat)} (h : RowsT K H a rows) (s : Same H H') : RowsT K H' a rows := by
  obtain ⟨rs, h1, h2, h3⟩ := h.ex
  exact ⟨rs, h1.ext s, h2, fun i r e => (h3 i r e).ext s⟩
theorem RowsT.kp {K : PySem.W.Frag} {H H' : Hp} {a x C dx : Addr} {fs : List (Str × V)} {rows : List (List Nat)} (h : RowsT K H a rows) (hx : H x = some (.ins C dx fs)) (k : Kp1 x H H') : RowsT K H' a rows := by
  obtain ⟨rs, h1, h2, h3⟩ := h.ex
  exact ⟨rs, sqT_kp h1 hx k, h2, fun i r e => sqT_kp (h3 i r e) hx k⟩
/-- the machine with a first state ahead -/
def addStart (rows : List (List Nat)) : List (List Nat) := (0 :: (rows.getD 0 []).tail) :: rows
def addMark (ms : List Bool) : List (Option Bool) := none :: ms.map some
def spKo (K : PySem.W.Frag) (C : Addr) : Sp := fun vs H Q _ => ∃ (r m : Addr) (rows : List (List Nat)) (ms : List Bool) (b : Nat), vs = [.ref r, .ref m] ∧ RowsL K H r rows ∧ SqL K H m (ms.map V.bl) ∧ rows.length = ms.length ∧ 0 < ms.length ∧ ms.length ≤ 40000 ∧ 0 < b ∧ b ≤ 100 ∧
  (∀ r, r ∈ rows → r.length = b ∧ ∀ x, x ∈ r → x < ms.length + 1) ∧
  ∀ (x : Addr) (H' : Hp) (R : List (List Nat)) (M : List (Option Bool)), H x = none → Same H H' → KindNew K C H H' x R M → Least (addStart rows) (addMark ms) b (ms.length + 1) R M → Q (.ref x) H'
theorem addStart_mach {rows : List (List Nat)} {ms : List Bool} {b : Nat} (hl : rows.length = ms.length) (h0 : 0 < ms.length) (hb : 0 < b) (h : ∀ r, r ∈ rows → r.length = b ∧ ∀ x, x ∈ r → x < ms.length + 1) : Mach (addStart rows) (addMark ms).length b := by
  have r00 : 0 < rows.length := by omega
  have e : (addMark ms).length = ms.length + 1 := by simp [addMark]
  rw [e]
  refine ⟨by simp [addStart, hl], fun r hr => ?_⟩
  rcases List.mem_cons.mp hr with q | q
  · subst q
    rw [getD_mem r00]
    obtain ⟨h1, h2⟩ := h _ (List.getElem_mem r00)
    refine ⟨by rw [List.length_cons, List.length_tail]; omega, fun x hx => ?_⟩
    rcases List.mem_cons.mp hx with q | q
    · omega
    · exact h2 x (List.mem_of_mem_tail q)
  · exact h r q
theorem not_wide {rows : List (List Nat)} {ms : List (Option Bool)} {b most : Nat} (h : ms.length ≤ most) : ¬ Wide rows ms b most := by
  rintro ⟨ss, h1, h2, h3⟩
  have nd : ss.Nodup := h3.imp fun {s t} n e => n (by subst e; exact fun _ _ => rfl)
  have := nodup_sub_len nd (k := List.range ms.length) fun s hs => List.mem_range.mpr (h2 s hs)
  rw [List.length_range] at this
  omega
section
variable {P : Program} {w : World} {K : PySem.W.Frag} {mg : Str → Option Value} {base : Heap}
end
end B

namespace B
open PySem L2 MK Hop
/-! ### figures and values -/
def valN (b : Nat) (w : List Nat) : Nat := w.foldl (fun v a => v * b + a) 0
theorem valN_snoc (b : Nat) (w : List Nat) (a : Nat) : valN b (w ++ [a]) = valN b w * b + a := by simp [valN, List.foldl_append]
theorem valN_figs {b : Nat} (hb : 2 ≤ b) : ∀ n : Nat, valN b (figs b n) = n := by
  intro n
  induction n using Nat.strongRecOn with
  | ind n ih =>
    by_cases h : n = 0
    · subst h; rw [figs_zero]; rfl
    · rw [figs_pos (by omega) hb, valN_snoc, ih (n / b) (Nat.div_lt_self (by omega) (by omega))]
      have := Nat.div_add_mod n b
      rw [Nat.mul_comm b] at this
      exact this
theorem figs_valN {b : Nat} (hb : 2 ≤ b) : ∀ (w : List Nat), (∀ a, a ∈ w → a < b) → (∀ a, w.head? = some a → a ≠ 0) → figs b (valN b w) = w := by
  have key : ∀ (k : Nat) (w : List Nat), w.length = k → (∀ a, a ∈ w → a < b) → (∀ a, w.head? = some a → a ≠ 0) → figs b (valN b w) = w := by
    intro k
    induction k with
    | zero =>
      intro w hk _ _
      have : w = [] := List.length_eq_zero_iff.mp hk
      subst this
      exact figs_zero
    | succ k ih =>
      intro w hk hw hh
      have hne : w ≠ [] := fun e => by subst e; simp at hk
      have ew : w = w.dropLast ++ [w.getLast hne] := (List.dropLast_concat_getLast hne).symm
      generalize hu : w.dropLast = u at ew
      generalize ha : w.getLast hne = a at ew
      have ul : u.length = k := by rw [← hu, List.length_dropLast]; omega
      have ab : a < b := hw a (by rw [ew]; simp)
      have ub : ∀ x, x ∈ u → x < b := fun x hx => hw x (by rw [ew]; simp [hx])
      rw [ew, valN_snoc]
      by_cases hu0 : u = []
      · subst hu0
        have a0 : a ≠ 0 := hh a (by rw [ew]; rfl)
        have e0 : valN b [] * b + a = a := by simp [valN]
        rw [e0, figs_pos (by omega) hb, Nat.div_eq_of_lt ab, Nat.mod_eq_of_lt ab, figs_zero]
      · have hh' : ∀ x, u.head? = some x → x ≠ 0 := fun x hx => hh x (by
          rw [ew, List.head?_append, hx]; rfl)
        have e := ih u ul ub hh'
        have v0 : valN b u ≠ 0 := fun z => hu0 (by rw [← e, z, figs_zero])
        have p0 : 0 < valN b u * b + a := by
          have : 0 < valN b u * b := Nat.mul_pos (by omega) (by omega)
          omega
        rw [figs_pos p0 hb]
        have d1 : (valN b u * b + a) / b = valN b u := by
          rw [Nat.add_comm, Nat.add_mul_div_right _ _ (by omega), Nat.div_eq_of_lt ab, Nat.zero_add]
        have d2 : (valN b u * b + a) % b = a := by
          rw [Nat.add_comm, Nat.add_mul_mod_self_right, Nat.mod_eq_of_lt ab]
        rw [d1, d2, e]
  exact fun w hw hh => key _ w rfl hw hh
theorem figs_ne {b n : Nat} (hb : 2 ≤ b) (h : 0 < n) : figs b n ≠ [] := by
  rw [figs_pos h hb]; simp
theorem figs_head {b : Nat} (hb : 2 ≤ b) : ∀ (n : Nat) (a : Nat), (figs b n).head? = some a → a ≠ 0 := by
  intro n
  induction n using Nat.strongRecOn with
  | ind n ih =>
    intro a ha
    by_cases h : n = 0
    · subst h; rw [figs_zero] at ha; cases ha
    · rw [figs_pos (by omega) hb, List.head?_append] at ha
      by_cases q : n / b = 0
      · rw [q, figs_zero] at ha
        have e : n % b = a := by simpa using ha
        have : n < b := by
          rcases Nat.lt_or_ge n b with z | z
          · exact z
          · have := Nat.div_pos z (by omega); omega
        rw [Nat.mod_eq_of_lt this] at e
        omega
      · have hne := figs_ne (n := n / b) hb (Nat.pos_of_ne_zero q)
        have : (figs b (n / b)).head? = some a := by
          cases hc : figs b (n / b) with
          | nil => exact absurd hc hne
          | cons x xs => rw [hc] at ha; exact ha
        exact ih (n / b) (Nat.div_lt_self (by omega) (by omega)) a this
/-! ### the machine of a kind -/
structure KMach (b : Nat) (R : List (List Nat)) (M : List (Option Bool)) (f : Nat → Bool) : Prop where
  canon : Canon none R M b
  b2 : 2 ≤ b
  b16 : b ≤ 16
  small : R.length ≤ 201
  pos : 0 < R.length
  zero : stepOf R 0 0 = 0
  start : mkOf none M 0 = none
  has : ∀ n, 0 < n → mkOf none M (runs (stepOf R) 0 (figs b n)) = some (f n)
theorem runs_zero {R : List (List Nat)} (h : stepOf R 0 0 = 0) (w : List Nat) : runs (stepOf R) 0 (0 :: w) = runs (stepOf R) 0 w := by
  show runs (stepOf R) (stepOf R 0 0) w = _
  rw [h]
/-- what the machine tells of a word -/
theorem KMach.word {b : Nat} {R : List (List Nat)} {M : List (Option Bool)} {f : Nat → Bool} (k : KMach b R M f) : ∀ (w : List Nat), (∀ a, a ∈ w → a < b) → mkOf none M (runs (stepOf R) 0 w) = if valN b w = 0 then none else some (f (valN b w))
  | [], _ => by
    show mkOf none M 0 = _
    rw [k.start]
    rfl
  | a :: w, hw => by
    by_cases h : a = 0
    · subst h
      rw [runs_zero k.zero, k.word w fun x hx => hw x (List.mem_cons_of_mem _ hx)]
      have e : valN b (0 :: w) = valN b w := by simp [valN]
      rw [e]
    · have e := figs_valN k.b2 (a :: w) hw (fun x hx => by cases hx; exact h)
      have v0 : valN b (a :: w) ≠ 0 := fun z => by rw [z, figs_zero] at e; cases e
      rw [if_neg v0]
      have := k.has (valN b (a :: w)) (by omega)
      rw [e] at this
      exact this
theorem kmach_eq {b : Nat} {R1 R2 : List (List Nat)} {M1 M2 : List (Option Bool)} {f g : Nat → Bool} (k1 : KMach b R1 M1 f) (k2 : KMach b R2 M2 g) (h : ∀ n, 0 < n → f n = g n) : R1 = R2 ∧ M1 = M2 := by
  refine canon_eq k1.canon k2.canon fun w hw => ?_
  rw [k1.word w hw, k2.word w hw]
  by_cases v : valN b w = 0
  · rw [if_pos v, if_pos v]
  · rw [if_neg v, if_neg v, h _ (by omega)]
/-- of different bases, or of different numbers: not the same -/
theorem kmach_ne {b : Nat} {R1 R2 : List (List Nat)} {M1 M2 : List (Option Bool)} {f g : Nat → Bool} (k1 : KMach b R1 M1 f) (k2 : KMach b R2 M2 g) (e : R1 = R2) (e' : M1 = M2) : ∀ n, 0 < n → f n = g n := by
  subst e; subst e'
  intro n hn
  have := (k1.has n hn).symm.trans (k2.has n hn)
  exact Option.some.inj this
theorem kmach_base {b c : Nat} {R : List (List Nat)} {M M2 : List (Option Bool)} {f g : Nat → Bool} (k1 : KMach b R M f) (k2 : KMach c R M2 g) : b = c := by
  have p := k1.pos
  rw [← k1.canon.wid _ (List.getElem_mem p), k2.canon.wid _ (List.getElem_mem p)]
/-- the machine that comes out of _kind_of -/
theorem of_least {b most : Nat} {rows : List (List Nat)} {ms : List Bool} {R : List (List Nat)} {M : List (Option Bool)} {f : Nat → Bool} (hb : 2 ≤ b) (hb' : b ≤ 16) (hm : most ≤ 201) (le : Least (addStart rows) (addMark ms) b most R M) (hr : ∀ r, r ∈ rows → r.length = b) (h0 : 0 < rows.length)
    (h : ∀ n, 0 < n → markOf (addMark ms) (runs (stepOf (addStart rows)) 1 (figs b n)) = some (f n)) : KMach b R M f := by
  obtain ⟨c, bo, l⟩ := le
  have z1 : stepOf (addStart rows) 0 0 = 0 := rfl
  have p : 0 < R.length := by
    rcases Nat.eq_zero_or_pos R.length with z | z
    · have g := c.grow
      have : R = [] := List.length_eq_zero_iff.mp z
      subst this
      have e : (1 : Nat) = 0 := g
      omega
    · exact z
  have st : mkOf none M 0 = none := bo [] (fun _ h => absurd h List.not_mem_nil)
  have hs0 : stepOf R 0 0 < R.length := c.mach.step p (by omega)
  have zr : stepOf R 0 0 = 0 := by
    refine c.min _ _ hs0 p fun w hw => ?_
    have e1 := bo (0 :: w) (fun a ha => by
      rcases List.mem_cons.mp ha with q | q
      · omega
      · exact hw a q)
    have e2 := bo w hw
    rw [show runs (stepOf (addStart rows)) 0 (0 :: w) = runs (stepOf (addStart rows)) 0 w from runs_zero z1 w] at e1
    exact e1.trans e2.symm
  refine ⟨c, hb, hb', by omega, p, zr, st, fun n hn => ?_⟩
  rw [bo (figs b n) (figs_lt hb n), ← h n hn]
  cases hf : figs b n with
  | nil => exact absurd hf (figs_ne hb hn)
  | cons a w =>
    have a0 : a ≠ 0 := figs_head hb n a (by rw [hf]; rfl)
    show markOf (addMark ms) (runs _ (stepOf (addStart rows) 0 a) w) = markOf (addMark ms) (runs _ (stepOf (addStart rows) 1 a) w)
    have e : stepOf (addStart rows) 0 a = stepOf (addStart rows) 1 a := by
      obtain ⟨r, rs, rfl⟩ : ∃ r rs, rows = r :: rs := by
        cases rows with
        | nil => simp at h0
        | cons r rs => exact ⟨r, rs, rfl⟩
      show (0 :: r.tail).getD a 0 = r.getD a 0
      cases a with
      | zero => exact absurd rfl a0
      | succ a =>
        cases r with
        | nil => rfl
        | cons x xs => rfl
    rw [e]
end B

namespace B
open PySem L2 MK Hop
/-! ### the machines of the six functions -/
def rowIs (b f : Nat) : List Nat := (List.range b).map fun one => if one = f then 2 else 1
def rowsRest (b m g : Nat) : List (List Nat) := (List.range m).map fun s => (List.range b).map fun a => (s * g + a) % m + 1
def marksRest (m r : Nat) : List Bool := (List.range m).map fun s => decide (s = r)
theorem rowIs_get {b f a : Nat} (h : a < b) : (rowIs b f).getD a 0 = if a = f then 2 else 1 := by
  rw [getD_mem (by simp [rowIs, h])]
  simp [rowIs]
theorem rep_get {b v a : Nat} (h : a < b) : (List.replicate b v).getD a 0 = v := by
  rw [getD_mem (by simp [h])]
  simp
theorem runs_snoc (step : Nat → Nat → Nat) (s : Nat) (w : List Nat) (a : Nat) : runs step s (w ++ [a]) = step (runs step s w) a := by
  unfold runs
  rw [List.foldl_append]
  rfl
theorem runs_bears {b f : Nat} : ∀ (w : List Nat), (∀ a, a ∈ w → a < b) → runs (stepOf (addStart [rowIs b f, List.replicate b 2])) 1 w = if f ∈ w then 2 else 1 := by
  have two : ∀ (w : List Nat), (∀ a, a ∈ w → a < b) → runs (stepOf (addStart [rowIs b f, List.replicate b 2])) 2 w = 2 := by
    intro w
    induction w with
    | nil => intro _; rfl
    | cons a w ih =>
      intro hw
      show runs _ (stepOf (addStart [rowIs b f, List.replicate b 2]) 2 a) w = 2
      have : stepOf (addStart [rowIs b f, List.replicate b 2]) 2 a = 2 := rep_get (hw a List.mem_cons_self)
      rw [this]
      exact ih fun x hx => hw x (List.mem_cons_of_mem _ hx)
  intro w
  induction w with
  | nil => intro _; rfl
  | cons a w ih =>
    intro hw
    show runs _ (stepOf (addStart [rowIs b f, List.replicate b 2]) 1 a) w = _
    have : stepOf (addStart [rowIs b f, List.replicate b 2]) 1 a = if a = f then 2 else 1 := rowIs_get (hw a List.mem_cons_self)
    rw [this]
    have hw' : ∀ x, x ∈ w → x < b := fun x hx => hw x (List.mem_cons_of_mem _ hx)
    by_cases c : a = f
    · rw [if_pos c, two w hw', if_pos (by simp [c])]
    · rw [if_neg c, ih hw']
      by_cases d : f ∈ w
      · rw [if_pos d, if_pos (List.mem_cons_of_mem _ d)]
      · rw [if_neg d, if_neg (by simp only [List.mem_cons, not_or]; exact ⟨fun e => c e.symm, d⟩)]
theorem has_bears {b f : Nat} (hb : 2 ≤ b) (n : Nat) : markOf (addMark [false, true]) (runs (stepOf (addStart [rowIs b f, List.replicate b 2])) 1 (figs b n)) = some (decide (f ∈ figs b n)) := by
  rw [runs_bears _ (figs_lt hb n)]
  by_cases c : f ∈ figs b n
  · rw [if_pos c, decide_eq_true c]; rfl
  · rw [if_neg c, decide_eq_false c]; rfl
theorem has_ends {b f : Nat} (hb : 2 ≤ b) (n : Nat) (hn : 0 < n) : markOf (addMark [false, true]) (runs (stepOf (addStart [rowIs b f, rowIs b f])) 1 (figs b n)) = some (decide (n % b = f)) := by
  have lt := figs_lt hb (n / b)
  have two : ∀ (w : List Nat), (∀ a, a ∈ w → a < b) → ∀ s, (s = 1 ∨ s = 2) → (runs (stepOf (addStart [rowIs b f, rowIs b f])) s w = 1 ∨ runs (stepOf (addStart [rowIs b f, rowIs b f])) s w = 2) := by
    intro w
    induction w with
    | nil => intro _ s hs; exact hs
    | cons a w ih =>
      intro hw s hs
      refine ih (fun x hx => hw x (List.mem_cons_of_mem _ hx)) _ ?_
      have e : stepOf (addStart [rowIs b f, rowIs b f]) s a = if a = f then 2 else 1 := by
        rcases hs with rfl | rfl <;> exact rowIs_get (hw a List.mem_cons_self)
      rw [e]
      by_cases c : a = f
      · rw [if_pos c]; exact .inr rfl
      · rw [if_neg c]; exact .inl rfl
  rw [figs_pos hn hb, runs_snoc]
  have hs := two (figs b (n / b)) lt 1 (.inl rfl)
  have e : stepOf (addStart [rowIs b f, rowIs b f]) (runs (stepOf (addStart [rowIs b f, rowIs b f])) 1 (figs b (n / b))) (n % b) = if n % b = f then 2 else 1 := by
    rcases hs with h | h <;> rw [h] <;> exact rowIs_get (Nat.mod_lt _ (by omega))
  rw [e]
  by_cases c : n % b = f
  · rw [if_pos c, decide_eq_true c]; rfl
  · rw [if_neg c, decide_eq_false c]; rfl
theorem has_every {b : Nat} (hb : 2 ≤ b) (n : Nat) : markOf (addMark [true]) (runs (stepOf (addStart [List.replicate b 1])) 1 (figs b n)) = some true := by
  have two : ∀ (w : List Nat), (∀ a, a ∈ w → a < b) → runs (stepOf (addStart [List.replicate b 1])) 1 w = 1 := by
    intro w
    induction w with
    | nil => intro _; rfl
    | cons a w ih =>
      intro hw
      show runs _ (stepOf (addStart [List.replicate b 1]) 1 a) w = 1
      have : stepOf (addStart [List.replicate b 1]) 1 a = 1 := rep_get (hw a List.mem_cons_self)
      rw [this]
      exact ih fun x hx => hw x (List.mem_cons_of_mem _ hx)
  rw [two _ (figs_lt hb n)]
  rfl
def remOf (m g s : Nat) (w : List Nat) : Nat := w.foldl (fun s a => (s * g + a) % m) s
theorem remOf_lt {m g : Nat} (hm : 0 < m) : ∀ (w : List Nat) (s : Nat), s < m → remOf m g s w < m
  | [], _, h => h
  | a :: w, s, _ => remOf_lt hm w _ (Nat.mod_lt _ hm)
theorem rest_step {b m g s a : Nat} (hs : s < m) (ha : a < b) : stepOf (addStart (rowsRest b m g)) (s + 1) a = (s * g + a) % m + 1 := by
  show ((rowsRest b m g).getD s []).getD a 0 = _
  rw [getD_mem (show s < (rowsRest b m g).length by simp [rowsRest, hs])]
  have e : (rowsRest b m g)[s]'(by simp [rowsRest, hs]) = (List.range b).map fun a => (s * g + a) % m + 1 := by simp [rowsRest]
  rw [e, getD_mem (by simp [ha])]
  simp
theorem runs_rest {b m g : Nat} (hm : 0 < m) : ∀ (w : List Nat), (∀ a, a ∈ w → a < b) → ∀ s, s < m → runs (stepOf (addStart (rowsRest b m g))) (s + 1) w = remOf m g s w + 1
  | [], _, s, _ => rfl
  | a :: w, hw, s, hs => by
    show runs _ (stepOf (addStart (rowsRest b m g)) (s + 1) a) w = _
    rw [rest_step hs (hw a List.mem_cons_self)]
    exact runs_rest hm w (fun x hx => hw x (List.mem_cons_of_mem _ hx)) _ (Nat.mod_lt _ hm)
theorem has_byrest {b m g r : Nat} (hb : 2 ≤ b) (hm : 0 < m) (n : Nat) : markOf (addMark (marksRest m r)) (runs (stepOf (addStart (rowsRest b m g))) 1 (figs b n)) = some (decide (remOf m g 0 (figs b n) = r)) := by
  have h := runs_rest (b := b) (g := g) hm (figs b n) (figs_lt hb n) 0 hm
  rw [Nat.zero_add] at h
  rw [h]
  have l := remOf_lt (g := g) hm (figs b n) 0 hm
  generalize remOf m g 0 (figs b n) = s at l ⊢
  show ((marksRest m r).map some).getD s none = _
  rw [getD_mem (by simp [marksRest, l])]
  simp [marksRest]
theorem remOf_val {b m : Nat} (hm : 0 < m) : ∀ (w : List Nat) (s v : Nat), s = v % m → remOf m b s w = (w.foldl (fun v a => v * b + a) v) % m
  | [], s, v, h => h
  | a :: w, s, v, h => by
    refine remOf_val hm w _ _ ?_
    show (s * b + a) % m = (v * b + a) % m
    rw [h, Nat.add_mod, Nat.mod_mul_mod, ← Nat.add_mod]
theorem remOf_sum {m : Nat} (hm : 0 < m) : ∀ (w : List Nat) (s v : Nat), s = v % m → remOf m 1 s w = (v + w.sum) % m
  | [], s, v, h => by simpa [remOf] using h
  | a :: w, s, v, h => by
    have := remOf_sum hm w ((s * 1 + a) % m) (v + a) (by rw [h, Nat.mul_one, Nat.mod_add_mod])
    rw [List.sum_cons, ← Nat.add_assoc]
    exact this
theorem has_rest {b m r : Nat} (hb : 2 ≤ b) (hm : 0 < m) (n : Nat) : markOf (addMark (marksRest m r)) (runs (stepOf (addStart (rowsRest b m b))) 1 (figs b n)) = some (decide (n % m = r)) := by
  rw [has_byrest hb hm]
  have := remOf_val (b := b) hm (figs b n) 0 0 (Nat.zero_mod m).symm
  rw [this]
  have e := valN_figs hb n
  unfold valN at e
  rw [e]
theorem has_sum {b m r : Nat} (hb : 2 ≤ b) (hm : 0 < m) (n : Nat) : markOf (addMark (marksRest m r)) (runs (stepOf (addStart (rowsRest b m 1))) 1 (figs b n)) = some (decide ((figs b n).sum % m = r)) := by
  rw [has_byrest hb hm]
  have := remOf_sum hm (figs b n) 0 0 (Nat.zero_mod m).symm
  rw [this, Nat.zero_add]
end B

namespace B
open PySem L2 MK Hop
/-! ### two machines side by side -/
def prodRow (w : Nat) (r q : List Nat) : List Nat := (r.zip q).map fun p => p.1 * w + p.2
def prodRows (R S : List (List Nat)) : List (List Nat) := (List.range (R.length * S.length)).map fun c => prodRow S.length (R.getD (c / S.length) []) (S.getD (c % S.length) [])
section
variable {R S : List (List Nat)} {b : Nat}
theorem prod_get (mR : Mach R R.length b) (mS : Mach S S.length b) {c : Nat} (hc : c < R.length * S.length) : (prodRows R S).getD c [] = prodRow S.length (R.getD (c / S.length) []) (S.getD (c % S.length) []) := by
  rw [getD_mem (by simp [prodRows, hc])]
  simp [prodRows]
theorem divs {c n m : Nat} (hm : 0 < m) (hc : c < n * m) : c / m < n ∧ c % m < m := ⟨Nat.div_lt_of_lt_mul (by rw [Nat.mul_comm]; exact hc), Nat.mod_lt _ hm⟩
theorem row_len {n : Nat} (mR : Mach R n b) {i : Nat} (hi : i < n) : (R.getD i []).length = b := by
  have h : i < R.length := by rw [mR.len]; exact hi
  rw [getD_mem h]
  exact (mR.row _ (List.getElem_mem h)).1
theorem prod_step (mR : Mach R R.length b) (mS : Mach S S.length b) {c a : Nat} (hc : c < R.length * S.length) (ha : a < b) : stepOf (prodRows R S) c a = stepOf R (c / S.length) a * S.length + stepOf S (c % S.length) a := by
  have hS : 0 < S.length := by
    rcases Nat.eq_zero_or_pos S.length with z | z
    · rw [z, Nat.mul_zero] at hc; omega
    · exact z
  obtain ⟨h1, h2⟩ := divs hS hc
  have l1 := row_len mR h1
  have l2 := row_len mS h2
  unfold stepOf
  rw [prod_get mR mS hc]
  unfold prodRow
  generalize R.getD (c / S.length) [] = r at l1
  generalize S.getD (c % S.length) [] = q at l2
  rw [getD_mem (show a < ((r.zip q).map fun p => p.1 * S.length + p.2).length by rw [List.length_map, List.length_zip, l1, l2]; omega), List.getElem_map, List.getElem_zip]
  have e1 : r.getD a 0 = r[a]'(by omega) := getD_mem (by omega)
  have e2 : q.getD a 0 = q[a]'(by omega) := getD_mem (by omega)
  rw [e1, e2]
theorem prod_mach (mR : Mach R R.length b) (mS : Mach S S.length b) : Mach (prodRows R S) (R.length * S.length) b := by
  refine ⟨by simp [prodRows], fun r hr => ?_⟩
  obtain ⟨c, hc, e⟩ := List.mem_map.mp hr
  have hc' := List.mem_range.mp hc
  have hS : 0 < S.length := by
    rcases Nat.eq_zero_or_pos S.length with z | z
    · rw [z, Nat.mul_zero] at hc'; omega
    · exact z
  obtain ⟨h1, h2⟩ := divs hS hc'
  subst e
  refine ⟨by unfold prodRow; rw [List.length_map, List.length_zip, row_len mR h1, row_len mS h2, Nat.min_self], fun x hx => ?_⟩
  obtain ⟨⟨u, v⟩, hp, e⟩ := List.mem_map.mp hx
  subst e
  have hu := (List.of_mem_zip hp).1
  have hv := (List.of_mem_zip hp).2
  have g1 : R.getD (c / S.length) [] ∈ R := by rw [getD_mem h1]; exact List.getElem_mem _
  have g2 : S.getD (c % S.length) [] ∈ S := by rw [getD_mem h2]; exact List.getElem_mem _
  have u1 := (mR.row _ g1).2 u hu
  have v1 := (mS.row _ g2).2 v hv
  show u * S.length + v < R.length * S.length
  have : (u + 1) * S.length ≤ R.length * S.length := Nat.mul_le_mul_right _ u1
  rw [Nat.add_mul, Nat.one_mul] at this
  omega
theorem code_div {x y w : Nat} (h : y < w) : (x * w + y) / w = x ∧ (x * w + y) % w = y := by
  constructor
  · rw [Nat.add_comm, Nat.add_mul_div_right _ _ (by omega), Nat.div_eq_of_lt h, Nat.zero_add]
  · rw [Nat.add_comm, Nat.add_mul_mod_self_right, Nat.mod_eq_of_lt h]
theorem mach_runs {n : Nat} (mR : Mach R n b) : ∀ (w : List Nat), (∀ a, a ∈ w → a < b) → ∀ s, s < n → runs (stepOf R) s w < n
  | [], _, s, hs => hs
  | a :: w, hw, s, hs => mach_runs mR w (fun x hx => hw x (List.mem_cons_of_mem _ hx)) _ (mR.step hs (hw a List.mem_cons_self))
theorem prod_runs (mR : Mach R R.length b) (mS : Mach S S.length b) : ∀ (w : List Nat), (∀ a, a ∈ w → a < b) → ∀ x y, x < R.length → y < S.length → runs (stepOf (prodRows R S)) (x * S.length + y) w = runs (stepOf R) x w * S.length + runs (stepOf S) y w
  | [], _, x, y, _, _ => rfl
  | a :: w, hw, x, y, hx, hy => by
    have ha := hw a List.mem_cons_self
    have hc : x * S.length + y < R.length * S.length := by
      have : (x + 1) * S.length ≤ R.length * S.length := Nat.mul_le_mul_right _ hx
      rw [Nat.add_mul, Nat.one_mul] at this
      omega
    show runs _ (stepOf (prodRows R S) (x * S.length + y) a) w = runs _ (stepOf R x a) w * S.length + runs _ (stepOf S y a) w
    rw [prod_step mR mS hc ha, (code_div hy).1, (code_div hy).2]
    exact prod_runs mR mS w (fun z hz => hw z (List.mem_cons_of_mem _ hz)) _ _ (mR.step hx ha) (mS.step hy ha)
end
/-! ### the walk that numbers the states as they are met -/
section
variable {P : List (List Nat)} {N b : Nat} {met : List Nat}
abbrev Met (P : List (List Nat)) (N at_ : Nat) (met : List Nat) : Prop := InO (fun s => s) P N at_ met
theorem met_step (m : Mach P N b) (io : Met P N met.length met) {i a : Nat} (hi : i < met.length) (ha : a < b) :
    stepOf (newRows (fun s => s) P met) i a < met.length ∧ met.getD (stepOf (newRows (fun s => s) P met) i a) 0 = stepOf P (met.getD i 0) a := by
  have gi : met.getD i 0 = met[i] := getD_mem hi
  have sm := io.mem _ (List.getElem_mem hi)
  have hl : (P.getD met[i] []).length = b := row_len m sm
  have cl := io.closed met[i] (by rw [List.take_length]; exact List.getElem_mem hi)
  have e0 : (newRows (fun s => s) P met).getD i [] = (P.getD met[i] []).map (fOf (fun s => s) met) := by
    show (met.map fun s => (P.getD s []).map (fOf (fun s => s) met)).getD i [] = _
    rw [getD_mem (show i < (met.map fun s => (P.getD s []).map (fOf (fun s => s) met)).length by rw [List.length_map]; exact hi), List.getElem_map]
  unfold stepOf
  rw [e0, gi]
  generalize P.getD met[i] [] = row at hl cl
  have ha' : a < row.length := by omega
  have cl' := cl row[a] (List.getElem_mem ha')
  rw [List.map_id'] at cl'
  have e1 : (row.map (fOf (fun s => s) met)).getD a 0 = idx met row[a] := by
    rw [getD_mem (show a < (row.map (fOf (fun s => s) met)).length by rw [List.length_map]; exact ha'), List.getElem_map]
    unfold fOf
    rw [List.map_id']
  rw [e1, getD_mem ha']
  refine ⟨idx_lt cl', ?_⟩
  have g := idx_get cl'
  rw [List.getD_eq_getElem?_getD, g]
  rfl
theorem met_runs (m : Mach P N b) (io : Met P N met.length met) : ∀ (w : List Nat), (∀ a, a ∈ w → a < b) → ∀ i, i < met.length →
    runs (stepOf (newRows (fun s => s) P met)) i w < met.length ∧ met.getD (runs (stepOf (newRows (fun s => s) P met)) i w) 0 = runs (stepOf P) (met.getD i 0) w
  | [], _, i, hi => ⟨hi, rfl⟩
  | a :: w, hw, i, hi => by
    obtain ⟨h1, h2⟩ := met_step m io hi (hw a List.mem_cons_self)
    obtain ⟨h3, h4⟩ := met_runs m io w (fun x hx => hw x (List.mem_cons_of_mem _ hx)) _ h1
    refine ⟨h3, ?_⟩
    show met.getD (runs _ (stepOf (newRows (fun s => s) P met) i a) w) 0 = runs _ (stepOf P (met.getD i 0) a) w
    rw [h4, h2]
theorem met_zero (io : Met P N met.length met) {i : Nat} (hi : i < met.length) : met.getD i 0 = 0 ↔ i = 0 := by
  have h0 : 0 < met.length := (List.getElem?_eq_some_iff.mp io.zero).1
  have z : met[0] = 0 := (List.getElem?_eq_some_iff.mp io.zero).2
  rw [getD_mem hi]
  constructor
  · intro e
    have nd := io.nd
    rw [List.map_id'] at nd
    have a1 := idx_nd nd hi
    rw [e, ← z, idx_nd nd h0] at a1
    exact a1.symm
  · intro e
    subst e
    exact z
end
/-! ### the machine of what an operator gives -/
def codeMark (op : Bool → Bool → Bool) (m n : Option Bool) : Option Bool := match m, n with
  | some x, some y => some (op x y)
  | _, _ => none
def prodMarks (op : Bool → Bool → Bool) (w : Nat) (M N : List (Option Bool)) (met : List Nat) : List (Option Bool) := met.map fun c => codeMark op (M.getD (c / w) none) (N.getD (c % w) none)
theorem KMach.none_iff {b : Nat} {R : List (List Nat)} {M : List (Option Bool)} {f : Nat → Bool} (k : KMach b R M f) (w : List Nat) (hw : ∀ a, a ∈ w → a < b) : runs (stepOf R) 0 w = 0 ↔ valN b w = 0 := by
  constructor
  · intro e
    have h := k.word w hw
    rw [e, k.start] at h
    by_cases c : valN b w = 0
    · exact c
    · rw [if_neg c] at h; cases h
  · intro e
    have key : ∀ w : List Nat, (∀ a, a ∈ w → a < b) → valN b w = 0 → ∀ a, a ∈ w → a = 0 := by
      intro w
      induction w with
      | nil => intro _ _ a ha; exact absurd ha List.not_mem_nil
      | cons a w ih =>
        intro hw hv x hx
        have a0 : a = 0 := by
          by_cases h : a = 0
          · exact h
          · have e := figs_valN k.b2 (a :: w) hw (fun x hx => by cases hx; exact h)
            rw [hv, figs_zero] at e
            cases e
        rcases List.mem_cons.mp hx with q | q
        · rw [q]; exact a0
        · subst a0
          refine ih (fun y hy => hw y (List.mem_cons_of_mem _ hy)) ?_ x q
          rw [← hv]
          simp [valN]
    have z := key w hw e
    clear e
    induction w with
    | nil => rfl
    | cons a w ih =>
      have a0 := z a List.mem_cons_self
      subst a0
      rw [runs_zero k.zero]
      exact ih (fun y hy => hw y (List.mem_cons_of_mem _ hy)) fun y hy => z y (List.mem_cons_of_mem _ hy)
theorem join_word {b : Nat} {R1 R2 : List (List Nat)} {M1 M2 : List (Option Bool)} {f g : Nat → Bool} {op : Bool → Bool → Bool} (k1 : KMach b R1 M1 f) (k2 : KMach b R2 M2 g) {met : List Nat} (io : Met (prodRows R1 R2) (R1.length * R2.length) met.length met) (w : List Nat) (hw : ∀ a, a ∈ w → a < b) :
    markOf (prodMarks op R2.length M1 M2 met) (runs (stepOf (newRows (fun s => s) (prodRows R1 R2) met)) 0 w) = if valN b w = 0 then none else some (op (f (valN b w)) (g (valN b w))) := by
  have h0 : 0 < met.length := (List.getElem?_eq_some_iff.mp io.zero).1
  have z : met.getD 0 0 = 0 := (met_zero io h0).mpr rfl
  have m1 := k1.canon.mach
  have m2 := k2.canon.mach
  obtain ⟨h1, h2⟩ := met_runs (prod_mach m1 m2) io w hw 0 h0
  rw [z] at h2
  have h3 := prod_runs m1 m2 w hw 0 0 k1.pos k2.pos
  rw [Nat.zero_mul] at h3
  rw [h3] at h2
  generalize runs (stepOf (newRows (fun s => s) (prodRows R1 R2) met)) 0 w = i at h1 h2
  have l2 := mach_runs m2 w hw 0 k2.pos
  have hm : markOf (prodMarks op R2.length M1 M2 met) i = codeMark op (M1.getD (runs (stepOf R1) 0 w) none) (M2.getD (runs (stepOf R2) 0 w) none) := by
    show (met.map fun c => codeMark op (M1.getD (c / R2.length) none) (M2.getD (c % R2.length) none)).getD i none = _
    rw [getD_mem (show i < (met.map fun c => codeMark op (M1.getD (c / R2.length) none) (M2.getD (c % R2.length) none)).length by rw [List.length_map]; exact h1), List.getElem_map]
    rw [getD_mem h1] at h2
    rw [h2, (code_div l2).1, (code_div l2).2]
  rw [hm]
  have w1 := k1.word w hw
  have w2 := k2.word w hw
  unfold mkOf at w1 w2
  rw [w1, w2]
  by_cases v : valN b w = 0
  · rw [if_pos v, if_pos v, if_pos v]; rfl
  · rw [if_neg v, if_neg v, if_neg v]; rfl
/-- a machine told by its words -/
theorem kmach_of {b most : Nat} {rows : List (List Nat)} {ms : List (Option Bool)} {R : List (List Nat)} {M : List (Option Bool)} {f : Nat → Bool} (hb : 2 ≤ b) (hb' : b ≤ 16) (hm : most ≤ 201) (le : Least rows ms b most R M)
    (h : ∀ w : List Nat, (∀ a, a ∈ w → a < b) → markOf ms (runs (stepOf rows) 0 w) = if valN b w = 0 then none else some (f (valN b w))) : KMach b R M f := by
  obtain ⟨c, bo, l⟩ := le
  have p : 0 < R.length := by
    rcases Nat.eq_zero_or_pos R.length with z | z
    · have g := c.grow
      have : R = [] := List.length_eq_zero_iff.mp z
      subst this
      have e : (1 : Nat) = 0 := g
      omega
    · exact z
  have hs0 : stepOf R 0 0 < R.length := c.mach.step p (by omega)
  have zr : stepOf R 0 0 = 0 := by
    refine c.min _ _ hs0 p fun w hw => ?_
    have hw0 : ∀ a, a ∈ (0 :: w) → a < b := fun a ha => by
      rcases List.mem_cons.mp ha with q | q
      · omega
      · exact hw a q
    have e1 := (bo (0 :: w) hw0).trans (h (0 :: w) hw0)
    have e2 := (bo w hw).trans (h w hw)
    have ev : valN b (0 :: w) = valN b w := by simp [valN]
    rw [ev] at e1
    exact e1.trans e2.symm
  refine ⟨c, hb, hb', by omega, p, zr, ?_, fun n hn => ?_⟩
  · have e := (bo [] (fun _ h => absurd h List.not_mem_nil)).trans (h [] (fun _ h => absurd h List.not_mem_nil))
    exact e
  · have e := (bo (figs b n) (figs_lt hb n)).trans (h (figs b n) (figs_lt hb n))
    rw [valN_figs hb, if_neg (by omega)] at e
    exact e
end B

namespace B
open PySem L2 MK Hop
def KindHas (K : PySem.W.Frag) (C : Addr) (H : Hp) (x : Addr) (b : Nat) (f : Nat → Bool) : Prop := ∃ R M, KindAt K C H x R M ∧ KMach b R M f
def KindNewHas (K : PySem.W.Frag) (C : Addr) (H0 H : Hp) (x : Addr) (b : Nat) (f : Nat → Bool) : Prop := ∃ R M, KindNew K C H0 H x R M ∧ KMach b R M f
theorem KindNewHas.has {K : PySem.W.Frag} {C : Addr} {H0 H : Hp} {x : Addr} {b : Nat} {f : Nat → Bool} (h : KindNewHas K C H0 H x b f) : KindHas K C H x b f := let ⟨R, M, h1, h2⟩ := h; ⟨R, M, h1.at, h2⟩
theorem KindNewHas.back {K : PySem.W.Frag} {C : Addr} {H0 H1 H : Hp} {x : Addr} {b : Nat} {f : Nat → Bool} (h : KindNewHas K C H1 H x b f) (s : Same H0 H1) : KindNewHas K C H0 H x b f := let ⟨R, M, h1, h2⟩ := h; ⟨R, M, h1.back s, h2⟩
def Gets (K : PySem.W.Frag) (C : Addr) (H : Hp) (Q : VK) (b : Nat) (f : Nat → Bool) : Prop := ∀ (x : Addr) (H' : Hp), H x = none → Same H H' → KindNewHas K C H H' x b f → Q (.ref x) H'
def spEvery (K : PySem.W.Frag) (C : Addr) : Sp := fun vs H Q _ => ∃ b : Nat, vs = [.int (b : Nat)] ∧ 2 ≤ b ∧ b ≤ 16 ∧ Gets K C H Q b fun _ => true
def spEnds (K : PySem.W.Frag) (C : Addr) : Sp := fun vs H Q _ => ∃ b f : Nat, vs = [.int (b : Nat), .int (f : Nat)] ∧ 2 ≤ b ∧ b ≤ 16 ∧ f < b ∧ Gets K C H Q b fun n => decide (n % b = f)
def spBears (K : PySem.W.Frag) (C : Addr) : Sp := fun vs H Q _ => ∃ b f : Nat, vs = [.int (b : Nat), .int (f : Nat)] ∧ 2 ≤ b ∧ b ≤ 16 ∧ f < b ∧ Gets K C H Q b fun n => decide (f ∈ figs b n)
theorem same_new {H : Hp} {a : Addr} {o : HO} (h : H a = none) : Same H (upd H a o) := fun x u e => by rw [upd_ne (ne_of_none e h)]; exact e
/-- from what _kind_of promises -/
theorem gets_ko {K : PySem.W.Frag} {C : Addr} {H H1 : Hp} {Q : VK} {b : Nat} {f : Nat → Bool} {rows : List (List Nat)} {ms : List Bool} (g : Gets K C H Q b f) (s1 : Same H H1) (hb : 2 ≤ b) (hb' : b ≤ 16) (hm : ms.length ≤ 200) (hr : ∀ r, r ∈ rows → r.length = b) (h0 : 0 < rows.length)
    (h : ∀ n, 0 < n → markOf (addMark ms) (runs (stepOf (addStart rows)) 1 (figs b n)) = some (f n)) :
    ∀ (x : Addr) (H' : Hp) (R : List (List Nat)) (M : List (Option Bool)), H1 x = none → Same H1 H' → KindNew K C H1 H' x R M → Least (addStart rows) (addMark ms) b (ms.length + 1) R M → Q (.ref x) H' := fun x H' R M hx s2 ka le => g x H' (by
      cases e : H x with
      | none => rfl
      | some o => rw [s1 _ _ e] at hx; cases hx) (fun y o e => s2 _ _ (s1 _ _ e)) ⟨R, M, ka.back s1, of_least hb hb' (by omega) le hr h0 h⟩
section
variable {P : Program} {w : World} {K : PySem.W.Frag} {mg : Str → Option Value} {base : Heap}
end
end B

namespace B
open PySem L2 MK Hop
theorem Gets.congr {K : PySem.W.Frag} {C : Addr} {H : Hp} {Q : VK} {b : Nat} {f g : Nat → Bool} (h : Gets K C H Q b f) (e : ∀ n, 0 < n → g n = f n) : Gets K C H Q b g := fun x H' hx s ⟨R, M, ka, km⟩ => h x H' hx s ⟨R, M, ka, { km with has := fun n hn => by rw [km.has n hn, e n hn] }⟩
def spByRest (K : PySem.W.Frag) (C : Addr) : Sp := fun vs H Q _ => ∃ b m r g : Nat, vs = [.int (b : Nat), .int (m : Nat), .int (r : Nat), .int (g : Nat)] ∧ 2 ≤ b ∧ b ≤ 16 ∧ 2 ≤ m ∧ m ≤ 12 ∧ r < m ∧ g ≤ 16 ∧ Gets K C H Q b fun n => decide (remOf m g 0 (figs b n) = r)
def spRest (K : PySem.W.Frag) (C : Addr) : Sp := fun vs H Q _ => ∃ b m r : Nat, vs = [.int (b : Nat), .int (m : Nat), .int (r : Nat)] ∧ 2 ≤ b ∧ b ≤ 16 ∧ 2 ≤ m ∧ m ≤ 12 ∧ r < m ∧ Gets K C H Q b fun n => decide (n % m = r)
def spSum (K : PySem.W.Frag) (C : Addr) : Sp := fun vs H Q _ => ∃ b m r : Nat, vs = [.int (b : Nat), .int (m : Nat), .int (r : Nat)] ∧ 2 ≤ b ∧ b ≤ 16 ∧ 2 ≤ m ∧ m ≤ 12 ∧ r < m ∧ Gets K C H Q b fun n => decide ((figs b n).sum % m = r)
def spMul (K : PySem.W.Frag) (C : Addr) : Sp := fun vs H Q _ => ∃ b m : Nat, vs = [.int (b : Nat), .int (m : Nat)] ∧ 2 ≤ b ∧ b ≤ 16 ∧ 2 ≤ m ∧ m ≤ 12 ∧ Gets K C H Q b fun n => decide (n % m = 0)
section
variable {P : Program} {w : World} {K : PySem.W.Frag} {mg : Str → Option Value} {base : Heap}
end
end B

namespace B
open PySem L2 MK Hop
/-! ### machines as data: == -/
def dMark : Option Bool → PyData
  | none => .none
  | some b => .bool b
def dRow (r : List Nat) : PyData := .tuple (r.map fun n => .int (n : Nat))
def dRows (R : List (List Nat)) : PyData := .tuple (R.map dRow)
def dMarks (M : List (Option Bool)) : PyData := .tuple (M.map dMark)
section
variable {K : PySem.W.Frag} {H : Hp}
theorem dpAll_of {α : Type} {g : α → V} {d : α → PyData} (h : ∀ x, Dp K H (g x) (d x)) : ∀ xs : List α, DpAll K H (xs.map g) (xs.map d)
  | [] => .nil
  | x :: xs => .cons (h x) (dpAll_of h xs)
theorem dp_row {a : Addr} {r : List Nat} (h : SqT K H a (nv r)) : Dp K H (.ref a) (dRow r) := .tup h (dpAll_of (fun n => .int (n : Nat)) r)
theorem dp_marks {a : Addr} {M : List (Option Bool)} (h : SqT K H a (M.map mV)) : Dp K H (.ref a) (dMarks M) := .tup h (dpAll_of (fun m => match m with
  | none => .non
  | some b => .bl b) M)
theorem dp_rowsL : ∀ (rs : List Addr) (R : List (List Nat)), rs.length = R.length → (∀ (i : Nat) (r : Addr), rs[i]? = some r → SqT K H r (nv (R.getD i []))) → DpAll K H (rs.map V.ref) (R.map dRow)
  | [], [], _, _ => .nil
  | [], _ :: _, h, _ => by simp at h
  | _ :: _, [], h, _ => by simp at h
  | q :: rs, r :: R, h, h3 => .cons (dp_row (h3 0 q rfl)) (dp_rowsL rs R (by simpa using h) fun i q' e => h3 (i + 1) q' e)
theorem dp_rows {a : Addr} {R : List (List Nat)} (h : RowsT K H a R) : Dp K H (.ref a) (dRows R) := by
  obtain ⟨rs, h1, h2, h3⟩ := h.ex
  exact .tup h1 (dp_rowsL rs R h2 h3)
end
theorem canLayAll_of {α : Type} {d : α → PyData} (h : ∀ x, (d x).canLay0 = true) : ∀ xs : List α, PyData.canLayAll0 (xs.map d) = true
  | [] => rfl
  | x :: xs => by
    show ((d x).canLay0 && PyData.canLayAll0 (xs.map d)) = true
    rw [h x, canLayAll_of h xs]
    rfl
theorem depthAll_le {α : Type} {d : α → PyData} {k : Nat} (h : ∀ x, (d x).depth ≤ k) : ∀ xs : List α, PyData.depthAll (xs.map d) ≤ k
  | [] => Nat.zero_le _
  | x :: xs => by
    show max (d x).depth (PyData.depthAll (xs.map d)) ≤ k
    exact Nat.max_le.mpr ⟨h x, depthAll_le h xs⟩
theorem shaped_row (r : List Nat) : SeqAt.shaped (dRow r) = true := by
  unfold SeqAt.shaped
  rw [Bool.and_eq_true_iff]
  refine ⟨canLayAll_of (fun _ => rfl) r, decide_eq_true ?_⟩
  have : PyData.depthAll (r.map fun n : Nat => PyData.int (n : Nat)) ≤ 0 := depthAll_le (d := fun n : Nat => PyData.int (n : Nat)) (k := 0) (fun x => by show 0 ≤ 0; exact Nat.le_refl _) r
  show PyData.depthAll (r.map fun n : Nat => PyData.int (n : Nat)) + 1 ≤ 64
  omega
theorem shaped_rows (R : List (List Nat)) : SeqAt.shaped (dRows R) = true := by
  unfold SeqAt.shaped
  rw [Bool.and_eq_true_iff]
  refine ⟨canLayAll_of (fun r => SeqAt.canLay_of_shaped (shaped_row r)) R, decide_eq_true ?_⟩
  have : PyData.depthAll (R.map dRow) ≤ 1 := depthAll_le (fun r => by
    have : PyData.depthAll (r.map fun n : Nat => PyData.int (n : Nat)) ≤ 0 := depthAll_le (d := fun n : Nat => PyData.int (n : Nat)) (k := 0) (fun x => by show 0 ≤ 0; exact Nat.le_refl _) r
    show PyData.depthAll (r.map fun n : Nat => PyData.int (n : Nat)) + 1 ≤ 1
    omega) R
  show PyData.depthAll (R.map dRow) + 1 ≤ 64
  omega
theorem shaped_marks (M : List (Option Bool)) : SeqAt.shaped (dMarks M) = true := by
  unfold SeqAt.shaped
  rw [Bool.and_eq_true_iff]
  refine ⟨canLayAll_of (fun m => by cases m <;> rfl) M, decide_eq_true ?_⟩
  have : PyData.depthAll (M.map dMark) ≤ 0 := depthAll_le (fun m => by cases m <;> exact Nat.le_refl _) M
  show PyData.depthAll (M.map dMark) + 1 ≤ 64
  omega
theorem eqvAll_of {α : Type} [DecidableEq α] {d : α → PyData} (h : ∀ x y, (d x).eqv (d y) = decide (x = y)) : ∀ xs ys : List α, PyData.eqvAll (xs.map d) (ys.map d) = decide (xs = ys)
  | [], [] => rfl
  | [], _ :: _ => rfl
  | _ :: _, [] => rfl
  | x :: xs, y :: ys => by
    show ((d x).eqv (d y) && PyData.eqvAll (xs.map d) (ys.map d)) = _
    rw [h x y, eqvAll_of h xs ys]
    by_cases a : x = y <;> by_cases b : xs = ys <;> simp [a, b]
theorem eqv_int (i j : Nat) : (PyData.int (i : Nat)).eqv (.int (j : Nat)) = decide (i = j) := by
  show ((i : Int) == (j : Int)) = _
  by_cases c : i = j
  · rw [decide_eq_true c]; exact beq_iff_eq.mpr (by omega)
  · rw [decide_eq_false c]; exact beq_eq_false_iff_ne.mpr (by omega)
theorem eqv_row (r q : List Nat) : (dRow r).eqv (dRow q) = decide (r = q) := eqvAll_of (d := fun n : Nat => PyData.int (n : Nat)) eqv_int r q
theorem eqv_rows (R S : List (List Nat)) : (dRows R).eqv (dRows S) = decide (R = S) := eqvAll_of eqv_row R S
theorem eqv_mark (m k : Option Bool) : (dMark m).eqv (dMark k) = decide (m = k) := by
  cases m with
  | none => cases k <;> rfl
  | some a =>
    cases k with
    | none => rfl
    | some b => cases a <;> cases b <;> rfl
theorem eqv_marks (M N : List (Option Bool)) : (dMarks M).eqv (dMarks N) = decide (M = N) := eqvAll_of eqv_mark M N
end B

namespace L2
open PySem PySem.Spec PyProof.Rows PySem.W Builtin
/-! ### ==, !=, in by own methods -/
section
variable {X : Cx} {CX : CXT} {n : Nat} {f C : Addr} {fd : FuncData} {ps : List Str} {sp : Sp} {E : XK}
theorem run_sub {A : Around} {pins : List (Addr × Obj)} {σ : L2.St} {H : Hp} {s : Shared} {Q : VK} {us : List Value} {vs : List V} (F : FnOk X.prog X.w X.K X.mg X.base CX n f fd ps sp) (sb : Sub X n A) (hb : Binds X.K fd ps []) (hx : Passes CX X E)
    (I : Inv X pins σ H s) (r : Vals vs us) (h : sp vs H Q E) : wpAny (model X.prog X.w) A (call (.ref f) us) (EP X pins σ Q) X.xe s := by
  have e0 : Env0 X.prog X.w X.K X.mg X.base A X.stack s H := by
    have e := I.env0
    exact ⟨by rw [sb.fr]; exact e.frames, e.mod, e.bs, e.bsz, e.funs, e.frf, e.hok, e.bare⟩
  have hl := F.len _ _ _ _ h
  refine wpAny_call (codeAny_mono (F.run A X.stack s H ⟨us, []⟩ us vs Q E sb.room e0 (by
    have := hb s us I.kIn (by rw [List.append_nil, ← r.length]; exact hl)
    simpa using this) r h) fun r s' hq => ?_)
  cases r with
  | error e => exact hx pins σ H s e s' I hq
  | ok fl =>
    cases fl with
    | ret w => exact I.after hq
    | next => exact False.elim hq
    | brk => exact False.elim hq
    | cont => exact False.elim hq
/-- y in x by x's own __contains__ -/
def rInOwn (C : Addr) (sp : Sp) (E : XK) : R2 := fun x y H Q => ∃ a dx fs, y = .ref a ∧ H a = some (.ins C dx fs) ∧ sp [.ref a, x] H (fun v H' => ∃ b, v = .bl b ∧ Q (.bl b) H') E
theorem op_inOwn (F : FnOk X.prog X.w X.K X.mg X.base CX n f fd ps sp) (hs : findIn X.K (.ref C) "__contains__" = some (some (.ref f))) (hf : isFn X.K (.ref f) = true) (hb : Binds X.K fd ps []) (hx : Passes CX X E) (hr : Room n X.A) : OpR X (compareOp .In) (rInOwn C sp E) := by
  intro pins s σ H x y v u Q I rx ry h
  obtain ⟨a, dx, fs, rfl, ha, hsp⟩ := h
  cases ry
  obtain ⟨mA, J, _⟩ := ins_get I.hok ha
  obtain ⟨od, J, _⟩ := J.look
  obtain ⟨m, hF⟩ := I.fr
  refine in_K hF I.ok.mod.kin J hs hf ?_
  refine wpAny_mono (run_sub (vs := [V.ref a, x]) F ⟨hr, rfl⟩ hb hx I (.cons rfl (.cons rx .nil)) hsp) (fun r s' z => ?_) fun _ _ z => z
  obtain ⟨v', H', I', rv, b, rfl, q⟩ := z
  cases rv
  exact wpAny_truthy_bool ⟨.bl b, H', I', rfl, q⟩
/-- x == y by x's own __eq__, y of the same class -/
def rEqOwn (C : Addr) (sp : Sp) (E : XK) : R2 := fun x y H Q => ∃ a b dx dy fs gs, x = .ref a ∧ y = .ref b ∧ H a = some (.ins C dx fs) ∧ H b = some (.ins C dy gs) ∧ sp [.ref a, .ref b] H (fun v H' => ∃ k, v = .bl k ∧ Q (.bl k) H') E
theorem op_eqOwn (F : FnOk X.prog X.w X.K X.mg X.base CX n f fd ps sp) (hs : findIn X.K (.ref C) "__eq__" = some (some (.ref f))) (hf : isFn X.K (.ref f) = true) (hb : Binds X.K fd ps []) (hx : Passes CX X E) (hr : Room n X.A) : OpR X (compareOp .Eq) (rEqOwn C sp E) := by
  intro pins s σ H x y v u Q I rx ry h
  obtain ⟨a, b, dx, dy, fs, gs, rfl, rfl, ha, hb', hsp⟩ := h
  cases rx
  cases ry
  obtain ⟨mA, J, _⟩ := ins_get I.hok ha
  obtain ⟨mB, J', _⟩ := ins_get I.hok hb'
  obtain ⟨od, J, _⟩ := J.look
  obtain ⟨od', J', _⟩ := J'.look
  obtain ⟨m, hF⟩ := I.fr
  show wpAny (model X.prog X.w) X.A (richCompare .Eq (.ref a) (.ref b)) _ _ _
  refine cmp_K (op := .Eq) (tb := .ref C) hr.units0 hF I.ok.mod.kin J J'.type (by simp [notFirst]) hs hf ?_
  refine wpAny_mono (run_sub (vs := [V.ref a, V.ref b]) F ⟨hr, rfl⟩ hb hx I (.cons rfl (.cons rfl .nil)) hsp) (fun r s' z => ?_) fun _ _ z => z
  obtain ⟨v', H', I', rv, k, rfl, q⟩ := z
  cases rv
  exact ⟨.bl k, H', I', rfl, q⟩
theorem ifBound_B {M : Model} {A : Around} {E : Value → Shared → Prop} {s : Shared} {K : Frag} {x C : Addr} {ox : Obj} {od : Option Obj} {name : Str} {id : String} {args : List Value} {Q : Option Value → Shared → Prop} (X : K.In s.heap) (I : InstAt s.heap x ox C od) (hs : findIn K (.ref C) name = some (some (.builtin id)))
    (hb : ∀ self, bindSpecial (.builtin id) self = pure (.builtin id, [self])) (h : wpAny M A (call (.builtin id) (.ref x :: args)) (fun v => Q (some v)) E s) : wpAny M A (callSpecialIfBound? (.ref x) name args) Q E s := by
  simp only [callSpecialIfBound?, bindSpecialIfBound?]
  refine wpAny_holding (wpAny_bind (wpAny_bind (wpAny_bind (I.type.here ((looks_findIn X hs).here ?_)))))
  refine wpAny_bind (wpAny_askSetting (wpAny_ite ?_))
  have fin : wpAny M A (call (.builtin id) ([.ref x] ++ args) >>= fun v => pure (some v)) Q E s := wpAny_bind (wpAny_mono h (fun v s' h' => wpAny_pure h') fun _ _ h' => h')
  split
  · exact wpAny_bind ((Looks.of_pure (hb _)).here (wpAny_pure (by exact fin)))
  · exact wpAny_tryCatch (wpAny_bind ((Looks.of_pure (hb _)).here (wpAny_pure (by exact fin))))
theorem ne_K {prog : Program} {w : World} {A : Around} {E : Value → Shared → Prop} {s : Shared} {K : Frag} {x C f : Addr} {ox : Obj} {od : Option Obj} {b tb : Value} {Q : Value → Shared → Prop} (hu : A.units + 1 < cLine) (X : K.In s.heap) (I : InstAt s.heap x ox C od) (hb : Looks (model prog w) s.heap (typeOf b) tb) (hn : notFirst K C tb = true)
    (hs : findIn K (.ref C) "__ne__" = some (some (.builtin "object.__ne__"))) (hm : mroIn K C (.type "object") = some true) (he : findIn K (.ref C) "__eq__" = some (some (.ref f))) (hf : isFn K (.ref f) = true)
    (h : wpAny (model prog w) A.in1 (call (.ref f) [.ref x, b]) (fun v s' => ∃ k, v = .bool k ∧ Q (.bool (!k)) s') E s) : wpAny (model prog w) A (richCompare .NotEq (.ref x) b) Q E s := by
  have ne : wpAny (model prog w) A.in1 (Builtin.«object.__ne__» ⟨[.ref x, b], []⟩) (fun fin s' => ∃ k, fin = .done (.ret (.bool k)) ∧ Q (.bool k) s') E s := by
    unfold Builtin.«object.__ne__»
    refine wpAny_bind (m := slotArgs "__ne__" 1 _) (wpAny_pure ?_)
    refine wpAny_bind (m := cRoomFor _ _) (wpAny_cRoomFor (by simpa using hu) ?_)
    refine wpAny_bind (m := callSpecialIfBound? (.ref x) (Str.ofString "__eq__") _) (ifBound_K X I he hf (wpAny_mono h (fun r s' hq => ?_) fun _ _ y => y))
    obtain ⟨k, rfl, q⟩ := hq
    refine wpAny_bind (m := truthy (.bool k)) (wpAny_truthy_bool ?_)
    exact wpAny_pure ⟨_, rfl, q⟩
  have one : wpAny (model prog w) A (tryCompare (.ref x) (cmpInfo .NotEq).2.1 b) (fun r s' => ∃ v, r = some v ∧ Q v s') E s := by
    unfold tryCompare
    refine wpAny_bind (ifBound_B X I hs PySem.F.slot_object_ne.bind ?_)
    refine wpAny_call (codeAny_call_builtin PySem.F.slot_object_ne.plain PySem.F.cmpEntry_ne (check_slot (owner := "object") (n := "__ne__") (by decide +kernel) (by decide +kernel) (I.type.andThen (looks_mroIn X hm)) (PySem.F.cmpArgs_ne _ _) ?_))
    refine wpAny_mono ne (fun r s' z => ?_) fun _ _ z => z
    obtain ⟨k, rfl, q⟩ := z
    exact wpAny_pure ⟨_, rfl, q⟩
  unfold richCompare
  simp only [oneThing_ref]
  refine wpAny_holding (wpAny_bind (wpAny_cRoomFor (Nat.lt_of_succ_lt hu) ?_))
  refine wpAny_bind (I.type.here (wpAny_bind (hb.here ?_)))
  split
  · rename_i q
    have e : subIn K tb (.ref C) = some false := by
      rcases Bool.or_eq_true_iff.mp hn with e | e
      · rw [beq_iff_eq.mp e] at q; simp at q
      · exact beq_iff_eq.mp e
    refine wpAny_bind ((looks_subIn X e).here ?_)
    simp only [Bool.false_eq_true, if_false]
    refine wpAny_bind (wpAny_mono one (fun r s' z => ?_) fun _ _ e => e)
    obtain ⟨v, rfl, hq⟩ := z
    exact wpAny_pure hq
  · refine wpAny_bind (wpAny_pure ?_)
    simp only [Bool.false_eq_true, if_false]
    refine wpAny_bind (wpAny_mono one (fun r s' z => ?_) fun _ _ e => e)
    obtain ⟨v, rfl, hq⟩ := z
    exact wpAny_pure hq
/-- x != y by x's own __eq__, y of the same class -/
def rNeOwn (C : Addr) (sp : Sp) (E : XK) : R2 := fun x y H Q => ∃ a b dx dy fs gs, x = .ref a ∧ y = .ref b ∧ H a = some (.ins C dx fs) ∧ H b = some (.ins C dy gs) ∧ sp [.ref a, .ref b] H (fun v H' => ∃ k, v = .bl k ∧ Q (.bl (!k)) H') E
theorem op_neOwn (F : FnOk X.prog X.w X.K X.mg X.base CX n f fd ps sp) (hn : findIn X.K (.ref C) "__ne__" = some (some (.builtin "object.__ne__"))) (hm : mroIn X.K C (.type "object") = some true) (hs : findIn X.K (.ref C) "__eq__" = some (some (.ref f))) (hf : isFn X.K (.ref f) = true) (hb : Binds X.K fd ps []) (hx : Passes CX X E) (hr : Room (n + 1) X.A) : OpR X (compareOp .NotEq) (rNeOwn C sp E) := by
  intro pins s σ H x y v u Q I rx ry h
  obtain ⟨a, b, dx, dy, fs, gs, rfl, rfl, ha, hb', hsp⟩ := h
  cases rx
  cases ry
  obtain ⟨mA, J, _⟩ := ins_get I.hok ha
  obtain ⟨mB, J', _⟩ := ins_get I.hok hb'
  obtain ⟨od, J, _⟩ := J.look
  obtain ⟨od', J', _⟩ := J'.look
  show wpAny (model X.prog X.w) X.A (richCompare .NotEq (.ref a) (.ref b)) _ _ _
  refine ne_K (tb := .ref C) ?_ I.kIn J J'.type (by simp [notFirst]) hn hm hs hf ?_
  · exact (Sub.in1 (X := X) (n := n) ⟨hr, rfl⟩).room.units0
  refine wpAny_mono (run_sub (vs := [V.ref a, V.ref b]) F (Sub.in1 ⟨hr, rfl⟩) hb hx I (.cons rfl (.cons rfl .nil)) hsp) (fun r s' z => ?_) fun _ _ z => z
  obtain ⟨v', H', I', rv, k, rfl, q⟩ := z
  cases rv
  exact ⟨k, rfl, .bl (!k), H', I', rfl, q⟩
end
end L2

namespace B
open PySem L2 MK Hop
/-- isinstance(kind, Kind) -/
structure KCi (K : PySem.W.Frag) (C : Addr) : Prop where
  ha : PySem.W.findIn K (.ref C) "__class__" = some (some (.builtin "object.__class__"))
  hn : PySem.W.specialIn K (.builtin "object.__class__") "__get__" = some (some (.builtin "getset_descriptor.__get__"))
  htk : PySem.W.takesIn K (.builtin "object.__class__") = some true
  hm : PySem.W.mroIn K C (.type "object") = some true
  kit : PySem.W.kitOne K (.ref C) (.ref C) = some true
theorem RowsT.at0 {K : PySem.W.Frag} {H : Hp} {a : Addr} {rows : List (List Nat)} (h : RowsT K H a rows) (p : 0 < rows.length) : ∃ r, (∃ xs, SqT K H a xs ∧ xs.length = rows.length ∧ xs[0]? = some (.ref r)) ∧ SqT K H r (nv (rows.getD 0 [])) := by
  obtain ⟨rs, h1, h2, h3⟩ := h.ex
  have e := List.getElem?_eq_getElem (l := rs) (i := 0) (by omega)
  exact ⟨_, ⟨_, h1, by rw [List.length_map, h2], by rw [List.getElem?_map, e]; rfl⟩, h3 0 _ e⟩
def spBase (K : PySem.W.Frag) (C : Addr) : Sp := fun vs H Q _ => ∃ (x : Addr) (b : Nat) (f : Nat → Bool), vs = [.ref x] ∧ KindHas K C H x b f ∧ Q (.int (b : Nat)) H
def spHas (K : PySem.W.Frag) (C : Addr) : Sp := fun vs H Q _ => ∃ (x : Addr) (b : Nat) (f : Nat → Bool) (y : V), vs = [.ref x, y] ∧ KindHas K C H x b f ∧
  ((∃ n : Nat, y = .int (n : Nat) ∧ 0 < n ∧ n < 2 ^ 4000 ∧ ∀ H', Same H H' → Q (.bl (f n)) H') ∨ ((∃ i : Int, y = .int i ∧ i < 1) ∨ NoInt K H y) ∧ ∀ H', Same H H' → Q (.bl false) H')
def spKeq (K : PySem.W.Frag) (C : Addr) : Sp := fun vs H Q _ => ∃ (x y : Addr) (R S : List (List Nat)) (M N : List (Option Bool)), vs = [.ref x, .ref y] ∧ KindAt K C H x R M ∧ KindAt K C H y S N ∧ Q (.bl (decide (R = S) && decide (M = N))) H
section
variable {P : Program} {w : World} {K : PySem.W.Frag} {mg : Str → Option Value} {base : Heap}
end
end B

namespace B
open PySem L2 MK Hop
theorem lc_zipT {K : PySem.W.Frag} {a b : Addr} {xs ys : List V} {g : TG} {tt : TT} {te : TE} {vs : List Nat} {σ : L2.St} {H1 : Hp} {D : Addr} {Qd : Hp → Prop} (hl : xs.length = ys.length) (Pv : Nat → Hp → Prop) (h0 : Pv 0 (upd H1 D (.lst []))) (hq : ∀ i H, Pv i H → SqT K H a xs ∧ SqT K H b ys)
    (hs : ∀ (i : Nat) (x y : V) (T : Addr) (H : Hp), xs[i]? = some x → ys[i]? = some y → Pv i H → H T = none → g (.ref T) (wipe σ vs) (upd H T (.tup [x, y])) fun σ2 H2 => wipe σ2 vs = wipe σ vs ∧ tt σ2 H2 fun b H3 =>
      if b = true then te σ2 H3 fun y H4 => ∃ acc, H4 D = some (.lst acc) ∧ acc.length < sizeLine ∧ Pv (i + 1) (upd H4 D (.lst (acc ++ [y]))) else Pv (i + 1) H3) (hd : ∀ H, Pv xs.length H → Qd H) :
    ∃ W : Nat → Nat → Hp → Prop, (∃ m, W 0 m (upd H1 D (.lst []))) ∧ ∀ i m H, W i m H →
      ((RZ.ItzT K a b).stop i H ∧ Qd H) ∨ ((RZ.ItzT K a b).go i H ∧ ∃ Nx : Hp → Prop, (∀ H', Nx H' → ∃ m', m' < m ∧ W (i + 1) m' H') ∧ ∀ x H', (RZ.ItzT K a b).yld i H x H' → g x (wipe σ vs) H' fun σ2 H2 => wipe σ2 vs = wipe σ vs ∧ tt σ2 H2 fun b H3 =>
        if b = true then te σ2 H3 fun y H4 => ∃ acc, H4 D = some (.lst acc) ∧ acc.length < sizeLine ∧ Nx (upd H4 D (.lst (acc ++ [y]))) else Nx H3) := by
  refine ⟨fun i m H => m = xs.length - i ∧ i ≤ xs.length ∧ Pv i H, ⟨xs.length, by simp, Nat.zero_le _, h0⟩, ?_⟩
  rintro i m H ⟨rfl, hi, p⟩
  obtain ⟨qx, qy⟩ := hq i H p
  by_cases hlt : i < xs.length
  · have hx : xs[i]? = some xs[i] := List.getElem?_eq_getElem hlt
    have hlt2 : i < ys.length := by omega
    have hy : ys[i]? = some ys[i] := List.getElem?_eq_getElem hlt2
    refine .inr ⟨⟨xs, ys, _, _, qx, qy, hx, hy⟩, Pv (i + 1), fun H' p' => ⟨xs.length - (i + 1), by omega, rfl, hlt, p'⟩, fun v H' y => ?_⟩
    obtain ⟨T, x', y', rfl, hT, rfl, f1, f2⟩ := y
    exact hs i x' y' T H (f1 xs qx) (f2 ys qy) p hT
  · have e : i = xs.length := by omega
    subst e
    exact .inl ⟨⟨xs, ys, qx, qy, Or.inl (Nat.le_refl _)⟩, hd H p⟩
/-- a list of pairs -/
def PairsL (K : PySem.W.Frag) (H : Hp) (a : Addr) (ps : List (Nat × Nat)) : Prop := ∃ ts : List Addr, SqL K H a (ts.map V.ref) ∧ ts.length = ps.length ∧ ∀ (i : Nat) (t : Addr), ts[i]? = some t → SqT K H t [.int ((ps.getD i (0, 0)).1 : Nat), .int ((ps.getD i (0, 0)).2 : Nat)]
def spSbs (K : PySem.W.Frag) : Sp := fun vs H Q _ => ∃ (s1 s2 : Addr) (R1 R2 : List (List Nat)) (b : Nat), vs = [.ref s1, .ref s2] ∧ RowsT K H s1 R1 ∧ RowsT K H s2 R2 ∧ Mach R1 R1.length b ∧ Mach R2 R2.length b ∧ 0 < R1.length ∧ R1.length ≤ 201 ∧ 0 < R2.length ∧ R2.length ≤ 201 ∧ b ≤ 16 ∧
  ∀ (p st pr : Addr) (H' : Hp) (met : List Nat), H p = none → Same H H' → H' p = some (.tup [.ref st, .ref pr]) → RowsL K H' st (newRows (fun s => s) (prodRows R1 R2) met) → PairsL K H' pr (met.map fun c => (c / R2.length, c % R2.length)) → Met (prodRows R1 R2) (R1.length * R2.length) met.length met → Q (.ref p) H'
section
variable {P : Program} {w : World} {K : PySem.W.Frag} {mg : Str → Option Value} {base : Heap}
end
end B

namespace B
open PySem L2 MK Hop
/-! ### every state that is numbered is reached -/
theorem RG.mem : ∀ {xs : List Nat} {k k' : Nat}, RG k xs k' → ∀ e, k ≤ e → e < k' → e ∈ xs
  | [], k, k', h, e, h1, h2 => by have : k = k' := h; omega
  | x :: xs, k, k', h, e, h1, h2 => by
    rcases h with ⟨_, h⟩ | ⟨hx, h⟩
    · exact List.mem_cons_of_mem _ (RG.mem h e h1 h2)
    · by_cases c : e = k
      · rw [c, ← hx]; exact List.mem_cons_self
      · exact List.mem_cons_of_mem _ (RG.mem h e (by omega) h2)
theorem RGR.from_ : ∀ {rs : List (List Nat)} {i k k' : Nat}, RGR i k rs k' → ∀ e, k ≤ e → e < k' → ∃ (j : Nat) (r : List Nat), rs[j]? = some r ∧ i + j < e ∧ e ∈ r
  | [], i, k, k', h, e, h1, h2 => by have : k = k' := h; omega
  | r :: rs, i, k, k', ⟨h0, k1, h1, h2⟩, e, e1, e2 => by
    by_cases c : e < k1
    · exact ⟨0, r, rfl, by omega, RG.mem h1 e e1 c⟩
    · obtain ⟨j, q, a, b, d⟩ := RGR.from_ h2 e (by omega) e2
      exact ⟨j + 1, q, by simpa using a, by omega, d⟩
theorem grow_reach {R : List (List Nat)} {n b : Nat} (g : RGR 0 1 R n) (wid : ∀ r, r ∈ R → r.length = b) : ∀ e, e < n → ∃ w : List Nat, (∀ a, a ∈ w → a < b) ∧ runs (stepOf R) 0 w = e := by
  intro e
  induction e using Nat.strongRecOn with
  | ind e ih =>
    intro he
    by_cases h0 : e = 0
    · exact ⟨[], fun _ h => absurd h List.not_mem_nil, h0.symm⟩
    · obtain ⟨j, r, hr, hj, hm⟩ := RGR.from_ g e (by omega) he
      obtain ⟨w, hw, hrun⟩ := ih j (by omega) (by omega)
      obtain ⟨a, ha⟩ := List.mem_iff_getElem?.mp hm
      have al : a < r.length := (List.getElem?_eq_some_iff.mp ha).1
      have ab : a < b := by rw [← wid r (List.mem_of_getElem? hr)]; exact al
      refine ⟨w ++ [a], fun x hx => ?_, ?_⟩
      · rcases List.mem_append.mp hx with q | q
        · exact hw x q
        · rw [List.mem_singleton.mp q]; exact ab
      · rw [runs_snoc, hrun]
        unfold stepOf
        have e1 : R.getD j [] = r := by rw [List.getD_eq_getElem?_getD, hr]; rfl
        rw [e1, List.getD_eq_getElem?_getD, ha]
        rfl
theorem met_grow {P : List (List Nat)} {N : Nat} {met : List Nat} (io : Met P N met.length met) : RGR 0 1 (newRows (fun s => s) P met) met.length := by
  have := io.grow
  rw [List.take_length] at this
  exact this
theorem met_wid {P : List (List Nat)} {N b : Nat} {met : List Nat} (m : Mach P N b) (io : Met P N met.length met) : ∀ r, r ∈ newRows (fun s => s) P met → r.length = b := by
  intro r hr
  obtain ⟨s, hs, e⟩ := List.mem_map.mp hr
  subst e
  rw [List.length_map]
  exact row_len m (io.mem s hs)
/-- the marks of a pair that is met, but the first one -/
theorem met_marks {b : Nat} {R1 R2 : List (List Nat)} {M1 M2 : List (Option Bool)} {f g : Nat → Bool} (k1 : KMach b R1 M1 f) (k2 : KMach b R2 M2 g) {met : List Nat} (io : Met (prodRows R1 R2) (R1.length * R2.length) met.length met) {i : Nat} (hi : i < met.length) (h0 : 0 < i) :
    ∃ x y : Bool, M1[met.getD i 0 / R2.length]? = some (some x) ∧ M2[met.getD i 0 % R2.length]? = some (some y) := by
  have m1 := k1.canon.mach
  have m2 := k2.canon.mach
  have hP := prod_mach m1 m2
  obtain ⟨w, hw, hrun⟩ := grow_reach (met_grow io) (met_wid hP io) i hi
  have ml : 0 < met.length := by omega
  have z : met.getD 0 0 = 0 := (met_zero io ml).mpr rfl
  obtain ⟨_, h2⟩ := met_runs hP io w hw 0 ml
  rw [hrun, z] at h2
  have h3 := prod_runs m1 m2 w hw 0 0 k1.pos k2.pos
  rw [Nat.zero_mul] at h3
  rw [h3] at h2
  have l1 := mach_runs m1 w hw 0 k1.pos
  have l2 := mach_runs m2 w hw 0 k2.pos
  have v : valN b w ≠ 0 := fun v => by
    rw [(k1.none_iff w hw).mpr v, (k2.none_iff w hw).mpr v] at h2
    have := (met_zero io hi).mp (by omega)
    omega
  have w1 := k1.word w hw
  have w2 := k2.word w hw
  rw [if_neg v] at w1 w2
  rw [h2, (code_div l2).1, (code_div l2).2]
  refine ⟨f (valN b w), g (valN b w), ?_, ?_⟩
  · have l1' : runs (stepOf R1) 0 w < M1.length := by rw [k1.canon.len]; exact l1
    rw [List.getElem?_eq_getElem l1', ← w1]
    unfold mkOf
    rw [getD_mem l1']
  · have l2' : runs (stepOf R2) 0 w < M2.length := by rw [k2.canon.len]; exact l2
    rw [List.getElem?_eq_getElem l2', ← w2]
    unfold mkOf
    rw [getD_mem l2']
end B

namespace L2
open PySem PySem.Spec PyProof.Rows
/-! ### f(k = v, ..): keywords alone -/
section
variable {X : Cx} {CX : CXT} {k : Nat} {f : Addr} {fd : FuncData} {ps ks : List Str} {sp : Sp} {E : XK} {x : Str} {p pos : Pos} {kws : List Keyword} {tk : TA} {g : List Value → List Value → List Value} {gV : List V → List V → List V}
def tCallK0 (m : Nat) (sp : Sp) (gV : List V → List V → List V) (E : XK) (tk : TA) : TE := fun σ H Q => tk σ H fun zs H2 => zs.length = m ∧ sp (gV [] zs) H2 Q E
theorem pe_callK0 (F : FnOk X.prog X.w X.K X.mg X.base CX k f fd ps sp) (hr : Room k X.A) (hg : Gl X x) (hm : X.mg x = some (.ref f)) (hk : PySem.W.keepIn X.K (.ref f) = true) (hb : KBn X.K fd ps 0 ks g gV) (hx : Passes CX X E)
    (hkw : PK X kws tk) (hall : (backToKw pos (keywordEach kws X.env)).all (·.1.isSome) = true := by rfl) (hks : (backToKw pos (keywordEach kws X.env)).filterMap (·.1) = ks := by rfl)
    (hdb : (x == ("__debug__" : Str)) = false := by decide)
    (hpl : ((backTo pos (starEach [] X.env)).any (·.1) || (backToKw pos (keywordEach kws X.env)).any (·.1.isNone)) = false := by rfl) :
    PE X (.Call (.Name x p) [] kws pos) (tCallK0 ks.length sp gV E tk) := by
  refine ⟨fun pins s σ H Q I h => ?_⟩
  refine wpAny_Call_Name_kw (ld_glob I hg hm ?_ hdb)
  refine PySem.W.callWith_KW0 (h₀ := X.base) I.ok.mod.kin hk hall ?_ hpl
  refine thn (hkw.run pos pins s σ H _ I h) fun ws s2 ⟨zs, H2, I2, rz, l2, q2⟩ => ⟨I2.kIn, ?_⟩
  rw [hks]
  exact run_fnN (us := []) (vs := []) F hr hb hx I2 .nil rz rfl l2 q2
end
theorem Vals.rev {zs : List V} {ws : List Value} (h : Vals zs ws) : Vals zs.reverse ws.reverse := by
  induction h with
  | nil => exact .nil
  | cons r t ih => rw [List.reverse_cons, List.reverse_cons]; exact ih.append (.cons r .nil)
/-- keywords in the parameters' order turned about -/
theorem Fun.kbnR {K : PySem.W.Frag} {x qual : Str} {st : Stmt} {f : Addr} {fd : FuncData} {ps ks : List Str} (F : Fun K x qual st f fd)
    (h : ∀ (kV doc pm : Value) (an : Option Addr) (cdv ct : Value) (ws : List Value), ws.length = ks.length → bindArgs (PySem.W.fnOf x qual (defArgs st) (defBody st) (defScope st) .none kV doc pm an cdv ct) ⟨[], ks.zip ws⟩ = pure (ps.zip ws.reverse)) : KBn K fd ps 0 ks (fun _ ws => ws.reverse) (fun _ zs => zs.reverse) := by
  obtain ⟨oc, od, kV, doc, pm, an, cdv, ct, osl, rfl, lk, hcd⟩ := F.ex
  refine ⟨fun s us ws X l1 l2 => ?_, fun _ r2 => r2.rev⟩
  have : us = [] := List.length_eq_zero_iff.mp l1
  subst this
  exact .of_eq (h kV doc pm an cdv ct ws l2)
end L2

namespace L2
open PySem PySem.Spec PyProof.Rows PySem.W Builtin
section
variable {X : Cx} {CX : CXT} {n : Nat} {f C : Addr} {fd : FuncData} {ps : List Str} {sp : Sp} {E : XK}
theorem op_addBB : OpR X (binaryOp .Add) (fun x y H Q => ∃ a b : Bool, x = .bl a ∧ y = .bl b ∧ Q (.int (b2i a + b2i b)) H) := by
  intro pins s σ H x y v u Q I rx ry h
  obtain ⟨a, b, rfl, rfl, q⟩ := h
  cases rx
  cases ry
  exact add_bool ⟨.int (b2i a + b2i b), H, I.tok _, ⟨_, rfl⟩, q⟩
/-- x op y by x's own method, y of the same class; the answer is an object -/
def rBinOwn (C : Addr) (sp : Sp) (E : XK) : R2 := fun x y H Q => ∃ a b dx dy fs gs, x = .ref a ∧ y = .ref b ∧ H a = some (.ins C dx fs) ∧ H b = some (.ins C dy gs) ∧ sp [.ref a, .ref b] H (fun v H' => (∃ r, v = .ref r) ∧ Q v H') E
theorem op_binOwn {op : Operator} (F : FnOk X.prog X.w X.K X.mg X.base CX n f fd ps sp) (hc : selfFirst X.K C = true) (hs : findIn X.K (.ref C) (PySem.dunder op.info.2) = some (some (.ref f))) (hf : isFn X.K (.ref f) = true) (hb : Binds X.K fd ps []) (hx : Passes CX X E) (hr : Room n X.A) : OpR X (binaryOp op) (rBinOwn C sp E) := by
  intro pins s σ H x y v u Q I rx ry h
  obtain ⟨a, b, dx, dy, fs, gs, rfl, rfl, ha, hb', hsp⟩ := h
  cases rx
  cases ry
  obtain ⟨mA, J, _⟩ := ins_get I.hok ha
  obtain ⟨mB, J', _⟩ := ins_get I.hok hb'
  obtain ⟨od, J, _⟩ := J.look
  obtain ⟨od', J', _⟩ := J'.look
  obtain ⟨m, hF⟩ := I.fr
  refine binop_K hF I.ok.mod.kin J J'.type hc hs hf ?_
  refine wpAny_mono (run_sub (vs := [V.ref a, V.ref b]) F ⟨hr, rfl⟩ hb hx I (.cons rfl (.cons rfl .nil)) hsp) (fun r s' z => ?_) fun _ _ z => z
  obtain ⟨v', H', I', rv, ⟨r', rfl⟩, q⟩ := z
  cases rv
  exact ⟨.ref r', H', I', rfl, q⟩
/-- ~x by x's own method -/
def rInvOwn (C : Addr) (sp : Sp) (E : XK) : V → Hp → VK → Prop := fun x H Q => ∃ a dx fs, x = .ref a ∧ H a = some (.ins C dx fs) ∧ sp [.ref a] H Q E
theorem un_invOwn (F : FnOk X.prog X.w X.K X.mg X.base CX n f fd ps sp) (hs : findIn X.K (.ref C) "__invert__" = some (some (.ref f))) (hf : isFn X.K (.ref f) = true) (hb : Binds X.K fd ps []) (hx : Passes CX X E) (hr : Room n X.A) : UnR X (unaryOp .Invert) (rInvOwn C sp E) := by
  intro pins s σ H x v Q I rx h
  obtain ⟨a, dx, fs, rfl, ha, hsp⟩ := h
  cases rx
  obtain ⟨mA, J, _⟩ := ins_get I.hok ha
  obtain ⟨od, J, _⟩ := J.look
  obtain ⟨m, hF⟩ := I.fr
  exact ksp_inv hF I.ok.mod.kin J hs hf (run_sub (vs := [V.ref a]) F ⟨hr, rfl⟩ hb hx I (.cons rfl .nil) hsp)
end
end L2

namespace B
open PySem L2 MK Hop
/-- a def, called by position or by all its names turned about -/
def DfK (P : Program) (w : World) (K : PySem.W.Frag) (mg : Str → Option Value) (base : Heap) (CX : CXT) (k : Nat) (x : Str) (ps : List Str) (sp : Sp) : Prop :=
  ∃ (f : Addr) (fd : FuncData), FnOk P w K mg base CX k f fd ps sp ∧ mg x = some (.ref f) ∧ PySem.W.keepIn K (.ref f) = true ∧ Binds K fd ps [] ∧ KBn K fd ps 0 ps.reverse (fun _ ws => ws.reverse) (fun _ zs => zs.reverse)
theorem KindHas.ext {K : PySem.W.Frag} {C : Addr} {H H' : Hp} {x : Addr} {b : Nat} {f : Nat → Bool} (h : KindHas K C H x b f) (s : Same H H') : KindHas K C H' x b f := by
  obtain ⟨R, M, ⟨st, mk, wy, ⟨dx, hxo⟩, hR, hK⟩, km⟩ := h
  exact ⟨R, M, ⟨st, mk, wy, ⟨dx, s _ _ hxo⟩, hR.ext s, hK.ext s⟩, km⟩
theorem sn_b_ends : decide (V.str "ends" = V.str "bears") = false := by decide +kernel
theorem sn_b_sum : decide (V.str "sum" = V.str "bears") = false := by decide +kernel
theorem sn_b_every : decide (V.str "every" = V.str "bears") = false := by decide +kernel
theorem sn_d_sum : decide (V.str "sum" = V.str "ends") = false := by decide +kernel
theorem sn_d_every : decide (V.str "every" = V.str "ends") = false := by decide +kernel
theorem sn_s_every : decide (V.str "every" = V.str "sum") = false := by decide +kernel
theorem sqT_kpl {K : PySem.W.Frag} {H H' : Hp} {a p : Addr} {xs ys : List V} (h : SqT K H a xs) (hp : H p = some (.lst ys)) (k : Kp1 p H H') : SqT K H' a xs := by
  rcases h with h | h
  · left
    rcases h with h | ⟨o, h⟩
    · exact .inl (k _ _ h (fun e => by subst e; rw [h] at hp; cases hp))
    · exact .inr ⟨o, k _ _ h (fun e => by subst e; rw [h] at hp; cases hp)⟩
  · exact .inr h
theorem KindHas.kpl {K : PySem.W.Frag} {C : Addr} {H H' : Hp} {x p : Addr} {b : Nat} {f : Nat → Bool} {ys : List V} (h : KindHas K C H x b f) (hp : H p = some (.lst ys)) (k : Kp1 p H H') : KindHas K C H' x b f := by
  obtain ⟨R, M, ⟨st, mk, wy, ⟨dx, hxo⟩, hR, hK⟩, km⟩ := h
  refine ⟨R, M, ⟨st, mk, wy, ⟨dx, k _ _ hxo (fun e => by subst e; rw [hxo] at hp; cases hp)⟩, ?_, sqT_kpl hK hp k⟩, km⟩
  obtain ⟨rs, h1, h2, h3⟩ := hR.ex
  exact ⟨rs, sqT_kpl h1 hp k, h2, fun i r e => sqT_kpl (h3 i r e) hp k⟩
/-- what is asked of the class of kinds: its own methods -/
structure KM (P : Program) (w : World) (K : PySem.W.Frag) (mg : Str → Option Value) (base : Heap) (C fi fe fb : Addr) (fdi fde fdb : FuncData) : Prop where
  Gin : FnOk P w K mg base CX0 3 fi fdi ["self", "number"] (spHas K C)
  sin : PySem.W.findIn K (.ref C) "__contains__" = some (some (.ref fi))
  fin : PySem.W.isFn K (.ref fi) = true
  bin : Binds K fdi ["self", "number"] []
  Geq : FnOk P w K mg base CX0 1 fe fde ["self", "other"] (spKeq K C)
  seq : PySem.W.findIn K (.ref C) "__eq__" = some (some (.ref fe))
  sne : PySem.W.findIn K (.ref C) "__ne__" = some (some (.builtin "object.__ne__"))
  hm : PySem.W.mroIn K C (.type "object") = some true
  feq : PySem.W.isFn K (.ref fe) = true
  beq : Binds K fde ["self", "other"] []
  Gb : FnOk P w K mg base CX0 1 fb fdb ["self"] (spBase K C)
  cls : Cls K C
  mb : Meth K C "base" fb
  bb : Binds K fdb ["self"] []
def dBools (bs : List Bool) : PyData := .list (bs.map fun b => .bool b)
theorem dp_bools {K : PySem.W.Frag} {H : Hp} {a : Addr} {bs : List Bool} (h : SqL K H a (bs.map V.bl)) : Dp K H (.ref a) (dBools bs) := .lst h (dpAll_of (g := V.bl) (d := fun b => PyData.bool b) (fun b => .bl b) bs)
theorem shaped_bools (bs : List Bool) : SeqAt.shaped (dBools bs) = true := by
  unfold SeqAt.shaped
  rw [Bool.and_eq_true_iff]
  refine ⟨canLayAll_of (fun _ => rfl) bs, decide_eq_true ?_⟩
  have : PyData.depthAll (bs.map fun b => PyData.bool b) ≤ 0 := depthAll_le (d := fun b : Bool => PyData.bool b) (k := 0) (fun x => by show 0 ≤ 0; exact Nat.le_refl _) bs
  show PyData.depthAll (bs.map fun b => PyData.bool b) + 1 ≤ 64
  omega
theorem eqv_bools (bs : List Bool) : (dBools bs).eqv (dBools bs) = true := by
  have := eqvAll_of (d := fun b : Bool => PyData.bool b) (fun x y => by cases x <;> cases y <;> rfl) bs bs
  show PyData.eqvAll (bs.map fun b => PyData.bool b) (bs.map fun b => PyData.bool b) = true
  rw [this]
  exact decide_eq_true rfl
theorem KindHas.ins {K : PySem.W.Frag} {C : Addr} {H : Hp} {x : Addr} {b : Nat} {f : Nat → Bool} (h : KindHas K C H x b f) : ∃ dx fs, H x = some (.ins C dx fs) ∧ ∀ m : Str, m = "base" → fs.lookup m = none := by
  obtain ⟨R, M, ⟨st, mk, wy, ⟨dx, hxo⟩, hR, hK⟩, km⟩ := h
  exact ⟨dx, _, hxo, fun m e => by subst e; rfl⟩
def OutV (H : Hp) (v : V) : Prop := (∃ i : Int, v = .int i ∧ i < 1) ∨ (∃ b, v = .bl b) ∨ v = .non ∨ (∃ s, v = .str s) ∨ ∃ a, v = .ref a ∧ ((∃ xs, H a = some (.lst xs)) ∨ (∃ xs, H a = some (.tup xs)) ∨ ∃ kvs, H a = some (.dK kvs))
theorem OutV.ext {H H' : Hp} {v : V} (h : OutV H v) (s : Same H H') : OutV H' v := by
  rcases h with h | h | h | h | ⟨a, e, h⟩
  · exact .inl h
  · exact .inr (.inl h)
  · exact .inr (.inr (.inl h))
  · exact .inr (.inr (.inr (.inl h)))
  · refine .inr (.inr (.inr (.inr ⟨a, e, ?_⟩)))
    rcases h with ⟨xs, h⟩ | ⟨xs, h⟩ | ⟨xs, h⟩
    · exact .inl ⟨xs, s _ _ h⟩
    · exact .inr (.inl ⟨xs, s _ _ h⟩)
    · exact .inr (.inr ⟨xs, s _ _ h⟩)
theorem OutV.no {K : PySem.W.Frag} {H : Hp} {v : V} (h : OutV H v) : (∃ i : Int, v = .int i ∧ i < 1) ∨ NoInt K H v := by
  rcases h with h | ⟨b, rfl⟩ | rfl | ⟨s, rfl⟩ | ⟨a, rfl, h⟩
  · exact .inl h
  · exact .inr ⟨_, .base (.bl b), .inl rfl⟩
  · exact .inr ⟨_, .base .non, .inr (.inl rfl)⟩
  · exact .inr ⟨_, .base (.str s), .inr (.inr (.inl rfl))⟩
  · rcases h with ⟨xs, h⟩ | ⟨xs, h⟩ | ⟨xs, h⟩
    · exact .inr ⟨_, .base (.lst h), .inr (.inr (.inr (.inl rfl)))⟩
    · exact .inr ⟨_, .base (.tup h), .inr (.inr (.inr (.inr (.inl rfl))))⟩
    · exact .inr ⟨_, .base (.dK h), .inr (.inr (.inr (.inr (.inr rfl))))⟩
end B

namespace B
open PySem L2 MK Hop
theorem cutV_tail {xs : List V} (h : 0 < xs.length) : cutV xs (some 1) none = xs.tail := by
  unfold cutV
  have := HT.sIx_nat xs.length 0 1
  rw [show ((1 : Nat) : Int) = 1 from rfl] at this
  rw [this, show min 1 xs.length = 1 by omega, show HT.sIx xs.length xs.length none = xs.length from rfl, List.take_of_length_le (by rw [List.length_drop]; exact Nat.le_refl _), List.drop_one]
/-- two kinds of one base go together -/
def spMatch (K : PySem.W.Frag) (C : Addr) : Sp := fun vs H Q _ => ∃ (x y : Addr) (b : Nat) (f g : Nat → Bool), vs = [.ref x, .ref y] ∧ KindHas K C H x b f ∧ KindHas K C H y b g ∧ Q .non H
/-- three truths, told by how many of the two hold -/
def opOf (t0 t1 t2 : Bool) (x y : Bool) : Bool := if x && y then t2 else if x || y then t1 else t0
/-- the machine of two kinds together is wide -/
def TooW (b : Nat) (op : Bool → Bool → Bool) (R1 R2 : List (List Nat)) (M1 M2 : List (Option Bool)) : Prop := ∃ met, Met (prodRows R1 R2) (R1.length * R2.length) met.length met ∧ Wide (newRows (fun s => s) (prodRows R1 R2) met) (prodMarks op R2.length M1 M2 met) b 201
def spJoin (K : PySem.W.Frag) (C : Addr) : Sp := fun vs H Q _ => ∃ (x y t : Addr) (b : Nat) (f g : Nat → Bool) (t0 t1 t2 : Bool), vs = [.ref x, .ref y, .ref t] ∧ KindHas K C H x b f ∧ KindHas K C H y b g ∧ SqT K H t [.bl t0, .bl t1, .bl t2] ∧
  (∀ R1 R2 M1 M2, KMach b R1 M1 f → KMach b R2 M2 g → ¬ TooW b (opOf t0 t1 t2) R1 R2 M1 M2) ∧ Gets K C H Q b fun n => opOf t0 t1 t2 (f n) (g n)
section
variable {P : Program} {w : World} {K : PySem.W.Frag} {mg : Str → Option Value} {base : Heap}
end
end B

namespace B
open PySem L2 MK Hop
/-! ### all numbers but those of a kind -/
def notM (M : List (Option Bool)) : List (Option Bool) := M.map fun m => m.map fun b => !b
theorem notM_get {M : List (Option Bool)} (s : Nat) : mkOf none (notM M) s = (mkOf none M s).map fun b => !b := by
  unfold mkOf notM
  rw [List.getD_eq_getElem?_getD, List.getD_eq_getElem?_getD, List.getElem?_map]
  cases M[s]? <;> rfl
theorem notO_inj {a b : Option Bool} (h : (a.map fun b => !b) = b.map fun b => !b) : a = b := by
  cases a with
  | none => cases b with
    | none => rfl
    | some y => cases h
  | some x => cases b with
    | none => cases h
    | some y => cases x <;> cases y <;> first | rfl | cases h
theorem KMach.not {b : Nat} {R : List (List Nat)} {M : List (Option Bool)} {f : Nat → Bool} (k : KMach b R M f) : KMach b R (notM M) (fun n => !f n) := by
  refine ⟨⟨by unfold notM; rw [List.length_map]; exact k.canon.len, k.canon.wid, k.canon.grow, fun i j hi hj al => k.canon.min i j hi hj fun w hw => ?_⟩, k.b2, k.b16, k.small, k.pos, k.zero, ?_, fun n hn => ?_⟩
  · have := al w hw
    rw [notM_get, notM_get] at this
    exact notO_inj this
  · rw [notM_get, k.start]; rfl
  · rw [notM_get, k.has n hn]; rfl
/-- every state but the first one has a mark -/
theorem KMach.some_at {b : Nat} {R : List (List Nat)} {M : List (Option Bool)} {f : Nat → Bool} (k : KMach b R M f) {i : Nat} (hi : i < R.length) (h0 : 0 < i) : ∃ x, M[i]? = some (some x) := by
  obtain ⟨w, hw, e⟩ := grow_reach k.canon.grow k.canon.wid i hi
  have v : valN b w ≠ 0 := fun v => by
    have := (k.none_iff w hw).mpr v
    omega
  have h := k.word w hw
  rw [if_neg v, e] at h
  have hl : i < M.length := by rw [k.canon.len]; exact hi
  refine ⟨f (valN b w), ?_⟩
  rw [List.getElem?_eq_getElem hl, ← h]
  unfold mkOf
  rw [getD_mem hl]
end B

namespace B
open PySem L2 MK Hop
def spOp (K : PySem.W.Frag) (C : Addr) (t0 t1 t2 : Bool) : Sp := fun vs H Q _ => ∃ (x y : Addr) (b : Nat) (f g : Nat → Bool), vs = [.ref x, .ref y] ∧ KindHas K C H x b f ∧ KindHas K C H y b g ∧
  (∀ R1 R2 M1 M2, KMach b R1 M1 f → KMach b R2 M2 g → ¬ TooW b (opOf t0 t1 t2) R1 R2 M1 M2) ∧ Gets K C H Q b fun n => opOf t0 t1 t2 (f n) (g n)
def spInv (K : PySem.W.Frag) (C : Addr) : Sp := fun vs H Q _ => ∃ (x : Addr) (b : Nat) (f : Nat → Bool), vs = [.ref x] ∧ KindHas K C H x b f ∧ Gets K C H Q b fun n => !f n
section
variable {P : Program} {w : World} {K : PySem.W.Frag} {mg : Str → Option Value} {base : Heap}
end
end B

namespace B
open PySem L2 MK Hop
/-! ### when two kinds together are not too wide -/
theorem runs_app (step : Nat → Nat → Nat) (s : Nat) (w u : List Nat) : runs step s (w ++ u) = runs step (runs step s w) u := by
  unfold runs
  rw [List.foldl_append]
theorem not_toow {b c : Nat} {R1 R2 : List (List Nat)} {M1 M2 : List (Option Bool)} {f g : Nat → Bool} {op : Bool → Bool → Bool} (k1 : KMach b R1 M1 f) (k2 : KMach b R2 M2 g) (cls : Nat → Nat) (hc : c ≤ 201) (hlt : ∀ n, cls n < c)
    (step : ∀ n n' a, a < b → cls n = cls n' → cls (n * b + a) = cls (n' * b + a)) (zero : ∀ n n', cls n = cls n' → (n = 0 ↔ n' = 0)) (hf : ∀ n n', 0 < n → cls n = cls n' → f n = f n') (hg : ∀ n n', 0 < n → cls n = cls n' → g n = g n') : ¬ TooW b op R1 R2 M1 M2 := by
  rintro ⟨met, io, ss, hl, hs, pw⟩
  have hP := prod_mach k1.canon.mach k2.canon.mach
  have pml : (prodMarks op R2.length M1 M2 met).length = met.length := by simp [prodMarks]
  rw [pml] at hs
  have reach := grow_reach (met_grow io) (met_wid hP io)
  have cong : ∀ (u : List Nat), (∀ a, a ∈ u → a < b) → ∀ w w' : List Nat, cls (valN b w) = cls (valN b w') → cls (valN b (w ++ u)) = cls (valN b (w' ++ u)) := by
    intro u
    induction u with
    | nil => intro _ w w' e; rw [List.append_nil, List.append_nil]; exact e
    | cons a u ih =>
      intro hu w w' e
      have := ih (fun x hx => hu x (List.mem_cons_of_mem _ hx)) (w ++ [a]) (w' ++ [a]) (by rw [valN_snoc, valN_snoc]; exact step _ _ a (hu a List.mem_cons_self) e)
      rw [List.append_assoc, List.append_assoc] at this
      exact this
  have like : ∀ (w w' : List Nat), (∀ a, a ∈ w → a < b) → (∀ a, a ∈ w' → a < b) → cls (valN b w) = cls (valN b w') →
      Alike b (stepOf (newRows (fun s => s) (prodRows R1 R2) met)) (markOf (prodMarks op R2.length M1 M2 met)) (runs (stepOf (newRows (fun s => s) (prodRows R1 R2) met)) 0 w) (runs (stepOf (newRows (fun s => s) (prodRows R1 R2) met)) 0 w') := by
    intro w w' hw hw' e u hu
    have h1 : ∀ a, a ∈ w ++ u → a < b := fun a ha => (List.mem_append.mp ha).elim (hw a) (hu a)
    have h2 : ∀ a, a ∈ w' ++ u → a < b := fun a ha => (List.mem_append.mp ha).elim (hw' a) (hu a)
    rw [← runs_app, ← runs_app, join_word k1 k2 io _ h1, join_word k1 k2 io _ h2]
    have ec := cong u hu w w' e
    by_cases z : valN b (w ++ u) = 0
    · rw [if_pos z, if_pos ((zero _ _ ec).mp z)]
    · rw [if_neg z, if_neg (fun z' => z ((zero _ _ ec).mpr z')), hf _ _ (by omega) ec, hg _ _ (by omega) ec]
  -- a number for each state
  have key : ∃ num : Nat → Nat, (∀ s, num s < c) ∧ ∀ s t, s < met.length → t < met.length → num s = num t → Alike b (stepOf (newRows (fun s => s) (prodRows R1 R2) met)) (markOf (prodMarks op R2.length M1 M2 met)) s t := by
    refine ⟨fun s => if h : s < met.length then cls (valN b (reach s h).choose) else 0, fun s => ?_, fun s t h1 h2 e => ?_⟩
    · show (if h : s < met.length then _ else 0) < c
      split
      · exact hlt _
      · exact Nat.lt_of_le_of_lt (Nat.zero_le _) (hlt 0)
    · have e' : (if h : s < met.length then cls (valN b (reach s h).choose) else 0) = (if h : t < met.length then cls (valN b (reach t h).choose) else 0) := e
      rw [dif_pos h1, dif_pos h2] at e'
      obtain ⟨a1, a2⟩ := (reach s h1).choose_spec
      obtain ⟨b1, b2⟩ := (reach t h2).choose_spec
      have := like _ _ a1 b1 e'
      rw [a2, b2] at this
      exact this
  obtain ⟨num, n1, n2⟩ := key
  have nd : (ss.map num).Nodup := by
    unfold List.Nodup
    rw [List.pairwise_map]
    exact pw.imp_of_mem fun {s t} ms mt na e => na (n2 s t (hs s ms) (hs t mt) e)
  have := nodup_sub_len nd (k := List.range c) fun x hx => by
    obtain ⟨s, _, e⟩ := List.mem_map.mp hx
    rw [← e]
    exact List.mem_range.mpr (n1 s)
  rw [List.length_range, List.length_map] at this
  omega
end B

namespace B
open PySem L2 MK Hop
/-! ### kinds of one pool: a rest, a rest of the sum, a figure that is borne, the last figure -/
def bit (p : Prop) [Decidable p] : Nat := if p then 1 else 0
theorem bit_le (p : Prop) [Decidable p] : bit p ≤ 1 := by unfold bit; split <;> omega
theorem bit_iff {p q : Prop} [Decidable p] [Decidable q] (h : bit p = bit q) : p ↔ q := by
  unfold bit at h
  by_cases a : p <;> by_cases b : q <;> simp_all
theorem bit_congr {p q : Prop} [Decidable p] [Decidable q] (h : p ↔ q) : bit p = bit q := by
  unfold bit
  by_cases a : p
  · rw [if_pos a, if_pos (h.mp a)]
  · rw [if_neg a, if_neg (fun z => a (h.mpr z))]
def poolC (b m d p l n : Nat) : Nat := if n = 0 then 0 else 1 + (((n % m) * d + (figs b n).sum % d) * 4 + (2 * bit (p ∈ figs b n) + bit (n % b = l)))
theorem poolC_lt {b m d p l : Nat} (hm : 0 < m) (hd : 0 < d) (n : Nat) : poolC b m d p l n < 1 + 4 * (m * d) := by
  unfold poolC
  split
  · omega
  · have h1 := bit_le (p ∈ figs b n)
    have h2 := bit_le (n % b = l)
    have h3 : (n % m) * d + (figs b n).sum % d < m * d := by
      have a1 := Nat.mod_lt n hm
      have a2 := Nat.mod_lt (figs b n).sum hd
      have : (n % m + 1) * d ≤ m * d := Nat.mul_le_mul_right _ a1
      rw [Nat.add_mul, Nat.one_mul] at this
      omega
    omega
/-- what equal classes say -/
theorem poolC_eq {b m d p l : Nat} (hd : 0 < d) {n n' : Nat} (e : poolC b m d p l n = poolC b m d p l n') : (n = 0 ↔ n' = 0) ∧ (n ≠ 0 → n % m = n' % m ∧ (figs b n).sum % d = (figs b n').sum % d ∧ (p ∈ figs b n ↔ p ∈ figs b n') ∧ (n % b = l ↔ n' % b = l)) := by
  unfold poolC at e
  by_cases a : n = 0
  · rw [if_pos a] at e
    by_cases c : n' = 0
    · exact ⟨⟨fun _ => c, fun _ => a⟩, fun z => absurd a z⟩
    · rw [if_neg c] at e; omega
  · rw [if_neg a] at e
    by_cases c : n' = 0
    · rw [if_pos c] at e; omega
    · rw [if_neg c] at e
      refine ⟨⟨fun z => absurd z a, fun z => absurd z c⟩, fun _ => ?_⟩
      have h1 := bit_le (p ∈ figs b n)
      have h2 := bit_le (n % b = l)
      have h3 := bit_le (p ∈ figs b n')
      have h4 := bit_le (n' % b = l)
      have e1 : (n % m) * d + (figs b n).sum % d = (n' % m) * d + (figs b n').sum % d := by omega
      have e2 : bit (p ∈ figs b n) = bit (p ∈ figs b n') := by omega
      have e3 : bit (n % b = l) = bit (n' % b = l) := by omega
      have q1 := code_div (x := n % m) (Nat.mod_lt (figs b n).sum hd)
      have q2 := code_div (x := n' % m) (Nat.mod_lt (figs b n').sum hd)
      rw [e1] at q1
      exact ⟨q1.1.symm.trans q2.1, q1.2.symm.trans q2.2, bit_iff e2, bit_iff e3⟩
theorem poolC_of {b m d p l : Nat} {n n' : Nat} (z : n = 0 ↔ n' = 0) (h : n ≠ 0 → n % m = n' % m ∧ (figs b n).sum % d = (figs b n').sum % d ∧ (p ∈ figs b n ↔ p ∈ figs b n') ∧ (n % b = l ↔ n' % b = l)) : poolC b m d p l n = poolC b m d p l n' := by
  unfold poolC
  by_cases a : n = 0
  · rw [if_pos a, if_pos (z.mp a)]
  · rw [if_neg a, if_neg (fun c => a (z.mpr c))]
    obtain ⟨h1, h2, h3, h4⟩ := h a
    rw [h1, h2, bit_congr h3, bit_congr h4]
theorem figs_next {b : Nat} (hb : 2 ≤ b) {n a : Nat} (ha : a < b) (h : 0 < n * b + a) : figs b (n * b + a) = figs b n ++ [a] := by
  rw [figs_pos h hb, (code_div ha).1, (code_div ha).2]
theorem poolC_step {b m d p l : Nat} (hb : 2 ≤ b) (hm : 0 < m) (hd : 0 < d) (n n' a : Nat) (ha : a < b) (e : poolC b m d p l n = poolC b m d p l n') : poolC b m d p l (n * b + a) = poolC b m d p l (n' * b + a) := by
  obtain ⟨z, h⟩ := poolC_eq hd e
  by_cases c : n = 0
  · rw [c, z.mp c]
  · have c' : n' ≠ 0 := fun q => c (z.mpr q)
    obtain ⟨h1, h2, h3, h4⟩ := h c
    have p1 : 0 < n * b + a := Nat.add_pos_left (Nat.mul_pos (by omega) (by omega)) _
    have p2 : 0 < n' * b + a := Nat.add_pos_left (Nat.mul_pos (by omega) (by omega)) _
    refine poolC_of ⟨fun q => by omega, fun q => by omega⟩ fun _ => ⟨?_, ?_, ?_, ?_⟩
    · rw [Nat.add_mod, Nat.mul_mod, h1, ← Nat.mul_mod, ← Nat.add_mod]
    · rw [figs_next hb ha p1, figs_next hb ha p2, List.sum_append, List.sum_append, Nat.add_mod, h2, ← Nat.add_mod]
    · rw [figs_next hb ha p1, figs_next hb ha p2, List.mem_append, List.mem_append, h3]
    · rw [(code_div ha).2, (code_div ha).2]
/-- what a kind of the pool goes by -/
def Pool (b m d p l : Nat) (f : Nat → Bool) : Prop := ∀ n n', 0 < n → poolC b m d p l n = poolC b m d p l n' → f n = f n'
theorem pool_narrow {b m d p l : Nat} {R1 R2 : List (List Nat)} {M1 M2 : List (Option Bool)} {f g : Nat → Bool} {op : Bool → Bool → Bool} (k1 : KMach b R1 M1 f) (k2 : KMach b R2 M2 g) (hm : 0 < m) (hd : 0 < d) (hmd : m * d ≤ 50) (hf : Pool b m d p l f) (hg : Pool b m d p l g) : ¬ TooW b op R1 R2 M1 M2 :=
  not_toow k1 k2 (poolC b m d p l) (c := 1 + 4 * (m * d)) (by omega) (poolC_lt hm hd) (poolC_step k1.b2 hm hd) (fun _ _ e => (poolC_eq hd e).1) hf hg
theorem pool_rest {b m d p l q : Nat} (hd : 0 < d) : Pool b m d p l (fun n => decide (n % m = q)) := fun n n' h e => by
  have := ((poolC_eq hd e).2 (by omega)).1
  show decide (n % m = q) = decide (n' % m = q)
  rw [this]
theorem pool_sum {b m d p l q : Nat} (hd : 0 < d) : Pool b m d p l (fun n => decide ((figs b n).sum % d = q)) := fun n n' h e => by
  have := ((poolC_eq hd e).2 (by omega)).2.1
  show decide ((figs b n).sum % d = q) = decide ((figs b n').sum % d = q)
  rw [this]
theorem pool_bears {b m d p l : Nat} (hd : 0 < d) : Pool b m d p l (fun n => decide (p ∈ figs b n)) := fun n n' h e => by
  have := ((poolC_eq hd e).2 (by omega)).2.2.1
  exact decide_eq_decide.mpr this
theorem pool_ends {b m d p l : Nat} (hd : 0 < d) : Pool b m d p l (fun n => decide (n % b = l)) := fun n n' h e => by
  have := ((poolC_eq hd e).2 (by omega)).2.2.2
  exact decide_eq_decide.mpr this
theorem pool_every {b m d p l : Nat} : Pool b m d p l (fun _ => true) := fun _ _ _ _ => rfl
theorem Pool.not {b m d p l : Nat} {f : Nat → Bool} (h : Pool b m d p l f) : Pool b m d p l (fun n => !f n) := fun n n' a e => by
  show (!f n) = !f n'
  rw [h n n' a e]
theorem Pool.op {b m d p l : Nat} {f g : Nat → Bool} {o : Bool → Bool → Bool} (h : Pool b m d p l f) (k : Pool b m d p l g) : Pool b m d p l (fun n => o (f n) (g n)) := fun n n' a e => by
  show o (f n) (g n) = o (f n') (g n')
  rw [h n n' a e, k n n' a e]
end B

namespace B
open PySem L2 MK Hop
inductive Tst where
  | rest (m q : Nat) | mul (m : Nat) | bears (f : Nat) | ends (f : Nat) | sum (m q : Nat) | every
def Tst.vs : Tst → List V
  | .rest m q => [.str "rest", .int (m : Nat), .int (q : Nat)]
  | .mul m => [.str "multiple", .int (m : Nat)]
  | .bears f => [.str "bears", .int (f : Nat)]
  | .ends f => [.str "ends", .int (f : Nat)]
  | .sum m q => [.str "sum", .int (m : Nat), .int (q : Nat)]
  | .every => [.str "every"]
def Tst.hd : Tst → String
  | .rest _ _ => "rest"
  | .mul _ => "multiple"
  | .bears _ => "bears"
  | .ends _ => "ends"
  | .sum _ _ => "sum"
  | .every => "every"
theorem Tst.hd0 (t : Tst) : atI t.vs 0 = some (.str t.hd) := by cases t <;> rfl
theorem Tst.ne_not : ∀ t : Tst, decide (V.str t.hd = V.str "not") = false
  | .rest m q => (by decide +kernel : decide (V.str "rest" = V.str "not") = false)
  | .mul m => (by decide +kernel : decide (V.str "multiple" = V.str "not") = false)
  | .bears f => (by decide +kernel : decide (V.str "bears" = V.str "not") = false)
  | .ends f => (by decide +kernel : decide (V.str "ends" = V.str "not") = false)
  | .sum m q => (by decide +kernel : decide (V.str "sum" = V.str "not") = false)
  | .every => (by decide +kernel : decide (V.str "every" = V.str "not") = false)
theorem Tst.ne_aox : ∀ t : Tst, inV (V.str t.hd) [.str "and", .str "or", .str "xor"] = false
  | .rest m q => (by decide +kernel : inV (V.str "rest") [.str "and", .str "or", .str "xor"] = false)
  | .mul m => (by decide +kernel : inV (V.str "multiple") [.str "and", .str "or", .str "xor"] = false)
  | .bears f => (by decide +kernel : inV (V.str "bears") [.str "and", .str "or", .str "xor"] = false)
  | .ends f => (by decide +kernel : inV (V.str "ends") [.str "and", .str "or", .str "xor"] = false)
  | .sum m q => (by decide +kernel : inV (V.str "sum") [.str "and", .str "or", .str "xor"] = false)
  | .every => (by decide +kernel : inV (V.str "every") [.str "and", .str "or", .str "xor"] = false)
theorem sn_m_rest : decide (V.str "rest" = V.str "multiple") = false := by decide +kernel
theorem sn_m_bears : decide (V.str "bears" = V.str "multiple") = false := by decide +kernel
theorem sn_m_ends : decide (V.str "ends" = V.str "multiple") = false := by decide +kernel
theorem sn_m_sum : decide (V.str "sum" = V.str "multiple") = false := by decide +kernel
theorem sn_m_every : decide (V.str "every" = V.str "multiple") = false := by decide +kernel
theorem sn_r_bears : decide (V.str "bears" = V.str "rest") = false := by decide +kernel
theorem sn_r_ends : decide (V.str "ends" = V.str "rest") = false := by decide +kernel
theorem sn_r_sum : decide (V.str "sum" = V.str "rest") = false := by decide +kernel
theorem sn_r_every : decide (V.str "every" = V.str "rest") = false := by decide +kernel
theorem sn_e_bears : decide (V.str "bears" = V.str "every") = false := by decide +kernel
theorem sn_e_ends : decide (V.str "ends" = V.str "every") = false := by decide +kernel
theorem sn_e_sum : decide (V.str "sum" = V.str "every") = false := by decide +kernel
theorem sn_s_bears : decide (V.str "bears" = V.str "sum") = false := by decide +kernel
theorem sn_s_ends : decide (V.str "ends" = V.str "sum") = false := by decide +kernel
theorem sn_d_bears : decide (V.str "bears" = V.str "ends") = false := by decide +kernel
theorem sn_same (x : V) : decide (x = x) = true := decide_eq_true rfl
def Tst.ok (r : Nat) : Tst → Prop
  | .rest m q => 2 ≤ m ∧ m ≤ 12 ∧ q < m
  | .mul m => 2 ≤ m ∧ m ≤ 12
  | .bears f => f < r
  | .ends f => f < r
  | .sum m q => 2 ≤ m ∧ m ≤ 12 ∧ q < m
  | .every => True
def tst (r : Nat) : Tst → Nat → Bool
  | .rest m q, n => decide (n % m = q)
  | .mul m, n => decide (n % m = 0)
  | .bears f, n => decide (f ∈ figs r n)
  | .ends f, n => decide (n % r = f)
  | .sum m q, n => decide ((figs r n).sum % m = q)
  | .every, _ => true
end B

namespace B
open PySem L2 MK Hop
/-! ### tests put together -/
inductive TT where
  | one (t : Tst) | not (a : TT) | and (a b : TT) | or (a b : TT) | xor (a b : TT)
def tt (r : Nat) : TT → Nat → Bool
  | .one t, n => tst r t n
  | .not a, n => !tt r a n
  | .and a b, n => tt r a n && tt r b n
  | .or a b, n => tt r a n || tt r b n
  | .xor a b, n => tt r a n != tt r b n
def TT.depth : TT → Nat
  | .one _ => 0
  | .not a => a.depth + 1
  | .and a b => max a.depth b.depth + 1
  | .or a b => max a.depth b.depth + 1
  | .xor a b => max a.depth b.depth + 1
/-- all tests of one pool: a divisor m, one of sums d, a figure p to bear, a last figure l -/
def Tst.of (m d p l : Nat) : Tst → Prop
  | .rest k _ => k = m
  | .mul k => k = m
  | .bears f => f = p
  | .ends f => f = l
  | .sum k _ => k = d
  | .every => True
def TT.of (m d p l : Nat) : TT → Prop
  | .one t => t.of m d p l
  | .not a => a.of m d p l
  | .and a b => a.of m d p l ∧ b.of m d p l
  | .or a b => a.of m d p l ∧ b.of m d p l
  | .xor a b => a.of m d p l ∧ b.of m d p l
theorem pool_tst {r m d p l : Nat} (hd : 0 < d) : ∀ t : Tst, t.of m d p l → Pool r m d p l (tst r t)
  | .rest k q, h => by cases h; exact pool_rest hd
  | .mul k, h => by cases h; exact pool_rest hd
  | .bears f, h => by cases h; exact pool_bears hd
  | .ends f, h => by cases h; exact pool_ends hd
  | .sum k q, h => by cases h; exact pool_sum hd
  | .every, _ => pool_every
theorem pool_tt {r m d p l : Nat} (hd : 0 < d) : ∀ t : TT, t.of m d p l → Pool r m d p l (tt r t)
  | .one t, h => pool_tst hd t h
  | .not a, h => (pool_tt hd a h).not
  | .and a b, h => Pool.op (o := fun x y => x && y) (pool_tt hd a h.1) (pool_tt hd b h.2)
  | .or a b, h => Pool.op (o := fun x y => x || y) (pool_tt hd a h.1) (pool_tt hd b h.2)
  | .xor a b, h => Pool.op (o := fun x y => x != y) (pool_tt hd a h.1) (pool_tt hd b h.2)
theorem op_and (x y : Bool) : opOf false false true x y = (x && y) := by cases x <;> cases y <;> rfl
theorem op_or (x y : Bool) : opOf false true true x y = (x || y) := by cases x <;> cases y <;> rfl
theorem op_xor (x y : Bool) : opOf false true false x y = (x != y) := by cases x <;> cases y <;> rfl
/-- classes of numbers that go on by figures, few enough -/
structure NPool (b : Nat) (cls : Nat → Nat) : Prop where
  lt : ∃ c, c ≤ 201 ∧ ∀ n, cls n < c
  step : ∀ n n' a, a < b → cls n = cls n' → cls (n * b + a) = cls (n' * b + a)
  zero : ∀ n n', cls n = cls n' → (n = 0 ↔ n' = 0)
def Resp' (cls : Nat → Nat) (f : Nat → Bool) : Prop := ∀ n n', 0 < n → cls n = cls n' → f n = f n'
def TT.fit (r : Nat) (cls : Nat → Nat) : TT → Prop
  | .one t => Resp' cls (tst r t)
  | .not a => a.fit r cls
  | .and a b => a.fit r cls ∧ b.fit r cls
  | .or a b => a.fit r cls ∧ b.fit r cls
  | .xor a b => a.fit r cls ∧ b.fit r cls
theorem fit_tt {r : Nat} {cls : Nat → Nat} : ∀ (t : TT), t.fit r cls → Resp' cls (tt r t)
  | .one t, h => h
  | .not a, h => fun n n' z e => by show (!tt r a n) = !tt r a n'; rw [fit_tt a h n n' z e]
  | .and a b, h => fun n n' z e => by show (tt r a n && tt r b n) = (tt r a n' && tt r b n'); rw [fit_tt a h.1 n n' z e, fit_tt b h.2 n n' z e]
  | .or a b, h => fun n n' z e => by show (tt r a n || tt r b n) = (tt r a n' || tt r b n'); rw [fit_tt a h.1 n n' z e, fit_tt b h.2 n n' z e]
  | .xor a b, h => fun n n' z e => by show (tt r a n != tt r b n) = (tt r a n' != tt r b n'); rw [fit_tt a h.1 n n' z e, fit_tt b h.2 n n' z e]
theorem NPool.narrow {b : Nat} {cls : Nat → Nat} (h : NPool b cls) {R1 R2 : List (List Nat)} {M1 M2 : List (Option Bool)} {f g : Nat → Bool} {op : Bool → Bool → Bool} (k1 : KMach b R1 M1 f) (k2 : KMach b R2 M2 g) (hf : Resp' cls f) (hg : Resp' cls g) : ¬ TooW b op R1 R2 M1 M2 := by
  obtain ⟨c, hc, hl⟩ := h.lt
  exact not_toow k1 k2 cls hc hl h.step h.zero hf hg
theorem NPool.ofC {b m d p l : Nat} (hb : 2 ≤ b) (hm : 0 < m) (hd : 0 < d) (hmd : m * d ≤ 50) : NPool b (poolC b m d p l) := ⟨⟨1 + 4 * (m * d), by omega, poolC_lt hm hd⟩, poolC_step hb hm hd, fun _ _ e => (poolC_eq hd e).1⟩
theorem TT.fitC {r m d p l : Nat} (hd : 0 < d) : ∀ t : TT, t.of m d p l → t.fit r (poolC r m d p l)
  | .one t, h => pool_tst hd t h
  | .not a, h => TT.fitC hd a h
  | .and a b, h => ⟨TT.fitC hd a h.1, TT.fitC hd b h.2⟩
  | .or a b, h => ⟨TT.fitC hd a h.1, TT.fitC hd b h.2⟩
  | .xor a b, h => ⟨TT.fitC hd a h.1, TT.fitC hd b h.2⟩
/-- a test as nested tuples -/
def TreeAt (K : PySem.W.Frag) (H : Hp) : Addr → TT → Prop
  | a, .one t => SqT K H a t.vs
  | a, .not x => ∃ c, SqT K H a [.str "not", .ref c] ∧ TreeAt K H c x
  | a, .and x y => ∃ c e, SqT K H a [.str "and", .ref c, .ref e] ∧ TreeAt K H c x ∧ TreeAt K H e y
  | a, .or x y => ∃ c e, SqT K H a [.str "or", .ref c, .ref e] ∧ TreeAt K H c x ∧ TreeAt K H e y
  | a, .xor x y => ∃ c e, SqT K H a [.str "xor", .ref c, .ref e] ∧ TreeAt K H c x ∧ TreeAt K H e y
theorem TreeAt.ext {K : PySem.W.Frag} {H H' : Hp} (s : Same H H') : ∀ {t : TT} {a : Addr}, TreeAt K H a t → TreeAt K H' a t
  | .one _, _, h => SqT.ext h s
  | .not _, _, ⟨c, h, k⟩ => ⟨c, h.ext s, TreeAt.ext s k⟩
  | .and _ _, _, ⟨c, e, h, k, j⟩ => ⟨c, e, h.ext s, TreeAt.ext s k, TreeAt.ext s j⟩
  | .or _ _, _, ⟨c, e, h, k, j⟩ => ⟨c, e, h.ext s, TreeAt.ext s k, TreeAt.ext s j⟩
  | .xor _ _, _, ⟨c, e, h, k, j⟩ => ⟨c, e, h.ext s, TreeAt.ext s k, TreeAt.ext s j⟩
end B

namespace L2
open PySem PySem.Spec PyProof.Rows
section
variable {X : Cx} {e : Expr} {o : Expr} {es : List Expr} {t : TA} {to : TE} {pos apos cpos : Pos} {name : Str} {id : String} {r : V → List V → Hp → VK → Prop}
/-- (a, b, ..), of which the object is known -/
def tTupF (t : TA) : TE := fun σ H Q => t σ H fun xs H1 => xs.length ≤ sizeLine ∧ ∀ p ob, H1 p = none → ob.cls = Value.type "tuple" → ob.dict = none → Q (.ref p) (upd H1 p (.frz ob (.tup xs)))
theorem pe_tupF {x1} (h : PA X es t) : PE X (.Tuple es x1 pos) (tTupF t) := by
  refine ⟨fun pins s σ H Q I hq => ?_⟩
  refine wpAny_Tuple_spliced (thn (h.run pos pins s σ H _ I hq) fun us s1 ⟨xs, H1, I1, r, z, q⟩ => ⟨by rw [← r.length]; exact z, ?_⟩)
  have hf : H1 s1.heap.objs.size = none := I1.hok.fresh (Nat.le_refl _)
  refine ⟨.ref s1.heap.objs.size, upd H1 s1.heap.objs.size (.frz { cls := .type "tuple", data := .seq us.toArray } (.tup xs)), I1.laid (t' := s1.toks) (fun b u e => Heap.get?_push_of_some _ e) (Nat.le_refl _) ?_, rfl, q _ { cls := .type "tuple", data := .seq us.toArray } hf rfl rfl⟩
  exact ⟨Heap.get?_push_size _ rfl, z, us, r, ⟨_, Heap.get?_push_size _ rfl, rfl, _, rfl⟩⟩
def tyT (x : V) (H : Hp) : Prop := ∃ p ob xs, x = .ref p ∧ H p = some (.frz ob (.tup xs)) ∧ ob.cls = Value.type "tuple" ∧ ob.dict = none
def tBMT (r : V → List V → Hp → VK → Prop) (to : TE) (t : TA) : TE := fun σ H Q => to σ H fun x H1 => tyT x H1 ∧ t σ H1 fun xs H2 => r x xs H2 Q
/-- a method of a tuple that was just displayed -/
theorem pe_bmT (pa : PlainAttrs "tuple") (slot : Slot "tuple" name id) (hty : typeOf (.builtin id) = pure (.type "method_descriptor")) (hm : MtR X id r) (ho : PE X o to) (ha : PA X (e :: es) t)
    (hbase : attributeBase o name X.env (eval o X.env) = eval o X.env := by rfl)
    (hfew : ((backTo cpos (starEach (e :: es) X.env)).all (fun x => !x.1) && (backToKw cpos (keywordEach [] X.env)).all (fun x => x.1.isSome)
      && decide ((e :: es).length + ([] : List Keyword).length + (if ([] : List Keyword).isEmpty then 0 else 1) < 30)) = true := by rfl)
    (hline : (apos.endLine == cpos.line) = true := by rfl) (hs : starEach (e :: es) X.env = (false, eval e X.env) :: starEach es X.env := by rfl) (hplain : (backTo cpos (starEach es X.env)).any (·.1) = false := by rfl) :
    PE X (.Call (.Attribute o name apos) (e :: es) [] cpos) (tBMT r to t) := by
  refine ⟨fun pins s σ H Q I h => ?_⟩
  refine wpAny_Call_method_late hbase hfew hline rfl (thn (ho.run pins s σ H _ I h) fun v s1 ⟨x, H1, I1, r1, ty, q1⟩ => ?_)
  have h12 : s1.TypeIs v "tuple" ∧ ∀ a, v = .ref a → ∃ ob, s1.heap.get? a = some ob ∧ ob.dict = none := by
    obtain ⟨p, ob, xs, rfl, hp, hc, hd⟩ := ty
    cases r1
    obtain ⟨e1, _⟩ := I1.hok p _ hp
    refine ⟨⟨ob, e1, hc⟩, fun a e => ?_⟩
    cases e
    exact ⟨ob, e1, hd⟩
  obtain ⟨h1, h2⟩ := h12
  refine ⟨"tuple", id, pa, slot, hty, h1, h2, ?_⟩
  have hA := ha.run cpos pins s1 σ H1 _ I1 q1
  rw [hs] at hA ⊢
  refine Calls.callWith_builtin (by show (false || (backTo cpos (starEach es X.env)).any (·.1)) = false; rw [hplain] <;> rfl) (Calls.evalArgs_plain ?_)
  exact thn hA fun us s2 ⟨vs, H2, I2, r2, q2⟩ => hm pins s2 σ H2 x vs v us Q I2 r1 r2 q2
end
end L2

/-! tests that make no wide machine, at each of their joints -/
namespace B
open PySem L2 MK Hop
def TT.nar (r : Nat) : TT → Prop
  | .one _ => True
  | .not a => a.nar r
  | .and a b => a.nar r ∧ b.nar r ∧ ∃ cls, NPool r cls ∧ Resp' cls (tt r a) ∧ Resp' cls (tt r b)
  | .or a b => a.nar r ∧ b.nar r ∧ ∃ cls, NPool r cls ∧ Resp' cls (tt r a) ∧ Resp' cls (tt r b)
  | .xor a b => a.nar r ∧ b.nar r ∧ ∃ cls, NPool r cls ∧ Resp' cls (tt r a) ∧ Resp' cls (tt r b)
theorem nar_of {r : Nat} {cls : Nat → Nat} (np : NPool r cls) : ∀ t : TT, t.fit r cls → t.nar r
  | .one _, _ => True.intro
  | .not a, h => nar_of (r := r) np a h
  | .and a b, h => ⟨nar_of np a h.1, nar_of np b h.2, cls, np, fit_tt a h.1, fit_tt b h.2⟩
  | .or a b, h => ⟨nar_of np a h.1, nar_of np b h.2, cls, np, fit_tt a h.1, fit_tt b h.2⟩
  | .xor a b, h => ⟨nar_of np a h.1, nar_of np b h.2, cls, np, fit_tt a h.1, fit_tt b h.2⟩
def TT.ok (r : Nat) : TT → Prop
  | .one t => t.ok r
  | .not a => a.ok r
  | .and a b => a.ok r ∧ b.ok r
  | .or a b => a.ok r ∧ b.ok r
  | .xor a b => a.ok r ∧ b.ok r
def spPrev (sp : Nat → Sp) : Nat → Sp
  | 0 => fun _ _ _ _ => False
  | d + 1 => sp d
theorem tAndV_bb {i j : Nat} {σ : L2.St} {H : Hp} {Q : VK} {u v : Bool} (h1 : σ[i]? = some (some (.bl u))) (h2 : σ[j]? = some (some (.bl v))) (q : Q (.bl (u && v)) H) : tAndV (tVar i) (tVar j) σ H Q := by
  refine ⟨_, h1, u, rfl, ?_⟩
  cases u
  · exact iteF q
  · exact iteT ⟨_, h2, q⟩
theorem tOrV_bb {i j : Nat} {σ : L2.St} {H : Hp} {Q : VK} {u v : Bool} (h1 : σ[i]? = some (some (.bl u))) (h2 : σ[j]? = some (some (.bl v))) (q : Q (.bl (u || v)) H) : tOrV (tVar i) (tVar j) σ H Q := by
  refine ⟨_, h1, u, rfl, ?_⟩
  cases u
  · exact iteF ⟨_, h2, q⟩
  · exact iteT q
theorem ne_bb (u v : Bool) : (!decide (V.bl u = V.bl v)) = (u != v) := by cases u <;> cases v <;> rfl
end B

namespace B
open PySem L2 MK Hop
/-- what is asked of the class of kinds: its operators -/
structure KO (P : Program) (w : World) (K : PySem.W.Frag) (mg : Str → Option Value) (base : Heap) (C fA fO fX fI : Addr) (dA dO dX dI : FuncData) : Prop where
  sf : PySem.W.selfFirst K C = true
  Ga : FnOk P w K mg base CX0 5 fA dA ["self", "other"] (spOp K C false false true)
  sa : PySem.W.findIn K (.ref C) "__and__" = some (some (.ref fA))
  fa : PySem.W.isFn K (.ref fA) = true
  ba : Binds K dA ["self", "other"] []
  Go : FnOk P w K mg base CX0 5 fO dO ["self", "other"] (spOp K C false true true)
  so : PySem.W.findIn K (.ref C) "__or__" = some (some (.ref fO))
  fo : PySem.W.isFn K (.ref fO) = true
  bo : Binds K dO ["self", "other"] []
  Gx : FnOk P w K mg base CX0 5 fX dX ["self", "other"] (spOp K C false true false)
  sx : PySem.W.findIn K (.ref C) "__xor__" = some (some (.ref fX))
  fx : PySem.W.isFn K (.ref fX) = true
  bx : Binds K dX ["self", "other"] []
  Gi : FnOk P w K mg base CX0 3 fI dI ["self"] (spInv K C)
  si : PySem.W.findIn K (.ref C) "__invert__" = some (some (.ref fI))
  fi : PySem.W.isFn K (.ref fI) = true
  bi : Binds K dI ["self"] []
def spLk (K : PySem.W.Frag) (C : Addr) (d : Nat) : Sp := fun vs H Q _ => ∃ (r : Nat) (a : Addr) (t : TT), vs = [.int (r : Nat), .ref a] ∧ TreeAt K H a t ∧ t.depth ≤ d ∧ t.ok r ∧ t.nar r ∧ 2 ≤ r ∧ r ≤ 16 ∧ Gets K C H Q r (tt r t)
end B

/-! counting by figures: the mathematics alone -/
namespace Cn
def cnt (g : Nat → Bool) : Nat → Nat
  | 0 => 0
  | n + 1 => cnt g n + if g n then 1 else 0
theorem cnt_succ (g : Nat → Bool) (n : Nat) : cnt g (n + 1) = cnt g n + if g n then 1 else 0 := rfl
theorem cnt_mono {g : Nat → Bool} : ∀ {m n : Nat}, m ≤ n → cnt g m ≤ cnt g n := fun {m n} h => by
  induction n with
  | zero => rw [Nat.le_zero.mp h]; exact Nat.le_refl _
  | succ n ih =>
    rcases Nat.lt_or_ge m (n + 1) with c | c
    · rw [cnt_succ]; have := ih (by omega); omega
    · rw [Nat.le_antisymm h c]; exact Nat.le_refl _
theorem cnt_le (g : Nat → Bool) : ∀ n, cnt g n ≤ n
  | 0 => Nat.le_refl _
  | n + 1 => by rw [cnt_succ]; have := cnt_le g n; split <;> omega
theorem cnt_congr {g h : Nat → Bool} : ∀ {n : Nat}, (∀ m, m < n → g m = h m) → cnt g n = cnt h n
  | 0, _ => rfl
  | n + 1, e => by rw [cnt_succ, cnt_succ, cnt_congr fun m l => e m (by omega), e n (by omega)]
theorem cnt_filter (g : Nat → Bool) : ∀ n, cnt g n = ((List.range n).filter g).length
  | 0 => rfl
  | n + 1 => by
    rw [cnt_succ, cnt_filter g n, List.range_succ, List.filter_append, List.length_append]
    congr 1
    cases h : g n <;> simp [h]
/-- so many numbers below, it itself in -/
def IsNth (g : Nat → Bool) (k m : Nat) : Prop := g m = true ∧ cnt g m + 1 = k
theorem IsNth.of {g : Nat → Bool} {k m : Nat} (h1 : cnt g m < k) (h2 : k ≤ cnt g (m + 1)) : IsNth g k m := by
  rw [cnt_succ] at h2
  cases c : g m with
  | true => rw [c] at h2; simp at h2; exact ⟨c, by omega⟩
  | false => rw [c] at h2; simp at h2; omega
theorem IsNth.uniq {g : Nat → Bool} {k m n : Nat} (h : IsNth g k m) (h' : IsNth g k n) : m = n := by
  rcases Nat.lt_trichotomy m n with c | c | c
  · have := cnt_mono (g := g) (show m + 1 ≤ n by omega)
    rw [cnt_succ, h.1] at this
    simp at this
    have := h.2; have := h'.2; omega
  · exact c
  · have := cnt_mono (g := g) (show n + 1 ≤ m by omega)
    rw [cnt_succ, h'.1] at this
    simp at this
    have := h.2; have := h'.2; omega
theorem nth_ex {g : Nat → Bool} {k : Nat} : ∀ {n : Nat}, 0 < k → k ≤ cnt g n → ∃ m, m < n ∧ IsNth g k m
  | 0, h, h' => by simp [cnt] at h'; omega
  | n + 1, h, h' => by
    by_cases c : k ≤ cnt g n
    · obtain ⟨m, l, q⟩ := nth_ex h c
      exact ⟨m, by omega, q⟩
    · exact ⟨n, by omega, .of (by omega) h'⟩
/-- the next one behind n -/
theorem nth_next {g : Nat → Bool} {n m : Nat} (h : IsNth g (cnt g n + 1) m) : n ≤ m ∧ g m = true ∧ ∀ j, n ≤ j → j < m → g j = false := by
  have hm : n ≤ m := by
    rcases Nat.lt_or_ge m n with c | c
    · have := cnt_mono (g := g) (show m + 1 ≤ n by omega)
      rw [cnt_succ, h.1] at this
      simp at this
      have := h.2; omega
    · exact c
  refine ⟨hm, h.1, fun j h1 h2 => ?_⟩
  cases c : g j with
  | false => rfl
  | true =>
    have a := cnt_mono (g := g) h1
    have b := cnt_mono (g := g) (show j + 1 ≤ m by omega)
    rw [cnt_succ, c] at b
    simp at b
    have := h.2; omega
def sumTo (w : Nat → Nat) : Nat → Nat
  | 0 => 0
  | n + 1 => sumTo w n + w n
theorem sumTo_map (w : Nat → Nat) : ∀ n, ((List.range n).map w).sum = sumTo w n
  | 0 => rfl
  | n + 1 => by rw [List.range_succ, List.map_append, List.sum_append, sumTo_map w n]; simp [sumTo]
theorem tele {w c : Nat → Nat} {q : Nat} : ∀ (n : Nat), (∀ a, a < n → w a + c (q + a) = c (q + a + 1)) → sumTo w n + c q = c (q + n) := by
  intro n
  induction n with
  | zero => intro _; simp [sumTo]
  | succ n ih =>
    intro h
    have h1 := ih fun a l => h a (by omega)
    have h2 := h n (by omega)
    have e : q + (n + 1) = q + n + 1 := by omega
    rw [e]
    show sumTo w n + w n + c q = c (q + n + 1)
    omega
section
variable {b : Nat} {g : Nat → Bool} {W : Nat → Nat → Nat}
structure Ways (b : Nat) (g : Nat → Bool) (W : Nat → Nat → Nat) : Prop where
  z : ∀ p, W 0 p = if g p then 1 else 0
  s : ∀ k p, W (k + 1) p = sumTo (fun a => W k (p * b + a)) b
theorem Ways.cnt (h : Ways b g W) : ∀ k p, W k p + cnt g (p * b ^ k) = cnt g ((p + 1) * b ^ k)
  | 0, p => by rw [h.z, Nat.pow_zero, Nat.mul_one, Nat.mul_one, cnt_succ]; omega
  | k + 1, p => by
    rw [h.s]
    have e1 : p * b ^ (k + 1) = p * b * b ^ k := by rw [Nat.pow_succ, Nat.mul_comm (b ^ k) b, Nat.mul_assoc]
    have e2 : (p + 1) * b ^ (k + 1) = (p * b + b) * b ^ k := by rw [Nat.pow_succ, Nat.mul_comm (b ^ k) b, ← Nat.mul_assoc, Nat.add_mul, Nat.one_mul]
    rw [e1, e2]
    exact tele (c := fun j => Cn.cnt g (j * b ^ k)) _ fun a _ => h.cnt k (p * b + a)
theorem Ways.part (h : Ways b g W) (k p a : Nat) : sumTo (fun a => W k (p * b + a)) a + Cn.cnt g (p * b ^ (k + 1)) = Cn.cnt g ((p * b + a) * b ^ k) := by
  have e1 : p * b ^ (k + 1) = p * b * b ^ k := by rw [Nat.pow_succ, Nat.mul_comm (b ^ k) b, Nat.mul_assoc]
  rw [e1]
  exact tele (c := fun j => Cn.cnt g (j * b ^ k)) _ fun a _ => h.cnt k (p * b + a)
theorem Ways.all (h : Ways b g W) (h0 : g 0 = false) (k : Nat) : W k 0 = Cn.cnt g (b ^ k) := by
  have := h.cnt k 0
  rw [Nat.zero_mul, Nat.zero_add, Nat.one_mul] at this
  exact this
end
/-! ### far members come again -/
/-- of states on a way longer than their number two are the same -/
theorem pigeon {f : Nat → Nat} {N : Nat} : ∀ {n : Nat}, N < n → (∀ i, i < n → f i < N) → ∃ i j, i < j ∧ j < n ∧ f i = f j := by
  intro n hn hf
  apply Classical.byContradiction
  intro hc
  have inj : ∀ i j, i < j → j < n → f i ≠ f j := fun i j h1 h2 e => hc ⟨i, j, h1, h2, e⟩
  have nd : ((List.range n).map f).Nodup := by
    unfold List.Nodup
    rw [List.pairwise_map]
    exact List.Pairwise.imp_of_mem (R := fun a b => a < b) (fun {a b} _ hb l => inj a b l (List.mem_range.mp hb)) List.pairwise_lt_range
  have sub : ∀ x, x ∈ (List.range n).map f → x ∈ List.range N := fun x hx => by
    obtain ⟨i, hi, e⟩ := List.mem_map.mp hx
    rw [List.mem_range] at hi ⊢
    rw [← e]; exact hf i hi
  have key : ∀ (l m : List Nat), l.Nodup → (∀ x, x ∈ l → x ∈ m) → l.length ≤ m.length := by
    intro l
    induction l with
    | nil => intro m _ _; exact Nat.zero_le _
    | cons a l ih =>
      intro m hl hm
      have ha := hm a List.mem_cons_self
      have := ih (m.erase a) (List.nodup_cons.mp hl).2 fun x hx => by
        refine (List.mem_erase_of_ne ?_).mpr (hm x (List.mem_cons_of_mem _ hx))
        intro e; subst e; exact (List.nodup_cons.mp hl).1 hx
      rw [List.length_erase_of_mem ha] at this
      have := List.length_pos_of_mem ha
      rw [List.length_cons]; omega
  have := key _ _ nd sub
  rw [List.length_map, List.length_range, List.length_range] at this
  omega
end Cn

/-! members far out, by the states: the mathematics alone -/
namespace Cn
structure Reads (b N : Nat) (st : Nat → Nat) (step : Nat → Nat → Nat) (g : Nat → Bool) (acc : Nat → Bool) : Prop where
  b2 : 2 ≤ b
  nx : ∀ p a, a < b → st (p * b + a) = step (st p) a
  pos : ∀ p, 0 < p → 0 < st p ∧ st p ≤ N
  ac : ∀ m, 0 < m → g m = acc (st m)
  z : g 0 = false
  reach : ∀ s, 0 < s → s ≤ N → ∃ p, 0 < p ∧ st p = s
section
variable {b N : Nat} {st : Nat → Nat} {step : Nat → Nat → Nat} {g acc : Nat → Bool}
theorem Reads.same (h : Reads b N st step g acc) {p q : Nat} (e : st p = st q) : ∀ {i r : Nat}, r < b ^ i → st (p * b ^ i + r) = st (q * b ^ i + r)
  | 0, r, hr => by
    have : r = 0 := by simp at hr; omega
    subst this
    simpa using e
  | i + 1, r, hr => by
    have hb : 0 < b := by have := h.b2; omega
    have hr' : r / b < b ^ i := by rw [Nat.div_lt_iff_lt_mul hb]; rw [Nat.pow_succ] at hr; exact hr
    have key : ∀ p : Nat, p * b ^ (i + 1) + r = (p * b ^ i + r / b) * b + r % b := fun p => by
      rw [Nat.add_mul, Nat.pow_succ, Nat.mul_assoc, Nat.add_assoc, Nat.mul_comm (r / b) b, Nat.div_add_mod]
    rw [key, key, h.nx _ _ (Nat.mod_lt _ hb), h.nx _ _ (Nat.mod_lt _ hb), h.same e hr']
theorem div_pow_pos {b m i : Nat} (hb : 0 < b) (h : b ^ i ≤ m) : 0 < m / b ^ i := Nat.div_pos h (Nat.pow_pos hb)
theorem Reads.loop (h : Reads b N st step g acc) {m : Nat} (hm : b ^ N ≤ m) : ∃ i j, i < j ∧ j ≤ N ∧ st (m / b ^ i) = st (m / b ^ j) := by
  have hb : 0 < b := by have := h.b2; omega
  have hi : ∀ i, i ≤ N → 0 < m / b ^ i := fun i l => div_pow_pos hb (Nat.le_trans (Nat.pow_le_pow_right hb l) hm)
  obtain ⟨i, j, h1, h2, e⟩ := pigeon (f := fun i => st (m / b ^ i) - 1) (N := N) (n := N + 1) (by omega) fun i l => by
    have := h.pos _ (hi i (by omega))
    show st (m / b ^ i) - 1 < N
    omega
  have a1 := h.pos _ (hi i (by omega))
  have a2 := h.pos _ (hi j (by omega))
  have e' : st (m / b ^ i) - 1 = st (m / b ^ j) - 1 := e
  exact ⟨i, j, h1, by omega, by omega⟩
/-- a member far out: there is a nearer one -/
theorem Reads.far (h : Reads b N st step g acc) (L : Nat) : ∀ m, b ^ L ≤ m → g m = true → ∃ m', b ^ L ≤ m' ∧ m' ≤ m ∧ m' < b ^ (L + N) ∧ g m' = true := by
  intro m
  induction m using Nat.strongRecOn with
  | _ m ih =>
    intro h1 h2
    have hb : 0 < b := by have := h.b2; omega
    by_cases c : m < b ^ (L + N)
    · exact ⟨m, h1, Nat.le_refl _, c, h2⟩
    have c : b ^ (L + N) ≤ m := Nat.le_of_not_lt c
    obtain ⟨i, j, hij, hj, e⟩ := h.loop (Nat.le_trans (Nat.pow_le_pow_right hb (Nat.le_add_left N L)) c)
    have hbi : 0 < b ^ i := Nat.pow_pos hb
    have hr : m % b ^ i < b ^ i := Nat.mod_lt _ hbi
    have em : m = m / b ^ i * b ^ i + m % b ^ i := by rw [Nat.mul_comm]; exact (Nat.div_add_mod m (b ^ i)).symm
    have es := h.same e.symm hr
    rw [← em] at es
    -- less
    have pj : b ^ L ≤ m / b ^ j := by
      rw [Nat.le_div_iff_mul_le (Nat.pow_pos hb), ← Nat.pow_add]
      exact Nat.le_trans (Nat.pow_le_pow_right hb (by omega)) c
    have lt : m / b ^ j < m / b ^ i := by
      have : b ^ j = b ^ i * b ^ (j - i) := by rw [← Nat.pow_add]; congr 1; omega
      rw [this, ← Nat.div_div_eq_div_mul]
      have hp : 0 < m / b ^ i := div_pow_pos hb (Nat.le_trans (Nat.pow_le_pow_right hb (by omega)) c)
      refine Nat.div_lt_self hp ?_
      calc 1 < b := h.b2
        _ = b ^ 1 := (Nat.pow_one b).symm
        _ ≤ b ^ (j - i) := Nat.pow_le_pow_right hb (by omega)
    have l2 : m / b ^ j * b ^ i + m % b ^ i < m := by
      have := Nat.mul_lt_mul_of_pos_right lt hbi
      have a := Nat.div_add_mod m (b ^ i)
      rw [Nat.mul_comm] at a
      omega
    have g2 : b ^ L ≤ m / b ^ j * b ^ i + m % b ^ i := Nat.le_trans pj (Nat.le_trans (Nat.le_mul_of_pos_right _ hbi) (Nat.le_add_right _ _))
    have p0 : 0 < b ^ L := Nat.pow_pos hb
    obtain ⟨m', q1, q2, q3, q4⟩ := ih _ l2 g2 (by rw [h.ac _ (by omega), es, ← h.ac m (by omega)]; exact h2)
    exact ⟨m', q1, by omega, q3, q4⟩
/-- .. and a further one -/
theorem Reads.more (h : Reads b N st step g acc) {m : Nat} (hm : b ^ N ≤ m) (hg : g m = true) : ∃ m', m < m' ∧ g m' = true := by
  have hb : 0 < b := by have := h.b2; omega
  obtain ⟨i, j, hij, hj, e⟩ := h.loop hm
  have hbj : 0 < b ^ j := Nat.pow_pos hb
  have hr : m % b ^ j < b ^ j := Nat.mod_lt _ hbj
  have em : m = m / b ^ j * b ^ j + m % b ^ j := by rw [Nat.mul_comm]; exact (Nat.div_add_mod m (b ^ j)).symm
  have es := h.same e hr
  rw [← em] at es
  have lt : m / b ^ j < m / b ^ i := by
    have : b ^ j = b ^ i * b ^ (j - i) := by rw [← Nat.pow_add]; congr 1; omega
    rw [this, ← Nat.div_div_eq_div_mul]
    have hp : 0 < m / b ^ i := div_pow_pos hb (Nat.le_trans (Nat.pow_le_pow_right hb (by omega)) hm)
    refine Nat.div_lt_self hp ?_
    calc 1 < b := h.b2
      _ = b ^ 1 := (Nat.pow_one b).symm
      _ ≤ b ^ (j - i) := Nat.pow_le_pow_right hb (by omega)
  have l2 : m < m / b ^ i * b ^ j + m % b ^ j := by
    have := Nat.mul_lt_mul_of_pos_right lt hbj
    have a := Nat.div_add_mod m (b ^ j)
    rw [Nat.mul_comm] at a
    omega
  exact ⟨_, l2, by rw [h.ac _ (by omega), es, ← h.ac m (by have := Nat.pow_pos (n := N) hb; omega)]; exact hg⟩
theorem Reads.unbounded (h : Reads b N st step g acc) {m : Nat} (hm : b ^ N ≤ m) (hg : g m = true) : ∀ B, ∃ m', B < m' ∧ b ^ N ≤ m' ∧ g m' = true
  | 0 => ⟨m, by have := Nat.pow_pos (n := N) (show 0 < b by have := h.b2; omega); omega, hm, hg⟩
  | B + 1 => by
    obtain ⟨m', h1, h2, h3⟩ := h.unbounded hm hg B
    obtain ⟨m2, h4, h5⟩ := h.more h2 h3
    exact ⟨m2, by omega, by omega, h5⟩
/-- can so many figures lead into it -/
structure Lasts (b N : Nat) (acc : Nat → Bool) (step : Nat → Nat → Nat) (LA : Nat → Nat → Bool) : Prop where
  z : ∀ s, 0 < s → LA 0 s = acc s
  s : ∀ k s, 0 < s → s ≤ N → LA (k + 1) s = (List.range b).any fun a => LA k (step s a)
theorem Reads.lasts (h : Reads b N st step g acc) {LA : Nat → Nat → Bool} (l : Lasts b N acc step LA) : ∀ k p, 0 < p → (LA k (st p) = true ↔ ∃ r, r < b ^ k ∧ g (p * b ^ k + r) = true)
  | 0, p, hp => by
    rw [l.z _ (h.pos p hp).1, ← h.ac p hp]
    constructor
    · intro e; exact ⟨0, by simp, by simpa using e⟩
    · rintro ⟨r, hr, e⟩
      have : r = 0 := by simp at hr; omega
      subst this
      simpa using e
  | k + 1, p, hp => by
    have hb : 0 < b := by have := h.b2; omega
    rw [l.s _ _ (h.pos p hp).1 (h.pos p hp).2, List.any_eq_true]
    constructor
    · rintro ⟨a, ha, e⟩
      rw [List.mem_range] at ha
      rw [← h.nx p a ha] at e
      have pp : 0 < p * b + a := by have := Nat.mul_pos hp hb; omega
      obtain ⟨r, hr, e2⟩ := (h.lasts l k _ pp).mp e
      refine ⟨a * b ^ k + r, ?_, ?_⟩
      · rw [Nat.pow_succ, Nat.mul_comm (b ^ k) b]
        calc a * b ^ k + r < a * b ^ k + b ^ k := by omega
          _ = (a + 1) * b ^ k := by rw [Nat.add_mul, Nat.one_mul]
          _ ≤ b * b ^ k := Nat.mul_le_mul_right _ ha
      · rw [← e2]; congr 1
        rw [Nat.pow_succ, Nat.add_mul, Nat.mul_comm (b ^ k) b, ← Nat.mul_assoc]; omega
    · rintro ⟨r, hr, e⟩
      have ha : r / b ^ k < b := by rw [Nat.div_lt_iff_lt_mul (Nat.pow_pos hb), Nat.mul_comm, ← Nat.pow_succ]; exact hr
      refine ⟨r / b ^ k, List.mem_range.mpr ha, ?_⟩
      rw [← h.nx p _ ha]
      have pp : 0 < p * b + r / b ^ k := Nat.lt_of_lt_of_le (Nat.mul_pos hp hb) (Nat.le_add_right _ _)
      refine (h.lasts l k _ pp).mpr ⟨r % b ^ k, Nat.mod_lt _ (Nat.pow_pos hb), ?_⟩
      rw [← e]; congr 1
      rw [Nat.pow_succ, Nat.add_mul, Nat.mul_comm (b ^ k) b, ← Nat.mul_assoc, Nat.add_assoc, Nat.mul_comm (r / b ^ k) (b ^ k), Nat.div_add_mod]
theorem Reads.finite (h : Reads b N st step g acc) {LA : Nat → Nat → Bool} (l : Lasts b N acc step LA) : ((∃ s, 0 < s ∧ s ≤ N ∧ LA N s = true) → ∀ B, ∃ m, B < m ∧ g m = true) ∧ ((∀ s, 0 < s → s ≤ N → LA N s = false) → ∀ m, b ^ N ≤ m → g m = false) := by
  have hb : 0 < b := by have := h.b2; omega
  refine ⟨fun ⟨s, s0, s1, e⟩ B => ?_, fun hs m hm => ?_⟩
  · obtain ⟨p, hp, rfl⟩ := h.reach s s0 s1
    obtain ⟨r, hr, e2⟩ := (h.lasts l N p hp).mp e
    obtain ⟨m', h1, _, h3⟩ := h.unbounded (m := p * b ^ N + r) (Nat.le_trans (Nat.le_mul_of_pos_left _ hp) (Nat.le_add_right _ _)) e2 B
    exact ⟨m', h1, h3⟩
  · cases c : g m with
    | false => rfl
    | true =>
      have hp := div_pow_pos hb hm
      have hq := h.pos _ hp
      have := (h.lasts l N _ hp).mpr ⟨m % b ^ N, Nat.mod_lt _ (Nat.pow_pos hb), by rw [Nat.mul_comm, Nat.div_add_mod]; exact c⟩
      rw [hs _ hq.1 hq.2] at this
      cases this
end
end Cn

namespace B
open PySem L2 MK Hop
/-- in how many ways so many figures lead from each state into the kind -/
def wys (R : List (List Nat)) (M : List (Option Bool)) : Nat → List Nat
  | 0 => M.map bitOf
  | k + 1 => R.map fun row => (row.map fun s => (wys R M k).getD s 0).sum
theorem wys_len {R : List (List Nat)} {M : List (Option Bool)} (h : M.length = R.length) : ∀ k, (wys R M k).length = R.length
  | 0 => by simp [wys, h]
  | k + 1 => by simp [wys]
theorem decide_int_le (a b : Nat) : decide ((a : Int) ≤ (b : Int)) = decide (a ≤ b) := by
  by_cases c : a ≤ b
  · rw [decide_eq_true c, decide_eq_true (by omega)]
  · rw [decide_eq_false c, decide_eq_false (by omega)]
theorem atI_neg1 {xs : List V} {x : V} (h0 : 0 < xs.length) (h : xs[xs.length - 1]? = some x) : atI xs (-1) = some x := by
  unfold atI ixN
  rw [if_neg (by decide), if_pos (by omega)]
  show xs[((-1 : Int) + (xs.length : Int)).toNat]? = some x
  rw [show ((-1 : Int) + (xs.length : Int)).toNat = xs.length - 1 by omega]
  exact h
theorem sum_nv (xs : List Nat) : ((xs.map fun n : Nat => (n : Int)).sum : Int) = ((xs.sum : Nat) : Int) := by
  induction xs with
  | nil => rfl
  | cons x xs ih => rw [List.map_cons, List.sum_cons, List.sum_cons, ih]; omega
theorem nv_ints (xs : List Nat) : nv xs = (xs.map fun n : Nat => (n : Int)).map V.int := by unfold nv; rw [List.map_map]; rfl
def WaysAt (H : Hp) (R : List (List Nat)) (M : List (Option Bool)) (wy : Addr) (ps : List Addr) : Prop := H wy = some (.lst (ps.map V.ref)) ∧ 0 < ps.length ∧ ∀ (i : Nat) (p : Addr), ps[i]? = some p → H p = some (.lst (nv (wys R M i))) ∧ p ≠ wy
def spWays (K : PySem.W.Frag) (C : Addr) : Sp := fun vs H Q _ => ∃ (x st mk wy : Addr) (R : List (List Nat)) (M : List (Option Bool)) (L b : Nat) (ps : List Addr), vs = [.ref x, .int (L : Nat)] ∧ KindO C H x st mk wy ∧ RowsT K H st R ∧ Mach R R.length b ∧ M.length = R.length ∧ 0 < R.length ∧ R.length ≤ 1000 ∧ b ≤ 100 ∧ L ≤ 100000 ∧ WaysAt H R M wy ps ∧
  ∀ (p : Addr) (H' : Hp) (ps' : List Addr), Kp1 wy H H' → WaysAt H' R M wy ps' → (∀ q, q ∈ ps' → q ∈ ps ∨ H q = none) → p ∈ ps' → H' p = some (.lst (nv (wys R M L))) → Q (.ref p) H'
section
variable {P : Program} {w : World} {K : PySem.W.Frag} {mg : Str → Option Value} {base : Heap}
end
end B

namespace B
open PySem L2 MK Hop A
/-- what may change is no tuple and no kind -/
structure KG (G : Cfg) (C : Addr) : Prop where
  tup : ∀ o, G.mu o → ∀ xs, o ≠ .tup xs
  frz : ∀ o, G.mu o → ∀ ob u, o ≠ .frz ob (.tup u)
  ins : ∀ o, G.mu o → ∀ dx st mk wy, o ≠ .ins C dx [("steps", st), ("marks", mk), ("_ways", wy)]
section
variable {G : Cfg} {C : Addr}
theorem sqT_leA (kg : KG G C) {H H' : Hp} {T T' : Mt G} (g : Good H T) (l : Le H T H' T') {a : Addr} {xs : List V} (h : SqT G.K H a xs) : SqT G.K H' a xs := by
  rcases h with h | h
  · left
    have t : T a = none := by
      cases e : T a with
      | none => rfl
      | some m =>
        obtain ⟨o, h1, h2⟩ := g.ex a (by rw [e]; intro z; cases z)
        rcases h with h | ⟨ob, h⟩
        · rw [h1] at h; cases h; exact absurd rfl (kg.tup _ h2 _)
        · rw [h1] at h; cases h; exact absurd rfl (kg.frz _ h2 _ _)
    exact (Rd.le l h t).1
  · exact .inr h
theorem KindHas.leA (kg : KG G C) {H H' : Hp} {T T' : Mt G} (g : Good H T) (l : Le H T H' T') {x : Addr} {b : Nat} {f : Nat → Bool} (h : KindHas G.K C H x b f) : KindHas G.K C H' x b f := by
  obtain ⟨R, M, ⟨st, mk, wy, ⟨dx, hxo⟩, hR, hK⟩, km⟩ := h
  have t : T x = none := by
    cases e : T x with
    | none => rfl
    | some m =>
      obtain ⟨o, h1, h2⟩ := g.ex x (by rw [e]; intro z; cases z)
      rw [h1] at hxo; cases hxo; exact absurd rfl (kg.ins _ h2 _ _ _ _)
  refine ⟨R, M, ⟨st, mk, wy, ⟨dx, l.kp _ _ hxo t⟩, ?_, sqT_leA kg g l hK⟩, km⟩
  obtain ⟨rs, h1, h2, h3⟩ := hR.ex
  exact ⟨rs, sqT_leA kg g l h1, h2, fun i r e => sqT_leA kg g l (h3 i r e)⟩
/-- the list of the ways that a kind keeps -/
def WaysO {τ : Type} (R : List (List Nat)) (M : List (Option Bool)) (H : Hp) (T : Addr → Option (Option τ)) (o : HO) : Prop := ∃ ps : List Addr, o = .lst (ps.map V.ref) ∧ 0 < ps.length ∧ ∀ (i : Nat) (p : Addr), ps[i]? = some p → H p = some (.lst (nv (wys R M i))) ∧ T p = none
class KW (G : Cfg) where
  cw : List (List Nat) → List (Option Bool) → G.τ
  iv : ∀ R M H T o, G.Iv (cw R M) H T o ↔ WaysO R M H T o
/-- a kind with its machine and what it keeps -/
def KindC (G : Cfg) [KW G] (C : Addr) (H : Hp) (T : Mt G) (x : Addr) (R : List (List Nat)) (M : List (Option Bool)) : Prop :=
  ∃ st mk wy, KindO C H x st mk wy ∧ RowsT G.K H st R ∧ SqT G.K H mk (M.map mV) ∧ T wy = some (some (KW.cw R M))
theorem KindC.at [KW G] {H : Hp} {T : Mt G} {x : Addr} {R : List (List Nat)} {M : List (Option Bool)} (h : KindC G C H T x R M) : KindAt G.K C H x R M := let ⟨st, mk, wy, h1, h2, h3, _⟩ := h; ⟨st, mk, wy, h1, h2, h3⟩
theorem KindC.leA [KW G] (kg : KG G C) {H H' : Hp} {T T' : Mt G} (g : Good H T) (l : Le H T H' T') {x : Addr} {R : List (List Nat)} {M : List (Option Bool)} (h : KindC G C H T x R M) : KindC G C H' T' x R M := by
  obtain ⟨st, mk, wy, ⟨dx, hxo⟩, hR, hK, hw⟩ := h
  have t : T x = none := by
    cases e : T x with
    | none => rfl
    | some m =>
      obtain ⟨o, h1, h2⟩ := g.ex x (by rw [e]; intro z; cases z)
      rw [h1] at hxo; cases hxo; exact absurd rfl (kg.ins _ h2 _ _ _ _)
  refine ⟨st, mk, wy, ⟨dx, l.kp _ _ hxo t⟩, ?_, sqT_leA kg g l hK, l.ca _ _ hw⟩
  obtain ⟨rs, h1, h2, h3⟩ := hR.ex
  exact ⟨rs, sqT_leA kg g l h1, h2, fun i r e => sqT_leA kg g l (h3 i r e)⟩
/-- a machine as a kind's data -/
def KMd (G : Cfg) [KW G] (C : Addr) (R : List (List Nat)) (M : List (Option Bool)) : D G := .ob fun H T v => Good H T ∧ ∃ x, v = .ref x ∧ KindC G C H T x R M
theorem KMd.get [KW G] (kg : KG G C) {H : Hp} {T : Mt G} {R : List (List Nat)} {M : List (Option Bool)} {v : V} (h : VD H T (KMd G C R M) v) : ∃ x, v = .ref x ∧ KindC G C H T x R M := by
  obtain ⟨H0, T0, l, g, x, e, k⟩ := h
  exact ⟨x, e, k.leA kg g l⟩
theorem KMd.mk [KW G] {H : Hp} {T : Mt G} (g : Good H T) {R : List (List Nat)} {M : List (Option Bool)} {x : Addr} (h : KindC G C H T x R M) : VD H T (KMd G C R M) (.ref x) := ⟨H, T, Le.refl _ _, g, x, rfl, h⟩
/-- a kind as data, by what it has -/
def KD (G : Cfg) [KW G] (C : Addr) (b : Nat) (f : Nat → Bool) : D G := .ob fun H T v => Good H T ∧ ∃ x R M, v = .ref x ∧ KMach b R M f ∧ KindC G C H T x R M
theorem KD.getC [KW G] (kg : KG G C) {H : Hp} {T : Mt G} {b : Nat} {f : Nat → Bool} {v : V} (h : VD H T (KD G C b f) v) : ∃ x R M, v = .ref x ∧ KMach b R M f ∧ KindC G C H T x R M := by
  obtain ⟨H0, T0, l, g, x, R, M, e, km, k⟩ := h
  exact ⟨x, R, M, e, km, k.leA kg g l⟩
theorem KD.get [KW G] (kg : KG G C) {H : Hp} {T : Mt G} {b : Nat} {f : Nat → Bool} {v : V} (h : VD H T (KD G C b f) v) : ∃ x, v = .ref x ∧ KindHas G.K C H x b f := by
  obtain ⟨x, R, M, e, km, k⟩ := KD.getC kg h
  exact ⟨x, e, R, M, k.at, km⟩
theorem KD.mach [KW G] (kg : KG G C) {H : Hp} {T : Mt G} (g : Good H T) {b : Nat} {f : Nat → Bool} {v : V} (h : VD H T (KD G C b f) v) : ∃ R M, KMach b R M f ∧ VD H T (KMd G C R M) v := by
  obtain ⟨x, R, M, rfl, km, k⟩ := KD.getC kg h
  exact ⟨R, M, km, KMd.mk g k⟩
theorem KD.mk [KW G] {H : Hp} {T : Mt G} (g : Good H T) {b : Nat} {f : Nat → Bool} {x : Addr} {R : List (List Nat)} {M : List (Option Bool)} (km : KMach b R M f) (h : KindC G C H T x R M) : VD H T (KD G C b f) (.ref x) := ⟨H, T, Le.refl _ _, g, x, R, M, rfl, km, h⟩
/-- a new kind is put down with what it keeps -/
theorem KD.new [KW G] {H H' : Hp} {T : Mt G} (g : Good H T) (s : Same H H') {x : Addr} {b : Nat} {f : Nat → Bool} (h : KindNewHas G.K C H H' x b f) :
    ∃ T' : Mt G, Le H T H' T' ∧ Good H' T' ∧ (∀ a, T a = some none → T' a = some none ∧ H' a = H a) ∧ VD H' T' (KD G C b f) (.ref x) := by
  obtain ⟨R, M, ⟨st, mk, wy, ko, hR, hK, nwy, w0, nw0, ewy, ew0⟩, km⟩ := h
  have tw : T wy = none := g.tn nwy
  have tw0 : T w0 = none := g.tn nw0
  have ne : w0 ≠ wy := fun e => by
    subst e
    rw [ewy] at ew0
    have e1 := HO.lst.inj (Option.some.inj ew0)
    cases hM : M with
    | nil => rw [hM] at e1; cases e1
    | cons m ms => rw [hM] at e1; cases e1
  have l : Le H T H' (mset T wy (some (some (KW.cw R M)))) := ⟨fun b o e _ => s b o e, fun a e => by
    by_cases c : a = wy
    · exact .inr (c ▸ nwy)
    · rw [mset_ne c] at e; exact .inl e, fun a c e => by
    have z : a ≠ wy := fun z => by subst z; rw [tw] at e; cases e
    rw [mset_ne z]; exact e⟩
  have fr : ∀ a, T a = some none → mset T wy (some (some (KW.cw (G := G) R M))) a = some none ∧ H' a = H a := fun a t => by
    have z : a ≠ wy := fun z => by subst z; rw [tw] at t; cases t
    obtain ⟨o, h1, _⟩ := g.ex a (by rw [t]; intro z; cases z)
    exact ⟨by rw [mset_ne z]; exact t, by rw [h1, s _ _ h1]⟩
  have g' : Good H' (mset T wy (some (some (KW.cw (G := G) R M)))) := by
    refine ⟨fun a e => ?_, fun a c e => ?_⟩
    · by_cases z : a = wy
      · subst z; exact ⟨_, ewy, G.ml _⟩
      · rw [mset_ne z] at e
        obtain ⟨o, h1, h2⟩ := g.ex a e
        exact ⟨o, s _ _ h1, h2⟩
    · by_cases z : a = wy
      · subst z
        rw [mset_same] at e
        cases e
        refine ⟨_, ewy, H', _, Le.refl _ _, (KW.iv _ _ _ _ _).mpr ⟨[w0], rfl, by simp, fun i p e => ?_⟩⟩
        cases i with
        | zero => cases e; exact ⟨ew0, by rw [mset_ne ne]; exact tw0⟩
        | succ i => simp at e
      · rw [mset_ne z] at e
        obtain ⟨o, h1, H0, T0, l0, q⟩ := g.iv a c e
        exact ⟨o, s _ _ h1, H0, T0, l0.trans l, q⟩
  exact ⟨_, l, g', fr, KD.mk g' km ⟨st, mk, wy, ko, hR, hK, mset_same⟩⟩
theorem _root_.A.Good.frame {H H' : Hp} {T : Mt G} (g : Good H T) (s : Same H H') : ∀ a, T a = some none → T a = some none ∧ H' a = H a := fun a t => by
  obtain ⟨o, h, _⟩ := g.ex a (by rw [t]; intro z; cases z)
  exact ⟨t, by rw [h, s _ _ h]⟩
/-- from a promise of data to a kind that is got -/
theorem gets_cP [KW G] {H : Hp} {T : Mt G} {P : D G → Prop} {Q : VK} {b : Nat} {f : Nat → Bool} (g : Good H T) (p : P (KD G C b f)) (k : ∀ d v H' T', P d → Le H T H' T' → Good H' T' → (∀ a, T a = some none → T' a = some none ∧ H' a = H a) → VD H' T' d v → Q v H') : Gets G.K C H Q b f :=
  fun x H' _ s kh => let ⟨T', l, g', fr, vd⟩ := KD.new g s kh; k _ _ H' T' p l g' fr vd
theorem same_cP {H H' : Hp} {T : Mt G} {P : D G → Prop} {Q : VK} (g : Good H T) (k : ∀ d v H' T', P d → Le H T H' T' → Good H' T' → (∀ a, T a = some none → T' a = some none ∧ H' a = H a) → VD H' T' d v → Q v H') (s : Same H H') {d : D G} {v : V} (p : P d) (vd : VD H' T d v) : Q v H' :=
  k d v H' T p (le_same s) (g.same s) (g.frame s) vd
/-! ### what the functions promise, of data -/
abbrev PF (G : Cfg) := List (D G) → (D G → Prop) → Prop
def nI (n : Nat) : D G := .int (n : Int)
theorem vI {H : Hp} {T : Mt G} {n : Nat} : VD (G := G) H T (nI n) (.int (n : Int)) := rfl
theorem ints1 {H : Hp} {T : Mt G} {i : Int} {vs : List V} (h : VDs (G := G) H T [.int i] vs) : vs = [.int i] := by
  obtain ⟨v, r, rfl, h1, rfl⟩ := h
  rw [show v = .int i from h1]
theorem ints2 {H : Hp} {T : Mt G} {i j : Int} {vs : List V} (h : VDs (G := G) H T [.int i, .int j] vs) : vs = [.int i, .int j] := by
  obtain ⟨v, r, rfl, h1, h2⟩ := h
  rw [show v = .int i from h1, ints1 h2]
theorem ints3 {H : Hp} {T : Mt G} {i j k : Int} {vs : List V} (h : VDs (G := G) H T [.int i, .int j, .int k] vs) : vs = [.int i, .int j, .int k] := by
  obtain ⟨v, r, rfl, h1, h2⟩ := h
  rw [show v = .int i from h1, ints2 h2]
/-- the tests as data -/
def Tst.ds : Tst → List (D G)
  | .rest m q => [.str "rest", nI m, nI q]
  | .mul m => [.str "multiple", nI m]
  | .bears f => [.str "bears", nI f]
  | .ends f => [.str "ends", nI f]
  | .sum m q => [.str "sum", nI m, nI q]
  | .every => [.str "every"]
def TT.dd : TT → D G
  | .one t => .tup t.ds
  | .not a => .tup [.str "not", a.dd]
  | .and a b => .tup [.str "and", a.dd, b.dd]
  | .or a b => .tup [.str "or", a.dd, b.dd]
  | .xor a b => .tup [.str "xor", a.dd, b.dd]
theorem Tst.vs_of (t : Tst) : A.toVs (G := G) t.ds = some t.vs := by cases t <;> rfl
theorem TT.at {H : Hp} {T : Mt G} : ∀ {t : TT} {v : V}, VD (G := G) H T t.dd v → ∃ a, v = .ref a ∧ TreeAt G.K H a t
  | .one t, v, h => by
    obtain ⟨a, xs, e, r, k⟩ := h
    obtain ⟨h1, _⟩ := k.toVs t.vs_of
    subst h1
    exact ⟨a, e, r.imp (fun r => r.1) id⟩
  | .not x, v, h => by
    obtain ⟨a, xs, e, r, u, ur, rfl, h1, u2, ur2, rfl, h2, rfl⟩ := h
    cases (show u = .str "not" from h1)
    obtain ⟨c, rfl, h3⟩ := TT.at h2
    exact ⟨a, e, c, r.imp (fun r => r.1) id, h3⟩
  | .and x y, v, h => by
    obtain ⟨a, xs, e, r, u, ur, rfl, h1, u2, ur2, rfl, h2, u3, ur3, rfl, h3, rfl⟩ := h
    cases (show u = .str "and" from h1)
    obtain ⟨c, rfl, h4⟩ := TT.at h2
    obtain ⟨c2, rfl, h5⟩ := TT.at h3
    exact ⟨a, e, c, c2, r.imp (fun r => r.1) id, h4, h5⟩
  | .or x y, v, h => by
    obtain ⟨a, xs, e, r, u, ur, rfl, h1, u2, ur2, rfl, h2, u3, ur3, rfl, h3, rfl⟩ := h
    cases (show u = .str "or" from h1)
    obtain ⟨c, rfl, h4⟩ := TT.at h2
    obtain ⟨c2, rfl, h5⟩ := TT.at h3
    exact ⟨a, e, c, c2, r.imp (fun r => r.1) id, h4, h5⟩
  | .xor x y, v, h => by
    obtain ⟨a, xs, e, r, u, ur, rfl, h1, u2, ur2, rfl, h2, u3, ur3, rfl, h3, rfl⟩ := h
    cases (show u = .str "xor" from h1)
    obtain ⟨c, rfl, h4⟩ := TT.at h2
    obtain ⟨c2, rfl, h5⟩ := TT.at h3
    exact ⟨a, e, c, c2, r.imp (fun r => r.1) id, h4, h5⟩
def pKind (G : Cfg) [KW G] (C : Addr) (d : Nat) : PF G := fun ds P => ∃ (r : Nat) (t : TT) (cls : Nat → Nat), ds = [nI r, t.dd] ∧ t.depth ≤ d ∧ t.ok r ∧ NPool r cls ∧ t.fit r cls ∧ 2 ≤ r ∧ r ≤ 16 ∧ P (KD G C r (tt r t))
theorem kind_imp [KW G] {d : Nat} : ∀ vs H Q E, cP G (pKind G C d) vs H Q E → spLk G.K C d vs H Q E := by
  rintro vs H Q E ⟨ds, T, P, g, vd, ⟨r, t, cls, rfl, h1, h2, h3, h4, h7, h8, p⟩, k⟩
  obtain ⟨v1, r1, rfl, e1, v2, r2, rfl, e2, rfl⟩ := vd
  cases (show v1 = .int (r : Int) from e1)
  obtain ⟨a, rfl, ta⟩ := TT.at e2
  exact ⟨r, a, t, rfl, ta, h1, h2, nar_of h3 t h4, h7, h8, gets_cP g p k⟩
/-- .. for tests that are narrow joint by joint -/
def pKindN (G : Cfg) [KW G] (C : Addr) (d : Nat) : PF G := fun ds P => ∃ (r : Nat) (t : TT), ds = [nI r, t.dd] ∧ t.depth ≤ d ∧ t.ok r ∧ t.nar r ∧ 2 ≤ r ∧ r ≤ 16 ∧ P (KD G C r (tt r t))
theorem kindN_imp [KW G] {d : Nat} : ∀ vs H Q E, cP G (pKindN G C d) vs H Q E → spLk G.K C d vs H Q E := by
  rintro vs H Q E ⟨ds, T, P, g, vd, ⟨r, t, rfl, h1, h2, h3, h7, h8, p⟩, k⟩
  obtain ⟨v1, r1, rfl, e1, v2, r2, rfl, e2, rfl⟩ := vd
  cases (show v1 = .int (r : Int) from e1)
  obtain ⟨a, rfl, ta⟩ := TT.at e2
  exact ⟨r, a, t, rfl, ta, h1, h2, h3, h7, h8, gets_cP g p k⟩
end
/-! ### draws -/
/-- what caches keep -/
inductive CT where
  | ways (R : List (List Nat)) (M : List (Option Bool))
/-- what may change: lists, instances (not those of kinds, courses, laps), dicts -/
def muB : HO → Prop
  | .lst _ => True
  | .ins _ _ fs => fs.map (·.1) ≠ (["steps", "marks", "_ways"] : List Str)
  | .ext _ => True
  | .frz _ (.ext _) => True
  | _ => False
/-- the bag is a list of three -/
abbrev bagG (K : PySem.W.Frag) : Cfg where
  K := K
  τ := CT
  mu := muB
  Iv := fun c H T o => match c with
    | .ways R M => WaysO R M H T o
  ml := fun xs => True.intro
  κ := Nat
  Cl := BagO
instance {K : PySem.W.Frag} : KW (bagG K) := ⟨CT.ways, fun _ _ _ _ _ => Iff.rfl⟩
theorem bagG_kg {K : PySem.W.Frag} {C : Addr} : KG (bagG K) C := ⟨fun o h xs z => by subst z; exact h, fun o h ob u z => by subst z; exact h, fun o h dx st mk wy z => by subst z; exact h rfl⟩
section
variable {K : PySem.W.Frag} {C : Addr}
abbrev GB (K : PySem.W.Frag) := bagG K
abbrev CB (K : PySem.W.Frag) := Nat → List (D (GB K)) → (D (GB K) → Nat → Prop) → Prop
def pDraw (K : PySem.W.Frag) : Nat → List (D (GB K)) → (D (GB K) → Nat → Prop) → Prop := fun n ds P => ∃ m : Int, ds = [.int m] ∧ 0 < m ∧ m < 10 ^ 50 ∧ n ≤ 1000000 ∧ ∀ r : Nat, (r : Int) < m → P (.int (r : Int)) (n + 1)
theorem cB_put {H : Hp} {T : Mt (GB K)} {p : Addr} {P : D (GB K) → Nat → Prop} {Q : VK} {n' : Nat} {o : HO} {d : D (GB K)} {v : V} (g : Good H T) (t : T p = some none) (ho : BagO n' o)
    (k : ∀ d c' v H' T', P d c' → Le H T H' T' → Good H' T' → (∀ a, a ≠ p → T a = some none → T' a = some none ∧ H' a = H a) → T' p = some none → (∃ o, H' p = some o ∧ (GB K).Cl c' o) → VD H' T' d v → Q v H') (pp : P d n') (vd : VD (upd H p o) T d v) : Q v (upd H p o) := by
  have mo : (GB K).mu o := by obtain ⟨a, b, c, e, _⟩ := ho; subst e; exact True.intro
  exact k d n' v _ T pp (le_put (by rw [t]; intro z; cases z)) (g.put t mo) (fun a na ta => ⟨ta, upd_ne na⟩) t ⟨o, upd_same, ho⟩ vd
theorem draw_imp : ∀ vs H Q E, cB (GB K) (pDraw K) vs H Q E → spDraw vs H Q E := by
  rintro vs H Q E ⟨p, ws, n, ds, T, P, rfl, g, t, ho, vd, ⟨m, rfl, h1, h2, h3, pp⟩, k⟩
  rw [ints1 vd]
  refine ⟨p, m, n, rfl, h1, Nat.lt_of_lt_of_le (show m.natAbs < 2 ^ 200 by omega) (Nat.pow_le_pow_right (by decide) (by decide)), ho, h3, fun r o r0 r1 hb => ?_⟩
  obtain ⟨r', rfl⟩ := Int.eq_ofNat_of_zero_le r0
  exact cB_put (d := .int (r' : Int)) g t hb k (pp r' r1) rfl
/-- from a promise that lets all but the bag be -/
theorem cB_kp {H H' : Hp} {T : Mt (GB K)} {p : Addr} {P : D (GB K) → Nat → Prop} {Q : VK} {n' : Nat} {d : D (GB K)} {v : V} (g : Good H T) (t : T p = some none) (kp : Kp1 p H H') (hb : Bag H' p n')
    (k : ∀ d c' v H' T', P d c' → Le H T H' T' → Good H' T' → (∀ a, a ≠ p → T a = some none → T' a = some none ∧ H' a = H a) → T' p = some none → (∃ o, H' p = some o ∧ (GB K).Cl c' o) → VD H' T' d v → Q v H') (pp : P d n') (vd : VD H' T d v) : Q v H' := by
  have l : Le H T H' T := ⟨fun b o e tb => kp b o e (fun z => by subst z; rw [t] at tb; cases tb), fun a e => .inl e, fun _ _ e => e⟩
  obtain ⟨o, h1, h2⟩ := hb
  refine k d n' v H' T pp l ⟨fun a e => ?_, fun a c e => ?_⟩ (fun a na ta => ⟨ta, ?_⟩) t ⟨o, h1, h2⟩ vd
  · by_cases z : a = p
    · subst z
      obtain ⟨x, y, w, e, _⟩ := h2
      exact ⟨o, h1, by subst e; exact True.intro⟩
    · obtain ⟨u, h3, h4⟩ := g.ex a e
      exact ⟨u, kp _ _ h3 z, h4⟩
  · obtain ⟨u, h3, H0, T0, l0, q⟩ := g.iv a c e
    exact ⟨u, kp _ _ h3 (fun z => by subst z; rw [t] at e; cases e), H0, T0, l0.trans l, q⟩
  · obtain ⟨u, h3, h4⟩ := g.ex a (by rw [ta]; intro z; cases z)
    rw [h3, kp _ _ h3 na]
end
end B

namespace L2
open PySem PySem.Spec PyProof.Rows
/-! ### o.m(k = v, ..): keywords alone -/
section
variable {X : Cx} {CX : CXT} {k : Nat} {f C : Addr} {fd : FuncData} {ps ks : List Str} {sp : Sp} {E : XK} {m : Str} {pos apos : Pos} {o : Expr} {kws : List Keyword} {ta : TE} {tk : TA} {g : List Value → List Value → List Value} {gV : List V → List V → List V}
def tMethK0 (C : Addr) (m : Str) (n : Nat) (sp : Sp) (gV : List V → List V → List V) (E : XK) (ta : TE) (tk : TA) : TE := fun σ H Q => ta σ H fun x H1 => ∃ a dx fs, x = .ref a ∧ H1 a = some (.ins C dx fs) ∧ fs.lookup m = none ∧
  tk σ H1 fun zs H2 => zs.length = n ∧ sp (gV [x] zs) H2 Q E
theorem pe_methK0 {pl : Sem Bool} (he : PE X o ta) (c : Cls X.K C) (hm : Meth X.K C m f) (F : FnOk X.prog X.w X.K X.mg X.base CX k f fd ps sp) (hr : Room k X.A) (hb : KBn X.K fd ps 1 ks g gV) (hx : Passes CX X E)
    (hkw : PK X kws tk) (hall : (backToKw pos (keywordEach kws X.env)).all (·.1.isSome) = true := by rfl) (hks : (backToKw pos (keywordEach kws X.env)).filterMap (·.1) = ks := by rfl)
    (hpl : ((backTo pos (starEach [] X.env)).any (·.1) || (backToKw pos (keywordEach kws X.env)).any (·.1.isNone)) = false := by rfl)
    (ht : eval (.Call (.Attribute o m apos) [] kws pos) X.env = (do
      let ov ← eval o X.env
      standAt apos.atName
      let (f, first) ← holding [ov] (getMethod ov m pl)
      callWith pos f first (backTo pos (starEach [] X.env)) (backToKw pos (keywordEach kws X.env))) := by rfl) :
    PE X (.Call (.Attribute o m apos) [] kws pos) (tMethK0 C m ks.length sp gV E ta tk) := by
  refine ⟨fun pins s σ H Q I h => ?_⟩
  refine PySem.W.methodCall_KW (pl := pl) (thn (he.run pins s σ H _ I h) fun u s1 ⟨x, H1, I1, rx, a, dx, fs, ex, ea, l, q⟩ => ?_) ht
  subst ex
  obtain rfl : u = Value.ref a := rx
  refine getmeth_ok I1 ea c hm l ?_
  refine PySem.W.callWith_KW0 (first := [.ref a]) (h₀ := X.base) I.ok.mod.kin hm.kp hall ?_ hpl
  refine thn (hkw.run pos pins s1 σ H1 _ I1 q) fun ws s2 ⟨zs, H2, I2, rz, l2, q2⟩ => ⟨I2.kIn, ?_⟩
  rw [hks]
  exact run_fnN (us := [.ref a]) (vs := [.ref a]) F hr hb hx I2 (.cons rfl .nil) rz rfl l2 q2
end
/-- one positional, the keywords in the parameters' order -/
theorem Fun.kbn1 {K : PySem.W.Frag} {x qual : Str} {st : Stmt} {f : Addr} {fd : FuncData} {ps ks : List Str} (F : Fun K x qual st f fd)
    (h : ∀ (kV doc pm : Value) (an : Option Addr) (cdv ct : Value) (u : Value) (ws : List Value), ws.length = ks.length → bindArgs (PySem.W.fnOf x qual (defArgs st) (defBody st) (defScope st) .none kV doc pm an cdv ct) ⟨[u], ks.zip ws⟩ = pure (ps.zip (u :: ws))) : KBn K fd ps 1 ks (fun us ws => us ++ ws) (fun vs zs => vs ++ zs) := by
  obtain ⟨oc, od, kV, doc, pm, an, cdv, ct, osl, rfl, lk, hcd⟩ := F.ex
  refine ⟨fun s us ws X l1 l2 => ?_, fun r1 r2 => r1.append r2⟩
  match us, l1 with
  | [u], _ => exact .of_eq (h kV doc pm an cdv ct u ws l2)
end L2

/-! defs below which no text of a thing is being made: repr of data -/
namespace L2
open PySem PySem.Spec PyProof.Rows
/-- what FnOk says, at places where no guard is held -/
structure FnG (P : Program) (w : World) (K : PySem.W.Frag) (mg : Str → Option Value) (base : Heap) (CX : CXT) (k : Nat) (f : Addr) (fd : FuncData) (ps : List Str) (sp : Sp) : Prop where
  many : ∀ vs H Q E, sp vs H Q E → vs.length = ps.length
  goes : ∀ (A : Around) (fro : List Env) (s : Shared) (H : Hp) (ar : Args) (us : List Value) (vs : List V) (Q : VK) (E : XK), A.guards = some [] → Room k A → Env0 P w K mg base A fro s H → BindsTo s fd ar (ps.zip us) → Vals vs us → sp vs H Q E →
    codeAny (model P w) A (.call (.ref f) ar) (CR CX fro P w H s Q E) s
theorem FnOk.g {P : Program} {w : World} {K : PySem.W.Frag} {mg : Str → Option Value} {base : Heap} {CX : CXT} {k : Nat} {f : Addr} {fd : FuncData} {ps : List Str} {sp : Sp} (F : FnOk P w K mg base CX k f fd ps sp) : FnG P w K mg base CX k f fd ps sp :=
  ⟨F.len, fun A fro s H ar us vs Q E _ r => F.run A fro s H ar us vs Q E r⟩
theorem FnG.imp {P : Program} {w : World} {K : PySem.W.Frag} {mg : Str → Option Value} {base : Heap} {CX : CXT} {k : Nat} {f : Addr} {fd : FuncData} {ps : List Str} {sp sq : Sp} (F : FnG P w K mg base CX k f fd ps sp) (i : ∀ vs H Q E, sq vs H Q E → sp vs H Q E) : FnG P w K mg base CX k f fd ps sq :=
  ⟨fun vs H Q E q => F.many vs H Q E (i _ _ _ _ q), fun A fro s H ar us vs Q E g r e b v q => F.goes A fro s H ar us vs Q E g r e b v (i _ _ _ _ q)⟩
section
variable {P : Program} {w : World} {K : PySem.W.Frag} {mg : Str → Option Value} {base : Heap}
/-- a def of the text by its body, where no guard is held -/
theorem Fun.okG {x qual : Str} {st : Stmt} {f : Addr} {fd : FuncData} {N ps : List Str} {k : Nat} {sp : Sp} (F : Fun K x qual st f fd) (S : FnScope N ps (defScope st)) (many : ∀ vs H Q E, sp vs H Q E → vs.length = ps.length)
    (bd : ∀ (cv : Value) (A : Around) (fro : List Env) (s : Shared) (H : Hp) (vs : List V) (Q : VK) (E : XK), A.guards = some [] → Room k (A.deeper (envOfC qual (defScope st) s.heap.objs.size f cv)) → sp vs H Q E →
      ∃ t, PSs (cxOf CX0 P w K mg base N qual (defScope st) f cv A fro s H E).nox (defBody st) t ∧ t { nx := fun _ H' => Q .non H', rt := Q } (start N vs) H) : FnG P w K mg base CX0 (k + 1) f fd ps sp := by
  obtain ⟨oc, od, kV, doc, pm, an, cv, ct, osl, rfl, lk, hcd⟩ := F.ex
  refine ⟨many, ?_⟩
  intro A fro s H ar us vs Q E hg hr e0 hb rv hsp
  have cnt := many _ _ _ _ hsp
  have hK : K.In s.heap := e0.mod.kin.keeps (fun b o z => (e0.bs b o z).1)
  have nl : s.heap.NoLimit := e0.mod.nolimit.keeps (fun b o z => (e0.bs b o z).1)
  have kinds : ∀ y ∈ ps.zip us, (defScope st).names.lookup y.1 = some .local ∨ ((defScope st).names.lookup y.1 = some .cell ∧ ((cellsFrom (s.heap.objs.size + 1) (defScope st).names []).lookup y.1).isSome = true) := by
    rintro ⟨n, v⟩ hy
    have := S.par n (List.of_mem_zip hy).1
    exact this.imp id fun q => ⟨q, PySem.W.cellsFrom_some _ _ _ (.inl q)⟩
  refine codeAny_call_function hr.depth (hK _ _ lk) rfl S.co S.gen rfl (PySem.W.codeRec_of hK hcd) (hb _ _ _ _ (wpAny_newFunctionEnv_cells S.kind kinds fun env he s1 x => ?_))
  cases he
  refine ⟨nl.keeps x.toInCall.keep, codeAny_func ?_⟩
  obtain ⟨t, ht, hq⟩ := bd cv A fro s H vs Q E hg (hr.deeper _) hsp
  have ht := ht.nox
  have J0 : Inv (cxOf CX0 P w K mg base N qual (defScope st) f cv A fro s H E) [] (start N vs) H s1 := inv_start S hr.hd e0 cnt rv x
  refine wpAny_mono (ht.run [] s1 (start N vs) H _ J0 hq) (fun fl s2 hs => ?_) (fun _ _ z => z)
  have done : ∀ {σ' : St} {H' : Hp} {v : V} {u : Value}, Inv (cxOf CX0 P w K mg base N qual (defScope st) f cv A fro s H E) [] σ' H' s2 → RelV v u → Q v H' → CE fro P w H s Q u s2 := by
    intro σ' H' v u J r q
    exact ⟨v, H', J.os, J.bare, J.base, J.hok, r, q⟩
  match fl, hs with
  | .ret u, ⟨v, σ', H', J, r, q⟩ => exact done J r q
  | .next, ⟨σ', H', J, q⟩ => exact done (v := .non) (u := Value.none) J rfl q
  | .brk, ⟨_, _, _, q⟩ => exact q.elim
  | .cont, ⟨_, _, _, q⟩ => exact q.elim
end
section
variable {X : Cx} {CX : CXT} {k n : Nat} {f : Addr} {fd : FuncData} {ps : List Str} {sp : Sp} {E : XK} {x : Str} {p pos : Pos} {e : Expr} {es : List Expr} {t : TA}
theorem run_g {pins : List (Addr × Obj)} {σ : L2.St} {H : Hp} {s : Shared} {Q : VK} {us : List Value} {vs : List V} (F : FnG X.prog X.w X.K X.mg X.base CX k f fd ps sp) (hg : X.A.guards = some []) (hr : Room k X.A) (hb : Binds X.K fd ps []) (hx : Passes CX X E)
    (J : Inv X pins σ H s) (rv : Vals vs us) (q : sp vs H Q E) : wpAny (model X.prog X.w) X.A (call (.ref f) us) (EP X pins σ Q) X.xe s := by
  have cnt : us.length = ps.length := rv.length.symm.trans (F.many _ _ _ _ q)
  have bt := hb s us J.kIn (by simpa using cnt)
  rw [List.append_nil] at bt
  refine wpAny_call (codeAny_mono (F.goes X.A X.stack s H ⟨us, []⟩ us vs Q E hg hr J.env0 bt rv q) ?_)
  intro r s2 z
  match r, z with
  | .error er, z => exact hx pins σ H s er s2 J z
  | .ok (.ret u), z => exact J.after z
  | .ok .next, z => exact z.elim
  | .ok .brk, z => exact z.elim
  | .ok .cont, z => exact z.elim
/-- f(e, ..) of such a def -/
theorem pe_callG (F : FnG X.prog X.w X.K X.mg X.base CX k f fd ps sp) (hg0 : X.A.guards = some []) (hr : Room k X.A) (hg : Gl X x) (hm : X.mg x = some (.ref f)) (hk : PySem.W.keepIn X.K (.ref f) = true) (hb : Binds X.K fd ps []) (hx : Passes CX X E) (ha : PA X (e :: es) t)
    (hst : starEach (e :: es) X.env = (false, eval e X.env) :: starEach es X.env := by rfl) (hpl : (backTo pos (starEach es X.env)).any (·.1) = false := by rfl) (hdb : (x == ("__debug__" : Str)) = false := by decide) :
    PE X (.Call (.Name x p) (e :: es) [] pos) (tCall sp [] E t) := by
  constructor
  intro pins s σ H Q J q
  apply wpAny_Call_Name_kw
  refine ld_glob J hg hm ?_ hdb
  refine PySem.W.callWith_K (h₀ := X.base) J.ok.mod.kin hk ?_ hst hpl
  refine thn (ha.run pos pins s σ H _ J q) ?_
  rintro us s2 ⟨vs, H2, J2, rv, q2⟩
  rw [List.append_nil] at q2
  exact ⟨J2.kIn, run_g F hg0 hr hb hx J2 rv q2⟩
/-- repr of data that holds lists or tuples -/
def rReprD (K : PySem.W.Frag) : List V → Hp → VK → Prop := fun xs H Q => ∃ a d, xs = [.ref a] ∧ Dp K H (.ref a) d ∧ d.showable = true ∧ d.hasDict = false ∧ d.depth ≤ 60 ∧ d.shown.length ≤ sizeLine ∧ Q (.str d.shown) H
theorem call_reprD (hg : X.A.guards = some []) (hu : X.A.units + 64 < cLine) : CallR X (.builtin "repr") (rReprD X.K) := by
  intro pins s σ H xs us Q J rv q
  obtain ⟨a, d, rfl, hd, h1, h2, h3, h4, q⟩ := q
  obtain ⟨u, rfl, eu⟩ := vals1 rv
  cases eu
  obtain ⟨as, rd⟩ := Dp.reads J d _ _ hd rfl
  refine repr_of_reads' rd h1 (fun z => by rw [h2] at z; cases z) hg (by omega) (fun _ _ z => z) (fun h' u tk k => ?_) h4
  exact ⟨.str _, H, J.kept k, ⟨_, rfl⟩, q⟩
end
end L2

/-! more rules without addresses -/
namespace L2
open PySem PySem.Spec PyProof.Rows
/-- x is b, of None and truth values -/
theorem op_is_flat {X : Cx} : OpR X (compareOp .Is) (fun x y H Q => ∃ b, y = .bl b ∧ (x = .non ∨ ∃ a, x = .bl a) ∧ Q (.bl (decide (x = y))) H) := by
  intro pins s σ H x y v u Q I rx ry h
  obtain ⟨b, rfl, h, q⟩ := h
  cases (show u = Value.bool b from ry)
  rcases h with rfl | ⟨a, rfl⟩
  · cases (show v = Value.none from rx)
    exact wpAny_is_other rfl (fun z => nomatch z) ⟨.bl false, H, I, rfl, by simpa using q⟩
  · cases (show v = Value.bool a from rx)
    by_cases e : a = b
    · subst e
      exact wpAny_is_self rfl ⟨.bl true, H, I, rfl, by simpa using q⟩
    · exact wpAny_is_other rfl (fun z => e (Value.bool.inj z)) ⟨.bl false, H, I, rfl, by simpa [e] using q⟩
end L2
namespace A
open PySem L2
section
variable {G : Cfg}
/-! ### methods by keyword, in the parameters' order -/
def aMethK (C : Addr) (m : Str) (n : Nat) (g : List (D G) → (D G → Prop) → Prop) (a : AE G) (r : AA G) : AE G := fun S P => a S fun x cs => ∃ d, x = .d d ∧ InsIs C m d ∧ r ⟨S.ρ, cs⟩ fun xs cs => ∃ ds, undd xs = some ds ∧ ds.length = n ∧ g (d :: ds) fun e => P (.d e) cs
theorem r_methK {C : Addr} {m : Str} {n : Nat} {g : List (D G) → (D G → Prop) → Prop} {E : XK} {t : TE} {tr : TA} {a : AE G} {r : AA G} (ha : Re t a) (hr : Ra tr r) : Re (tMethK0 C m n (cP G g) (fun vs zs => vs ++ zs) E t tr) (aMethK C m n g a r) := fun Φ S σ Ω P Q R h k =>
  ha Φ S σ Ω _ _ R h fun x cs v Ω1 ⟨d, ex, ii, h1⟩ w1 R1 v1 => by
    subst ex
    obtain ⟨y, dx, fs, rfl, hy, hl⟩ := ii _ _ _ R1.good v1
    refine ⟨y, dx, fs, rfl, hy, hl, hr Φ ⟨S.ρ, cs⟩ σ Ω1 _ _ R1 h1 fun xs cs2 vs Ω2 ⟨ds, e, el, q⟩ w2 R2 v2 => ?_⟩
    have vd := v2.undd e
    refine ⟨by rw [vd.length]; exact el, d :: ds, Ω2.T, _, R2.good, ⟨_, _, rfl, VS.le (x := .d d) w2 v1, vd⟩, q, fun d' v' H' T' p l g' fr vd => ?_⟩
    obtain ⟨R3, w3⟩ := R2.after l g' fr
    exact k _ _ v' _ p ((w1.trans w2).trans w3) R3 vd
/-! ### x is True -/
def oIsF : AO G := fun x y cs P => ∃ b, y = .d (.bl b) ∧ ((x = .d .non ∧ P (.d (.bl false)) cs) ∨ ∃ a, x = .d (.bl a) ∧ P (.d (.bl (decide (a = b)))) cs)
theorem o_isF : Ro (G := G) (fun x y H Q => ∃ b, y = .bl b ∧ (x = .non ∨ ∃ a, x = .bl a) ∧ Q (.bl (decide (x = y))) H) oIsF := fun Φ S σ Ω x y v u P Q R hx hy ⟨b, e2, h⟩ k => by
  subst e2
  cases (show u = .bl b from hy)
  rcases h with ⟨e1, q⟩ | ⟨a, e1, q⟩
  · subst e1
    cases (show v = .non from hx)
    exact ⟨b, rfl, .inl rfl, k _ _ _ Ω q (Wle.refl _) R rfl⟩
  · subst e1
    cases (show v = .bl a from hx)
    refine ⟨b, rfl, .inr ⟨a, rfl⟩, ?_⟩
    have : decide (V.bl a = V.bl b) = decide (a = b) := by simp
    rw [this]
    exact k _ _ _ Ω q (Wle.refl _) R rfl
/-! ### tuples: parts, walks -/
theorem i_tup {t : TE} {a : AE G} (ha : Re t a) (kt : ∀ o, G.mu o → ∀ xs, o ≠ .tup xs) (kf : ∀ o, G.mu o → ∀ ob u, o ≠ .frz ob (.tup u)) : Ri (iTup G.K t) (iT a) := fun Φ S σ Ω P Q R h k =>
  ha Φ S σ Ω _ _ R h fun x cs v Ω1 ⟨ds, e, q⟩ w1 R1 v1 => by
    subst e
    obtain ⟨p, xs, rfl, r, vs⟩ := v1
    have sq : ∀ {Ω2 : Wd G}, Wle Ω1 Ω2 → SqT G.K Ω2.H p xs := fun w2 => SqT.leT w2.1 r
    refine ⟨p, rfl, ⟨xs, sq (Wle.refl _)⟩, k ds cs _ Ω1 q w1 R1 fun Ω2 w2 g2 => ⟨fun i hi => ⟨xs, sq w2, by rw [vs.length]; exact hi⟩, fun i d e => ?_⟩⟩
    obtain ⟨y, hy, vy⟩ := vs.get e
    exact ⟨⟨xs, y, sq w2, hy⟩, fun x H' ⟨e1, e2⟩ => by
      subst e1
      have := e2 xs (sq w2)
      rw [hy] at this
      cases this
      exact ⟨fun _ _ z => z, vy.le w2.1⟩⟩
theorem Rel.newTup {Φ : Fr G} {S : AS G} {σ : L2.St} {Ω : Wd G} (R : Rel Φ S σ Ω) {ds : List (D G)} {xs : List V} (vs : VDs Ω.H Ω.T ds xs) {p : Addr} (hp : Ω.H p = none) :
    Wle Ω ⟨upd Ω.H p (.tup xs), Ω.T, Ω.ads⟩ ∧ Rel Φ S σ ⟨upd Ω.H p (.tup xs), Ω.T, Ω.ads⟩ ∧ VD (upd Ω.H p (.tup xs)) Ω.T (.tup ds) (.ref p) := by
  have s : Same Ω.H (upd Ω.H p (.tup xs)) := same_upd hp
  exact ⟨wle_same s, R.same s, p, xs, rfl, .inl ⟨.inl upd_same, R.good.tn hp⟩, vs.le (le_same s)⟩
def aSlT (a : AE G) (l h : APo G) : AE G := fun S P => a S fun x cs => l ⟨S.ρ, cs⟩ fun lo cs => h ⟨S.ρ, cs⟩ fun hi cs => ∃ ds, x = .d (.tup ds) ∧ ¬ (HT.sIx ds.length 0 lo = 0 ∧ HT.sIx ds.length ds.length hi = ds.length) ∧ P (.d (.tup (cutD ds lo hi))) cs
theorem r_slT {t : TE} {tl th : TO} {a : AE G} {l h : APo G} (ha : Re t a) (hl : Rp tl l) (hh : Rp th h) : Re (tSl (rSlT G.K) t tl th) (aSlT a l h) := fun Φ S σ Ω P Q R hp k =>
  ha Φ S σ Ω _ _ R hp fun x cs v Ω1 h1 w1 R1 v1 => hl Φ ⟨S.ρ, cs⟩ σ Ω1 _ _ R1 h1 fun lo cs2 Ω2 h2 w2 R2 => hh Φ ⟨S.ρ, cs2⟩ σ Ω2 _ _ R2 h2 fun hi cs3 Ω3 h3 w3 R3 => by
    obtain ⟨ds, e, nf, q⟩ := h3
    subst e
    obtain ⟨a, xs, rfl, hx, vs⟩ := VD.tupT (VD.le (w2.trans w3).1 v1)
    refine ⟨a, xs, rfl, hx, by rw [vs.length]; exact nf, fun p hp => ?_⟩
    obtain ⟨w, R4, v3⟩ := R3.newTup (vs.cut lo hi) hp
    exact k _ _ _ _ q ((w1.trans w2).trans (w3.trans w)) R4 v3
/-! ### any -/
def dBls : List (D G) → Option (List Bool)
  | [] => some []
  | .bl b :: r => (dBls r).map (b :: ·)
  | _ :: _ => none
theorem VDs.dBls {H : Hp} {T : Mt G} : ∀ {ds : List (D G)} {xs : List V} {bs : List Bool}, VDs H T ds xs → A.dBls ds = some bs → xs = bs.map V.bl
  | [], _, ns, h, e => by cases e; exact h
  | .bl i :: r, _, ns, ⟨x, xr, e1, h1, h2⟩, e => by
    unfold A.dBls at e
    cases e2 : A.dBls r with
    | none => rw [e2] at e; cases e
    | some ms =>
      rw [e2] at e
      cases e
      rw [e1, show x = .bl i from h1, VDs.dBls h2 e2]
      rfl
  | .non :: _, _, _, _, e => by cases e
  | .int _ :: _, _, _, _, e => by cases e
  | .str _ :: _, _, _, _, e => by cases e
  | .tup _ :: _, _, _, _, e => by cases e
  | .lst _ :: _, _, _, _, e => by cases e
  | .ob _ :: _, _, _, _, e => by cases e
theorem dBls_map {α : Type} (f : α → Bool) : ∀ xs : List α, dBls (xs.map fun x => (D.bl (f x) : D G)) = some (xs.map f)
  | [] => rfl
  | x :: xs => by
    show (dBls (xs.map fun x => (D.bl (f x) : D G))).map (f x :: ·) = _
    rw [dBls_map f xs]; rfl
theorem dInts_map {α : Type} (f : α → Int) : ∀ xs : List α, dInts (xs.map fun x => (D.int (f x) : D G)) = some (xs.map f)
  | [] => rfl
  | x :: xs => by
    show (dInts (xs.map fun x => (D.int (f x) : D G))).map (f x :: ·) = _
    rw [dInts_map f xs]; rfl
def oAny : AF G := fun xs cs P => ∃ x ds bs, xs = [x] ∧ seqL x cs = some ds ∧ dBls ds = some bs ∧ P (.d (.bl (bs.any id))) cs
theorem o_any : Rc (G := G) (rAny G.K) oAny := fun Φ S σ Ω xs vs P Q R h ⟨x, ds, bs, e, e2, e3, q⟩ k => by
  subst e
  obtain ⟨v, r, rfl, h1, rfl⟩ := h
  obtain ⟨a, ys, ev, ha, v1⟩ := R.seqL h1 e2
  subst ev
  exact ⟨a, bs, rfl, SqL.of (by rw [ha, v1.dBls e3]), k _ _ _ Ω q (Wle.refl _) R rfl⟩
/-! ### truth -/
theorem r_tru {ta : TE} {a : AE G} (ha : Re ta a) : Rt (fun σ H Q => ta σ H fun x H' => ∃ k, TruV G.K x H' k ∧ Q k H') (aTru a) := fun Φ S σ Ω P Q R h k =>
  ha Φ S σ Ω _ _ R h fun x cs v Ω1 h1 w1 R1 v1 => by
    rcases h1 with ⟨c, e, q⟩ | ⟨i, e, q⟩ | ⟨ds, e, q⟩
    · subst e
      cases (show v = .bl c from v1)
      exact ⟨c, rfl, k _ _ Ω1 q w1 R1⟩
    · subst e
      cases (show v = .int i from v1)
      exact ⟨_, rfl, k _ _ Ω1 q w1 R1⟩
    · obtain ⟨a, ys, ev, ha, v2⟩ := R1.seqL v1 e
      subst ev
      refine ⟨!ds.isEmpty, .inl ⟨ys, SqL.of ha, ?_⟩, k _ _ Ω1 q w1 R1⟩
      have := v2.length
      cases ys <;> cases ds <;> simp_all
/-- of None and truth values (a mark) -/
def aTruN (a : AE G) : AT G := fun S P => a S fun x cs => (x = .d .non ∧ P false cs) ∨ ∃ c, x = .d (.bl c) ∧ P c cs
theorem r_truN {ta : TE} {a : AE G} (ha : Re ta a) : Rt (fun σ H Q => ta σ H fun x H' => ∃ k, TruV G.K x H' k ∧ Q k H') (aTruN a) := fun Φ S σ Ω P Q R h k =>
  ha Φ S σ Ω _ _ R h fun x cs v Ω1 h1 w1 R1 v1 => by
    rcases h1 with ⟨e, q⟩ | ⟨c, e, q⟩
    · subst e
      cases (show v = .non from v1)
      exact ⟨false, rfl, k _ _ Ω1 q w1 R1⟩
    · subst e
      cases (show v = .bl c from v1)
      exact ⟨c, rfl, k _ _ Ω1 q w1 R1⟩
/-! ### divmod -/
def oDivmod : AF G := fun xs cs P => ∃ i j, xs = [.d (.int i), .d (.int j)] ∧ CDivP i j ∧ P (.d (.tup [.int (i / j), .int (i % j)])) cs
theorem o_divmod : Rc (G := G) (fun xs H Q => ∃ i j, xs = [.int i, .int j] ∧ CDivP i j ∧ ∀ p, H p = none → Q (.ref p) (upd H p (.tup [.int (i / j), .int (i % j)]))) oDivmod := fun Φ S σ Ω xs vs P Q R h ⟨i, j, e, c, q⟩ k => by
  subst e
  obtain ⟨v, r, rfl, h1, v2, r2, rfl, h2, rfl⟩ := h
  cases (show v = .int i from h1)
  cases (show v2 = .int j from h2)
  refine ⟨i, j, rfl, c, fun p hp => ?_⟩
  obtain ⟨w, R4, v3⟩ := R.newTup (ds := [.int (i / j), .int (i % j)]) (xs := [.int (i / j), .int (i % j)]) ⟨_, _, rfl, rfl, _, _, rfl, rfl, rfl⟩ hp
  exact k _ _ _ _ q w R4 v3
/-! ### types -/
def tyD : D G → Option String
  | .non => some "NoneType"
  | .bl _ => some "bool"
  | .int _ => some "int"
  | .str _ => some "str"
  | .tup _ => some "tuple"
  | .lst _ => some "list"
  | .ob _ => none
theorem VD.tyx {H : Hp} {T : Mt G} {d : D G} {v : V} {t : String} (h : VD H T d v) (e : tyD d = some t) : TyX G.K H v (.type t) := by
  cases d with
  | non => cases e; rw [show v = .non from h]; exact .base .non
  | bl b => cases e; rw [show v = .bl b from h]; exact .base (.bl b)
  | int b => cases e; rw [show v = .int b from h]; exact .base (.int b)
  | str b => cases e; rw [show v = .str b from h]; exact .base (.str b)
  | tup ds =>
    cases e
    obtain ⟨a, xs, rfl, r, _⟩ := h
    rcases r with ⟨r | ⟨o, r⟩, _⟩ | ⟨o, its, n, r, rc, _⟩
    · exact .base (.tup r)
    · exact .fTuple r
    · exact .kTuple r rc
  | lst ds =>
    cases e
    obtain ⟨a, xs, rfl, r, _⟩ := h
    exact .base (.lst r.1)
  | ob φ => cases e
def tyN (n : String) : D G := .ob fun _ _ v => v = .ty n
theorem r_tyN {n : String} : Re (G := G) (tC (.ty n)) (aD (tyN n)) := r_const fun H T => ⟨H, T, Le.refl _ _, rfl⟩
theorem VD.tyn {H : Hp} {T : Mt G} {n : String} {v : V} (h : VD H T (tyN n : D G) v) : v = .ty n := let ⟨_, _, _, e⟩ := h; e
/-- what isinstance says of the types of plain things -/
def kitTB : String → String → Option Bool
  | "int", "int" => some true
  | "int", "bool" => some false
  | "int", "str" => some false
  | "int", "list" => some false
  | "int", "tuple" => some false
  | "bool", "int" => some true
  | "bool", "bool" => some true
  | "bool", "str" => some false
  | "bool", "list" => some false
  | "bool", "tuple" => some false
  | "NoneType", "int" => some false
  | "NoneType", "bool" => some false
  | "NoneType", "str" => some false
  | "NoneType", "list" => some false
  | "NoneType", "tuple" => some false
  | "str", "int" => some false
  | "str", "bool" => some false
  | "str", "str" => some true
  | "str", "list" => some false
  | "str", "tuple" => some false
  | "list", "int" => some false
  | "list", "bool" => some false
  | "list", "str" => some false
  | "list", "list" => some true
  | "list", "tuple" => some false
  | "tuple", "int" => some false
  | "tuple", "bool" => some false
  | "tuple", "str" => some false
  | "tuple", "list" => some false
  | "tuple", "tuple" => some true
  | _, _ => none
theorem kitTB_ok {t n : String} {b : Bool} (h : kitTB t n = some b) (K : PySem.W.Frag) : PySem.W.kitOne K (.type t) (.type n) = some b := by
  unfold kitTB at h
  split at h <;> first | (cases h; rfl) | cases h
/-- isinstance(x, a type of Python's own) -/
def oIsiT (n : String) : AF G := fun xs cs P => ∃ x d t b, xs = [x, .d (tyN n)] ∧ asD x cs = some d ∧ tyD d = some t ∧ kitTB t n = some b ∧ P (.d (.bl b)) cs
theorem o_isiT {n : String} : Rc (G := G) (rIsi G.K) (oIsiT n) := fun Φ S σ Ω xs vs P Q R h ⟨x, d, t, b, e, ed, et, ek, q⟩ k => by
  subst e
  obtain ⟨v, r, rfl, h1, u, r2, rfl, h2, rfl⟩ := h
  cases VD.tyn h2
  have ty : TyX G.K Ω.H v (.type t) := by
    cases x with
    | d d' => cases ed; exact VD.tyx h1 et
    | cel j =>
      unfold asD at ed
      dsimp only at ed
      cases hc : S.cs[j]? with
      | none => rw [hc] at ed; cases ed
      | some c =>
        rw [hc] at ed
        cases c with
        | lst ds =>
          cases ed
          cases et
          obtain ⟨a, ys, ev, ha, _⟩ := R.seqL (x := .cel j) (ds := ds) h1 (by show (match S.cs[j]? with | some (Cell.lst ds) => some ds | _ => none) = some ds; rw [hc])
          subst ev
          exact .base (.lst ha)
        | _ => cases ed
  exact ⟨_, _, _, _, b, rfl, .ty n, ty, kitTB_ok ek _, k _ _ _ Ω q (Wle.refl _) R rfl⟩
/-! ### repr of data -/
def oReprD : AF G := fun xs cs P => ∃ x d p, xs = [x] ∧ asD x cs = some d ∧ (tyD d = some "list" ∨ tyD d = some "tuple") ∧ pd d = some p ∧ p.showable = true ∧ p.hasDict = false ∧ p.depth ≤ 60 ∧ p.shown.length ≤ sizeLine ∧ P (.d (.str p.shown)) cs
theorem o_reprD : Rc (G := G) (rReprD G.K) oReprD := fun Φ S σ Ω xs vs P Q R h ⟨x, d, p, e, ed, et, ep, h1, h2, h3, h4, q⟩ k => by
  subst e
  obtain ⟨v, r, rfl, hv, rfl⟩ := h
  have dp := R.asDp hv ed ep
  have rf : ∃ a, v = .ref a := by
    cases d with
    | lst ds => cases hp : pds ds with
      | none => unfold pd at ep; rw [hp] at ep; cases ep
      | some ps => unfold pd at ep; rw [hp] at ep; cases ep; cases dp; exact ⟨_, rfl⟩
    | tup ds => cases hp : pds ds with
      | none => unfold pd at ep; rw [hp] at ep; cases ep
      | some ps => unfold pd at ep; rw [hp] at ep; cases ep; cases dp; exact ⟨_, rfl⟩
    | non => rcases et with z | z <;> exact absurd (Option.some.inj z) (by decide)
    | bl b => rcases et with z | z <;> exact absurd (Option.some.inj z) (by decide)
    | int b => rcases et with z | z <;> exact absurd (Option.some.inj z) (by decide)
    | str b => rcases et with z | z <;> exact absurd (Option.some.inj z) (by decide)
    | ob b => rcases et with z | z <;> cases z
  obtain ⟨a, rfl⟩ := rf
  exact ⟨a, p, rfl, dp, h1, h2, h3, h4, k _ _ _ Ω q (Wle.refl _) R rfl⟩
/-! ### a list into names -/
def gL (js : List Nat) : AG G := fun x S P => ∃ ds, seqL x S.cs = some ds ∧ gTn js ds S P
/-! ### comprehensions that leave out -/
theorem cLoop_filter {α : Type} {ρ : List (Option (SV G))} {g : AG G} {tt : AT G} {te : AE G} {P : List (D G) → Cs G → Prop} {cs : Cs G} {h r : α → D G} {c : α → Bool} : ∀ {xs : List α} {acc : List (D G)},
    (∀ x, x ∈ xs → ∀ (k : D G → Cs G → Prop) (k0 : Cs G → Prop), (c x = true → k (r x) cs) → (c x = false → k0 cs) → g (.d (h x)) ⟨ρ, cs⟩ fun S1 => tt S1 fun b cs2 => if b = true then te ⟨S1.ρ, cs2⟩ fun y cs3 => ∃ e, y = .d e ∧ k e cs3 else k0 cs2) →
    P (acc ++ (xs.filter c).map r) cs → cLoop ρ g tt te P (xs.map h) acc cs
  | [], acc, _, p => by
    show P acc cs
    simpa using p
  | x :: xs, acc, hx, p => by
    refine hx x List.mem_cons_self (fun e cs3 => cLoop ρ g tt te P (xs.map h) (acc ++ [e]) cs3) (fun cs2 => cLoop ρ g tt te P (xs.map h) acc cs2) (fun c1 => ?_) (fun c0 => ?_)
    · refine cLoop_filter (fun d m => hx d (List.mem_cons_of_mem _ m)) ?_
      rw [List.filter_cons_of_pos c1] at p
      simpa using p
    · refine cLoop_filter (fun d m => hx d (List.mem_cons_of_mem _ m)) ?_
      rw [List.filter_cons_of_neg (by rw [c0]; exact Bool.false_ne_true)] at p
      exact p
end
end A

/-! lists put together that will change; repr of truth values -/
namespace L2
open PySem PySem.Spec PyProof.Rows
def strB (b : Bool) : Str := if b then "True" else "False"
theorem call_reprB {X : Cx} : CallR X (.builtin "repr") (fun xs H Q => ∃ b, xs = [.bl b] ∧ Q (.str (strB b)) H) := by
  intro pins s σ H xs us Q I r h
  obtain ⟨b, rfl, q⟩ := h
  obtain ⟨u, rfl, e⟩ := vals1 r
  cases (show u = Value.bool b from e)
  exact PySem.P.repr_of_bool ⟨.str _, H, I.tok _, ⟨_, rfl⟩, q⟩
end L2
namespace A
open PySem L2
section
variable {G : Cfg}
def oCatC : AO G := fun x y cs P => ∃ ds es, seqL x cs = some ds ∧ seqL y cs = some es ∧ ds.length + es.length ≤ sizeLine ∧ P (.cel cs.length) (cs ++ [.lst (ds ++ es)])
theorem o_catC : Ro (G := G) rCat oCatC := fun Φ S σ Ω x y v u P Q R hx hy ⟨ds, es, e1, e2, hl, q⟩ k => by
  obtain ⟨a, xs, ev, ha, v1⟩ := R.seqL hx e1
  obtain ⟨b, ys, eu, hb, v2⟩ := R.seqL hy e2
  refine ⟨a, b, xs, ys, ev, eu, ha, hb, by rw [v1.length, v2.length]; exact hl, fun p hp => ?_⟩
  have vd := v1.app v2
  obtain ⟨R2, w2, np⟩ := R.new hp (G.ml _)
  obtain ⟨R3, w3, v3⟩ := R2.addCell (c := .lst (ds ++ es)) np (by show upd _ _ _ _ ≠ none; rw [upd_same]; intro z; cases z) (R.fresh hp) ⟨mset_same, _, upd_same, vd.le w2.1⟩
  exact k _ _ (.ref p) _ q (w2.trans w3) R3 v3
def oReprB : AF G := fun xs cs P => ∃ b, xs = [.d (.bl b)] ∧ P (.d (.str (strB b))) cs
theorem o_reprB : Rc (G := G) (fun xs H Q => ∃ b, xs = [.bl b] ∧ Q (.str (strB b)) H) oReprB := fun Φ S σ Ω xs vs P Q R h ⟨b, e, q⟩ k => by
  subst e
  obtain ⟨v, r, rfl, h1, rfl⟩ := h
  cases (show v = .bl b from h1)
  exact ⟨b, rfl, k _ _ _ Ω q (Wle.refl _) R rfl⟩
theorem strB_ne (a b : Bool) : (!decide (strB a = strB b)) = (!decide (a = b)) := by cases a <;> cases b <;> rfl
end
end A

/-! objects that change -/
namespace L2
open PySem PySem.Spec PyProof.Rows
theorem Room.u65 {k : Nat} {A : Around} (r : Room k A) : A.units + 65 < cLine := by have := r.un; omega
/-- o.f as a target -/
def gFldT (K : PySem.W.Frag) (ta : TE) (f : Str) : TG := fun y σ H Q => ta σ H fun x H2 => ∃ a C dx fs, x = .ref a ∧ H2 a = some (.ins C dx fs) ∧ Cls K C ∧ NoAttr K C f ∧ fs.length < 1000 ∧ Q σ (upd H2 a (.ins C dx (putF f y fs)))
theorem pg_fldT {X : Cx} {o : Expr} {f : Str} {pos : Pos} {ta : TE} (ha : PE X o ta) : PG X (.Attribute o f pos) (gFldT X.K ta f) := by
  refine ⟨fun pins s σ H v u Q I r h => ?_⟩
  rw [PySem.assign_Attribute]
  refine wpAny_bind (wpAny_holding (thn (ha.run pins s σ H _ I h) fun ov s1 ⟨x, H1, I1, rx, a, C, dx, fs, ex, ea, c, n, l, q2⟩ => ?_))
  subst ex
  obtain rfl : ov = Value.ref a := rx
  refine wpAny_bind (wpAny_standAt (wpAny_bind (wpAny_holding ?_)))
  exact setattr_ok I1 ea c n l r fun s3 I3 => wpAny_release ⟨σ, _, I3, q2⟩
end L2
namespace A
open PySem L2
section
variable {G : Cfg}
theorem look_obj {Ω : Wd G} {f : Str} {y : SV G} : ∀ {fs : List (Str × SV G)} {gs : List (Str × V)}, gs.map (·.1) = fs.map (·.1) → VSs Ω (fs.map (·.2)) (gs.map (·.2)) → fs.lookup f = some y → ∃ u, gs.lookup f = some u ∧ VS Ω y u
  | [], _, _, _, e => by cases e
  | (n, x) :: fs, [], e, _, _ => by cases e
  | (n, x) :: fs, (m, v) :: gs, e, h, l => by
    simp only [List.map_cons, List.cons.injEq] at e
    obtain ⟨e1, e2⟩ := e
    have e1 : m = n := e1
    subst e1
    obtain ⟨v', r, e3, h1, h2⟩ := h
    simp only [List.map_cons, List.cons.injEq] at e3
    obtain ⟨e3, e4⟩ := e3
    have e3 : v = v' := e3
    subst e3
    have e4 : gs.map (·.2) = r := e4
    subst e4
    rw [List.lookup_cons] at l ⊢
    cases c : f == m with
    | true => rw [c] at l; cases l; exact ⟨v, rfl, h1⟩
    | false => rw [c] at l; exact look_obj e2 h2 l
theorem look_none {f : Str} : ∀ {fs : List (Str × SV G)} {gs : List (Str × V)}, gs.map (·.1) = fs.map (·.1) → fs.lookup f = none → gs.lookup f = none
  | [], [], _, _ => rfl
  | [], _ :: _, e, _ => by cases e
  | (n, x) :: fs, [], e, _ => by cases e
  | (n, x) :: fs, (m, v) :: gs, e, l => by
    simp only [List.map_cons, List.cons.injEq] at e
    obtain ⟨e1, e2⟩ := e
    have e1 : m = n := e1
    subst e1
    rw [List.lookup_cons] at l ⊢
    cases c : f == m with
    | true => rw [c] at l; cases l
    | false => rw [c] at l; exact look_none e2 l
/-- an attribute is stored -/
def putS (f : Str) (y : SV G) : List (Str × SV G) → List (Str × SV G)
  | [] => [(f, y)]
  | (g, x) :: r => if g = f then (g, y) :: r else (g, x) :: putS f y r
theorem put_obj {Ω : Wd G} {f : Str} {y : SV G} {u : V} (hy : VS Ω y u) : ∀ {fs : List (Str × SV G)} {gs : List (Str × V)}, gs.map (·.1) = fs.map (·.1) → VSs Ω (fs.map (·.2)) (gs.map (·.2)) → (putF f u gs).map (·.1) = (putS f y fs).map (·.1) ∧ VSs Ω ((putS f y fs).map (·.2)) ((putF f u gs).map (·.2))
  | [], [], _, _ => ⟨rfl, u, [], rfl, hy, rfl⟩
  | [], _ :: _, e, _ => by cases e
  | (n, x) :: fs, [], e, _ => by cases e
  | (n, x) :: fs, (m, v) :: gs, e, h => by
    simp only [List.map_cons, List.cons.injEq] at e
    obtain ⟨e1, e2⟩ := e
    have e1 : m = n := e1
    subst e1
    obtain ⟨v', r, e3, h1, h2⟩ := h
    simp only [List.map_cons, List.cons.injEq] at e3
    obtain ⟨e3, e4⟩ := e3
    have e3 : v = v' := e3
    subst e3
    have e4 : gs.map (·.2) = r := e4
    subst e4
    unfold putF putS
    by_cases c : m = f
    · rw [if_pos c, if_pos c]
      exact ⟨by simp only [List.map_cons]; rw [e2], u, _, rfl, hy, h2⟩
    · rw [if_neg c, if_neg c]
      obtain ⟨q1, q2⟩ := put_obj hy e2 h2
      exact ⟨by simp only [List.map_cons]; rw [q1], v, _, rfl, h1, q2⟩
def objAt (C : Addr) (x : SV G) (cs : Cs G) : Option (List (Str × SV G)) := match x with
  | .cel j => match cs[j]? with
    | some (.obj C' fs) => if C' = C then some fs else none
    | _ => none
  | _ => none
theorem objAt_some {C : Addr} {x : SV G} {cs : Cs G} {fs : List (Str × SV G)} (h : objAt C x cs = some fs) : ∃ j, x = .cel j ∧ cs[j]? = some (.obj C fs) := by
  cases x with
  | d d => cases h
  | cel j =>
    unfold objAt at h
    dsimp only at h
    refine ⟨j, rfl, ?_⟩
    cases hc : cs[j]? with
    | none => rw [hc] at h; cases h
    | some c =>
      rw [hc] at h
      cases c with
      | obj C' gs =>
        dsimp only at h
        by_cases e : C' = C
        · rw [if_pos e] at h; cases h; subst e; rfl
        · rw [if_neg e] at h; cases h
      | _ => cases h
/-- o.f of an object that changes -/
def aFldC (C : Addr) (f : Str) (a : AE G) : AE G := fun S P => a S fun x cs => ∃ fs y, objAt C x cs = some fs ∧ fs.lookup f = some y ∧ P y cs
theorem r_fldC {C : Addr} {f : Str} {t : TE} {a : AE G} (cl : Cls G.K C) (na : NoAttr G.K C f) (ha : Re t a) : Re (tFld G.K t f) (aFldC C f a) := fun Φ S σ Ω P Q R h k =>
  ha Φ S σ Ω _ _ R h fun x cs v Ω1 ⟨fs, y, e, l, q⟩ w1 R1 v1 => by
    obtain ⟨j, rfl, hc⟩ := objAt_some e
    obtain ⟨p, hp, rfl⟩ := v1
    obtain ⟨t1, dx, gs, eo, en, vs⟩ := R1.cells j _ p hc hp
    obtain ⟨u, hu, vu⟩ := look_obj en vs l
    exact ⟨p, C, dx, gs, u, rfl, eo, cl, na, hu, k _ _ _ Ω1 q w1 R1 vu⟩
theorem putF_len {f : Str} {u : V} {gs : List (Str × V)} : True := True.intro
end
section
variable {K : PySem.W.Frag}
open B
def okN (ns : List Str) : Bool := !(ns == (["steps", "marks", "_ways"] : List Str))
theorem muB_ins {C dx : Addr} {gs : List (Str × V)} (h : okN (gs.map (·.1)) = true) : muB (.ins C dx gs) := by
  show gs.map (·.1) ≠ _
  intro e
  rw [e] at h
  exact absurd h (by decide)
/-- o.f = e of an object that changes -/
def xFldC (C : Addr) (f : Str) (a b : AE (GB K)) : AX (GB K) := fun N S => b S fun y cs => a ⟨S.ρ, cs⟩ fun x cs => ∃ j fs, x = .cel j ∧ cs[j]? = some (.obj C fs) ∧ fs.length < 1000 ∧ okN ((putS f y fs).map (·.1)) = true ∧ N.nx ⟨S.ρ, cs.set j (.obj C (putS f y fs))⟩
theorem Rel.putObj {Φ : Fr (GB K)} {S : AS (GB K)} {σ : L2.St} {Ω : Wd (GB K)} (R : Rel Φ S σ Ω) {C : Addr} {f : Str} {y : SV (GB K)} {u : V} {j : Nat} {p dx : Addr} {fs : List (Str × SV (GB K))} {gs : List (Str × V)} (hc : S.cs[j]? = some (.obj C fs)) (hp : Ω.ads[j]? = some p) (t1 : Ω.T p = some none) (eo : Ω.H p = some (.ins C dx gs)) (en : gs.map (·.1) = fs.map (·.1)) (vs : VSs Ω (fs.map (·.2)) (gs.map (·.2))) (hy : VS Ω y u) (hn : okN ((putS f y fs).map (·.1)) = true) :
    Rel Φ ⟨S.ρ, S.cs.set j (.obj C (putS f y fs))⟩ σ ⟨upd Ω.H p (.ins C dx (putF f u gs)), Ω.T, Ω.ads⟩ ∧ Wle Ω ⟨upd Ω.H p (.ins C dx (putF f u gs)), Ω.T, Ω.ads⟩ := by
  obtain ⟨q1, q2⟩ := put_obj (f := f) hy en vs
  have w : Wle Ω ⟨upd Ω.H p (.ins C dx (putF f u gs)), Ω.T, Ω.ads⟩ := ⟨le_put (by rw [t1]; intro z; cases z), List.prefix_refl _⟩
  exact R.write (o := .ins C dx (putF f u gs)) hp t1 (muB_ins (C := C) (dx := dx) (by rw [q1]; exact hn)) ⟨t1, dx, _, upd_same, q1, q2.le w⟩
theorem x_fldC {C : Addr} {f : Str} {ta tb : TE} {a b : AE (GB K)} (cl : Cls K C) (na : NoAttr K C f) (ha : Re ta a) (hb : Re tb b) : Rx (sFld K ta tb f) (xFldC C f a b) := fun Φ S σ Ω N E R h kn kr kb kc =>
  hb Φ S σ Ω _ _ R h fun y cs u Ω1 h1 w1 R1 v1 => ha Φ ⟨S.ρ, cs⟩ σ Ω1 _ _ R1 h1 fun x cs2 v Ω2 ⟨j, fs, ex, hc, hl, hn, q⟩ w2 R2 v2 => by
    subst ex
    obtain ⟨p, hp, rfl⟩ := v2
    obtain ⟨t1, dx, gs, eo, en, vs⟩ := R2.cells j _ p hc hp
    obtain ⟨R3, w3⟩ := R2.putObj (f := f) hc hp t1 eo en vs (v1.le w2) hn
    have lg : gs.length = fs.length := by have := congrArg List.length en; simpa using this
    exact ⟨p, C, dx, gs, rfl, eo, cl, na, by omega, kn _ _ _ q ((w1.trans w2).trans w3) R3⟩
/-- o.f as a target -/
def gFldC (C : Addr) (f : Str) (a : AE (GB K)) : AG (GB K) := fun y S P => a S fun x cs => ∃ j fs, x = .cel j ∧ cs[j]? = some (.obj C fs) ∧ fs.length < 1000 ∧ okN ((putS f y fs).map (·.1)) = true ∧ P ⟨S.ρ, cs.set j (.obj C (putS f y fs))⟩
theorem g_fldC {C : Addr} {f : Str} {is : List Nat} {ta : TE} {a : AE (GB K)} (cl : Cls K C) (na : NoAttr K C f) (ha : Re ta a) : Rg is (gFldT K ta f) (gFldC C f a) := fun Φ S σ Ω y u P Q R hy h k =>
  ha Φ S σ Ω _ _ R h fun x cs2 v Ω2 ⟨j, fs, ex, hc, hl, hn, q⟩ w2 R2 v2 => by
    subst ex
    obtain ⟨p, hp, rfl⟩ := v2
    obtain ⟨t1, dx, gs, eo, en, vs⟩ := R2.cells j _ p hc hp
    obtain ⟨R3, w3⟩ := R2.putObj (f := f) hc hp t1 eo en vs (hy.le w2) hn
    have lg : gs.length = fs.length := by have := congrArg List.length en; simpa using this
    exact ⟨p, C, dx, gs, rfl, eo, cl, na, by omega, k _ _ _ q (w2.trans w3) R3 rfl⟩
/-- (g, h) = a tuple -/
def gPair (g h : AG (GB K)) : AG (GB K) := fun x S P => ∃ d e, x = .d (.tup [d, e]) ∧ g (.d d) S fun S1 => h (.d e) S1 P
theorem g_pair {is : List Nat} {tg th : TG} {g h : AG (GB K)} (hg : Rg is tg g) (hh : Rg is th h) : Rg is (gTup K 2 (gCons tg (gCons th gNil))) (gPair g h) := fun Φ S σ Ω x v P Q R hx ⟨d, e, ex, q⟩ k => by
  subst ex
  obtain ⟨a, xs, ev, ha, vs⟩ := VD.tupT hx
  obtain ⟨y, r, rfl, h1, z, r2, rfl, h2, rfl⟩ := vs
  refine ⟨a, _, ev, ha, rfl, y, [z], rfl, hg Φ S σ Ω (.d d) y _ _ R h1 q fun S1 σ1 Ω1 q1 w1 R1 e1 => ⟨z, [], rfl, hh Φ S1 σ1 Ω1 (.d e) z _ _ R1 (VS.le (x := .d e) w1 h2) q1 fun S2 σ2 Ω2 q2 w2 R2 e2 => ⟨rfl, k S2 σ2 Ω2 q2 (w1.trans w2) R2 (e2.trans e1)⟩⟩⟩
/-- a field is stored, the object's fields are data -/
def putD {G : Cfg} (f : Str) (y : D G) : List (Str × D G) → List (Str × D G)
  | [] => [(f, y)]
  | (g, x) :: r => if g = f then (g, y) :: r else (g, x) :: putD f y r
def objF {G : Cfg} (C : Addr) (fs : List (Str × D G)) : Cell G := .obj C (fs.map fun p => (p.1, .d p.2))
theorem putD_map {G : Cfg} {f : Str} {y : D G} : ∀ fs : List (Str × D G), putS f (.d y) (fs.map fun p => (p.1, SV.d p.2)) = (putD f y fs).map fun p => (p.1, SV.d p.2)
  | [] => rfl
  | (g, x) :: r => by
    unfold putD
    rw [List.map_cons]
    show (if g = f then _ else _) = _
    by_cases c : g = f
    · rw [if_pos c, if_pos c]; rfl
    · rw [if_neg c, if_neg c, putD_map r]; rfl
def fldOk {G : Cfg} (f : Str) (fs : List (Str × D G)) : Bool := decide (fs.length < 1000) && okN ((putD f .non fs).map (·.1))
theorem putD_names {G : Cfg} {f : Str} {y z : D G} : ∀ fs : List (Str × D G), (putD f y fs).map (·.1) = (putD f z fs).map (·.1)
  | [] => rfl
  | (g, x) :: r => by
    unfold putD
    by_cases c : g = f
    · rw [if_pos c, if_pos c]; rfl
    · rw [if_neg c, if_neg c, List.map_cons, List.map_cons, putD_names r]
theorem fld_step {C : Addr} {f : Str} {b : AE (GB K)} {N : AN (GB K)} {ρ : List (Option (SV (GB K)))} {cs : Cs (GB K)} {i j : Nat} {fs : List (Str × D (GB K))} (h0 : ρ[i]? = some (some (.cel j)))
    (h : b ⟨ρ, cs⟩ fun y cs' => ∃ x, y = .d x ∧ cs'[j]? = some (objF C fs) ∧ fldOk f fs = true ∧ N.nx ⟨ρ, cs'.set j (objF C (putD f x fs))⟩) (mono : ∀ S P P', (∀ x cs, P x cs → P' x cs) → b S P → b S P') : xFldC C f (aVar i) b N ⟨ρ, cs⟩ := by
  refine mono _ _ _ (fun y cs' h => ?_) h
  obtain ⟨x, rfl, hc, ok, q⟩ := h
  unfold fldOk at ok
  rw [Bool.and_eq_true] at ok
  refine ⟨.cel j, h0, j, _, rfl, hc, by rw [List.length_map]; exact of_decide_eq_true ok.1, ?_, ?_⟩
  · rw [putD_map, List.map_map, show ((fun p => p.1) ∘ fun p : Str × D (GB K) => (p.1, SV.d p.2)) = fun p => p.1 from rfl, putD_names (z := .non)]; exact ok.2
  · rw [putD_map]; exact q
theorem fld_stepV {C : Addr} {f : Str} {N : AN (GB K)} {ρ : List (Option (SV (GB K)))} {cs : Cs (GB K)} {i j l : Nat} {x : D (GB K)} {fs : List (Str × D (GB K))} (h0 : ρ[i]? = some (some (.cel j))) (h1 : ρ[l]? = some (some (.d x))) (hc : cs[j]? = some (objF C fs)) (ok : fldOk f fs = true)
    (h : N.nx ⟨ρ, cs.set j (objF C (putD f x fs))⟩) : xFldC C f (aVar i) (aVar l) N ⟨ρ, cs⟩ :=
  fld_step h0 ⟨_, h1, x, rfl, hc, ok, h⟩ fun S P P' k ⟨y, e, q⟩ => ⟨y, e, k _ _ q⟩
/-! calls with an object that changes -/
/-- no cells within -/
def flatC {G : Cfg} : Cell G → Prop
  | .obj _ fs => ∃ ds : List (Str × D G), fs = ds.map fun p => (p.1, .d p.2)
  | _ => True
theorem VSs.flat {G : Cfg} {Ω : Wd G} : ∀ {ds : List (Str × D G)} {vs : List V}, VSs Ω ((ds.map fun p => (p.1, SV.d p.2)).map (·.2)) vs → VDs Ω.H Ω.T (ds.map (·.2)) vs
  | [], _, e => e
  | p :: ds, _, ⟨v, r, e, h1, h2⟩ => ⟨v, r, e, h1, VSs.flat h2⟩
theorem VDs.unflat {G : Cfg} {Ω : Wd G} : ∀ {ds : List (Str × D G)} {vs : List V}, VDs Ω.H Ω.T (ds.map (·.2)) vs → VSs Ω ((ds.map fun p => (p.1, SV.d p.2)).map (·.2)) vs
  | [], _, e => e
  | p :: ds, _, ⟨v, r, e, h1, h2⟩ => ⟨v, r, e, h1, VDs.unflat h2⟩
theorem CellOk.ads {G : Cfg} {H : Hp} {T : Mt G} {ads ads' : List Addr} {p : Addr} {c : Cell G} (f : flatC c) (h : CellOk ⟨H, T, ads⟩ p c) : CellOk ⟨H, T, ads'⟩ p c := by
  cases c with
  | dead => trivial
  | lst ds => exact h
  | any c => exact h
  | dct lk kvs => exact h
  | obj C fs =>
    obtain ⟨ds, rfl⟩ := f
    obtain ⟨t, dx, gs, e, en, vs⟩ := h
    exact ⟨t, dx, gs, e, en, VDs.unflat (Ω := ⟨H, T, ads'⟩) (VSs.flat (Ω := ⟨H, T, ads⟩) vs)⟩
theorem objF_flat {G : Cfg} {C : Addr} {fs : List (Str × D G)} : flatC (objF C fs) := ⟨fs, rfl⟩
abbrev CC (K : PySem.W.Frag) := List (Str × D (GB K)) → List (D (GB K)) → (D (GB K) → List (Str × D (GB K)) → Prop) → Prop
def cC (K : PySem.W.Frag) (C : Addr) (g : CC K) : Sp := fun vs H Q _ => ∃ p ws fs ds T P, vs = .ref p :: ws ∧ Good (G := GB K) H T ∧ CellOk ⟨H, T, []⟩ p (objF C fs) ∧ VDs H T ds ws ∧ g fs ds P ∧
  ∀ d fs' v H' T', P d fs' → Le H T H' T' → Good H' T' → (∀ a, a ≠ p → T a = some none → T' a = some none ∧ H' a = H a) → CellOk ⟨H', T', []⟩ p (objF C fs') → VD H' T' d v → Q v H'
theorem Rel.afterG {G : Cfg} {Φ : Fr G} {S : AS G} {σ : L2.St} {Ω : Wd G} (R : Rel Φ S σ Ω) {H' : Hp} {T' : Mt G} {i : Nat} {p : Addr} {c : Cell G} (hp : Ω.ads[i]? = some p) (l : Le Ω.H Ω.T H' T') (g : Good H' T') (k : ∀ a, a ≠ p → Ω.T a = some none → T' a = some none ∧ H' a = Ω.H a)
    (ne : H' p ≠ none) (hc : CellOk ⟨H', T', Ω.ads⟩ p c) : Rel Φ ⟨S.ρ, S.cs.set i c⟩ σ ⟨H', T', Ω.ads⟩ ∧ Wle Ω ⟨H', T', Ω.ads⟩ := by
  have w : Wle Ω ⟨H', T', Ω.ads⟩ := ⟨l, List.prefix_refl _⟩
  have mp := List.mem_of_getElem? hp
  refine ⟨⟨g, R.le0.trans l, fun a t q => ?_, R.nd, R.own, by simp [R.len], fun a m z => ?_, fun j c' a h1 h2 => ?_, R.sl, fun i d e => ?_, R.g0⟩, w⟩
  · obtain ⟨h1, h2⟩ := R.fr a t q
    have ap : a ≠ p := fun z => by subst z; exact R.nfr (R.own _ mp) ⟨t, q⟩
    obtain ⟨k1, k2⟩ := k a ap h1
    exact ⟨k1, k2.trans h2⟩
  · have z' : H' a = none := z
    by_cases ap : a = p
    · subst ap; exact ne z'
    cases e : Ω.H a with
    | none => exact R.al a m e
    | some o =>
      cases t : Ω.T a with
      | none => rw [l.kp _ _ e t] at z'; cases z'
      | some q =>
        cases q with
        | none => rw [(k a ap t).2, e] at z'; cases z'
        | some c =>
          obtain ⟨u, hu, _⟩ := g.iv a c (l.ca _ _ t)
          rw [hu] at z'; cases z'
  · have h1 : (S.cs.set i c)[j]? = some c' := h1
    have h2 : Ω.ads[j]? = some a := h2
    by_cases e : i = j
    · subst e
      have hl : i < S.cs.length := by have := (List.getElem?_eq_some_iff.mp h1).1; simpa using this
      rw [List.getElem?_set_self hl] at h1
      cases h1
      rw [hp] at h2
      cases h2
      exact hc
    · rw [List.getElem?_set_ne e] at h1
      have ap : a ≠ p := fun z => by
        subst z
        exact e (nd_inj R.nd hp h2)
      exact (R.cells j c' a h1 h2).le w (fun t => (k a ap t).1) fun t o e => ((k a ap t).2).trans e
  · obtain ⟨v, h1, h2⟩ := R.slots i d e
    exact ⟨v, h1, h2.le w⟩
/-- o.m(..) of an object that changes -/
def aMethC (C : Addr) (m : Str) (g : CC K) (a : AE (GB K)) (r : AA (GB K)) : AE (GB K) := fun S P => a S fun x cs => ∃ j fs, x = .cel j ∧ cs[j]? = some (.obj C fs) ∧ fs.lookup m = none ∧ r ⟨S.ρ, cs⟩ fun xs cs => ∃ ds fs', undd xs = some ds ∧ cs[j]? = some (objF C fs') ∧ g fs' ds fun e gs => P (.d e) (cs.set j (objF C gs))
theorem ins_ne {G : Cfg} {Ω : Wd G} {p C : Addr} {fs : List (Str × SV G)} (h : CellOk Ω p (.obj C fs)) : Ω.H p ≠ none := by
  obtain ⟨_, dx, gs, e, _⟩ := h
  rw [e]; intro z; cases z
theorem r_methC {C : Addr} {m : Str} {g : CC K} {E : XK} {t : TE} {tr : TA} {a : AE (GB K)} {r : AA (GB K)} (ha : Re t a) (hr : Ra tr r) : Re (tMeth C m (cC K C g) [] E t tr) (aMethC C m g a r) := fun Φ S σ Ω P Q R h k =>
  ha Φ S σ Ω _ _ R h fun x cs v Ω1 ⟨j, fs, ex, hc, hl, h1⟩ w1 R1 v1 => by
    subst ex
    obtain ⟨p, hp, rfl⟩ := v1
    obtain ⟨t1, dx, gs, eo, en, vs⟩ := R1.cells j _ p hc hp
    refine ⟨p, dx, gs, rfl, eo, look_none en hl, hr Φ ⟨S.ρ, cs⟩ σ Ω1 _ _ R1 h1 fun xs cs2 vs Ω2 ⟨ds, fs', e, hc2, q⟩ w2 R2 v2 => ?_⟩
    have hp2 := pre_get w2.2 hp
    rw [List.append_nil]
    refine ⟨p, vs, fs', ds, Ω2.T, _, rfl, R2.good, CellOk.ads objF_flat (R2.cells j _ p hc2 hp2), v2.undd e, q, fun d' c' v' H' T' pp l g' fr cok vd => ?_⟩
    obtain ⟨R3, w3⟩ := R2.afterG hp2 l g' fr (ins_ne cok) (CellOk.ads objF_flat cok)
    exact k _ _ v' _ pp ((w1.trans w2).trans w3) R3 vd
/-- a def whose first parameter is an object that changes -/
theorem fn_C {C : Addr} {t : TS} {a : AX (GB K)} (hx : Rx t a) {g : CC K} {N : List Str} {vs : List V} {H : Hp} {Q : VK} {E : XK} (h : cC K C g vs H Q E)
    (hg : ∀ fs ds P, g fs ds P → a ⟨fun S => ∃ fs', S.cs[0]? = some (objF C fs') ∧ P .non fs', fun x cs => ∃ fs', cs[0]? = some (objF C fs') ∧ retP (fun d => P d fs') x cs, fun _ => False, fun _ => False⟩ ⟨ρ0 (.cel 0 :: ds.map .d) N.length, [objF C fs]⟩) : t { nx := fun _ H' => Q .non H', rt := Q } (L2.start N vs) H := by
  obtain ⟨p, ws, fs, ds, T, P, rfl, gd, co, vd, q, k⟩ := h
  have R0 : Rel ⟨H, T, (· = p)⟩ ⟨ρ0 (.cel 0 :: ds.map .d) N.length, [objF C fs]⟩ (L2.start N (.ref p :: ws)) ⟨H, T, [p]⟩ := rel0 gd (Le.refl _ _) (fun a t _ => ⟨t, rfl⟩) (by simp) (fun a m => .inl (List.mem_singleton.mp m)) rfl (fun a m => by
      rw [List.mem_singleton.mp m]; exact ins_ne (Ω := ⟨H, T, []⟩) co)
    (fun i c' a e e2 => by
      cases i with
      | zero => cases e; cases e2; exact CellOk.ads objF_flat co
      | succ i => simp at e) ⟨.ref p, ws, rfl, ⟨p, rfl, rfl⟩, VDs.svs (Ω := ⟨H, T, [p]⟩) vd⟩ gd
  have fin : ∀ {S2 : AS (GB K)} {σ2} {Ω2 : Wd (GB K)}, Ω2.ads[0]? = some p → Rel ⟨H, T, (· = p)⟩ S2 σ2 Ω2 → ∀ d v fs', S2.cs[0]? = some (objF C fs') → P d fs' → VD Ω2.H Ω2.T d v → Q v Ω2.H := fun {S2 σ2 Ω2} hp R2 d v fs' e pp vd => by
    have co := R2.cells 0 _ p e hp
    exact k d fs' v _ _ pp R2.le0 R2.good (fun a na t => R2.fr a t na) (CellOk.ads objF_flat co) vd
  have ad : ∀ {Ω2 : Wd (GB K)}, Wle ⟨H, T, [p]⟩ Ω2 → Ω2.ads[0]? = some p := fun w => pre_get w.2 rfl
  refine hx _ _ _ ⟨H, T, [p]⟩ ⟨fun S => ∃ fs', S.cs[0]? = some (objF C fs') ∧ P .non fs', fun x cs => ∃ fs', cs[0]? = some (objF C fs') ∧ retP (fun d => P d fs') x cs, fun _ => False, fun _ => False⟩ _ R0 (hg fs ds P q) (fun S2 σ2 Ω2 ⟨fs', e, pp⟩ w R2 => fin (ad w) R2 .non .non fs' e pp rfl) (fun x S2 v σ2 Ω2 ⟨fs', e, pp⟩ w R2 vx => ?_) (fun _ _ _ z => z.elim) fun _ _ _ z => z.elim
  cases x with
  | d d => exact fin (ad w) R2 d v fs' e pp vx
  | cel j =>
    obtain ⟨es, ec, pp⟩ := pp
    obtain ⟨b, hb, rfl⟩ := vx
    obtain ⟨R3, w3, v3⟩ := R2.freeze hb ec
    have j0 : j ≠ 0 := fun z => by subst z; rw [e] at ec; cases ec
    refine fin (Ω2 := ⟨Ω2.H, mset Ω2.T b none, Ω2.ads⟩) (show Ω2.ads[0]? = some p from ad w) R3 _ _ fs' ?_ pp v3
    show (S2.cs.set j .dead)[0]? = _
    rw [List.getElem?_set_ne j0]; exact e
/-! a new object -/
/-- the object becomes data -/
def Conv (C : Addr) (fs : List (Str × D (GB K))) (d : D (GB K)) : Prop := ∀ H T p, Good (G := GB K) H T → CellOk ⟨H, T, []⟩ p (objF C fs) → ∃ T' : Mt (GB K), Le H T H T' ∧ Good (G := GB K) H T' ∧ (∀ a, a ≠ p → T a = some none → T' a = some none) ∧ VD H T' d (.ref p)
def aMake (C : Addr) (g : CC K) (a : AA (GB K)) : AE (GB K) := fun S P => a S fun xs cs => ∃ ds, undd xs = some ds ∧ g [] ds fun e fs => e = .non ∧ ∃ d, Conv C fs d ∧ P (.d d) cs
theorem good_own {H : Hp} {T : Mt (GB K)} (g : Good H T) {x dx C : Addr} (hx : H x = none) (hd : H dx = none) (ne : dx ≠ x) : Good (upd (upd H dx (.own x)) x (.ins C dx [])) (mset T x (some none)) ∧ Le H T (upd (upd H dx (.own x)) x (.ins C dx [])) (mset T x (some none)) := by
  have s1 : Same H (upd H dx (.own x)) := same_upd hd
  have hx1 : upd H dx (.own x) x = none := by rw [upd_ne ne.symm]; exact hx
  have g1 := g.same s1
  exact ⟨g1.new hx1 (o := .ins C dx []) (muB_ins (C := C) (dx := dx) (gs := []) (by decide)), (le_same s1).trans (le_new g1 hx1)⟩
theorem r_make {C : Addr} {g : CC K} {E : XK} {t : TA} {a : AA (GB K)} (ha : Ra t a) : Re (tMake C (cC K C g) [] E t) (aMake C g a) := fun Φ S σ Ω P Q R h k =>
  ha Φ S σ Ω _ _ R h fun xs cs vs Ω1 ⟨ds, e, q⟩ w1 R1 v1 => by
    intro x dx hx hd ne
    rw [List.append_nil]
    obtain ⟨g2, l2⟩ := good_own (C := C) R1.good hx hd ne
    refine ⟨x, vs, [], ds, _, _, rfl, g2, ⟨mset_same, dx, [], upd_same, rfl, rfl⟩, VDs.le l2 (v1.undd e), q, fun d' fs' v' H' T' ⟨e1, d, cv, pp⟩ l g' fr cok vd => ?_⟩
    subst e1
    refine ⟨vd, ?_⟩
    obtain ⟨T3, l3, g3, f3, vd3⟩ := cv H' T' x g' cok
    have fr3 : ∀ a, Ω1.T a = some none → T3 a = some none ∧ H' a = Ω1.H a := fun a ta => by
      have hax : a ≠ x := fun z => by subst z; rw [R1.good.tn hx] at ta; cases ta
      have had : a ≠ dx := fun z => by subst z; rw [R1.good.tn hd] at ta; cases ta
      obtain ⟨k1, k2⟩ := fr a hax (by rw [mset_ne hax]; exact ta)
      exact ⟨f3 a hax k1, by rw [k2, upd_ne hax, upd_ne had]⟩
    obtain ⟨R3, w3⟩ := R1.after ((l2.trans l).trans l3) g3 fr3
    exact k _ _ (.ref x) _ pp (w1.trans w3) R3 vd3
/-- an object that never changes again -/
def objK (C : Addr) (fs : List (Str × D (GB K))) : D (GB K) := .ob fun H T v => ∃ a dx gs, v = .ref a ∧ H a = some (.ins C dx gs) ∧ T a = none ∧ gs.map (·.1) = fs.map (·.1) ∧ VDs H T (fs.map (·.2)) (gs.map (·.2))
theorem conv_objK {C : Addr} {fs : List (Str × D (GB K))} : Conv C fs (objK C fs) := fun H T p g co => by
  obtain ⟨t, dx, gs, e, en, vs⟩ := co
  refine ⟨mset T p none, le_still t, g.still t, fun a na ta => by rw [mset_ne na]; exact ta, H, mset T p none, Le.refl _ _, p, dx, gs, rfl, e, mset_same, by rw [en, List.map_map]; rfl, ?_⟩
  have vd : VDs H T (fs.map (·.2)) (gs.map (·.2)) := VSs.flat (Ω := ⟨H, T, []⟩) vs
  exact vd.le (le_still t)
theorem look_dat {H : Hp} {T : Mt (GB K)} {f : Str} {y : D (GB K)} : ∀ {fs : List (Str × D (GB K))} {gs : List (Str × V)}, gs.map (·.1) = fs.map (·.1) → VDs H T (fs.map (·.2)) (gs.map (·.2)) → fs.lookup f = some y → ∃ u, gs.lookup f = some u ∧ VD H T y u
  | [], _, _, _, e => by cases e
  | (n, x) :: fs, [], e, _, _ => by cases e
  | (n, x) :: fs, (m, v) :: gs, e, h, l => by
    simp only [List.map_cons, List.cons.injEq] at e
    obtain ⟨e1, e2⟩ := e
    have e1 : m = n := e1
    subst e1
    obtain ⟨v', r, e3, h1, h2⟩ := h
    simp only [List.map_cons, List.cons.injEq] at e3
    obtain ⟨e3, e4⟩ := e3
    have e3 : v = v' := e3
    subst e3
    have e4 : gs.map (·.2) = r := e4
    subst e4
    rw [List.lookup_cons] at l ⊢
    cases c : f == m with
    | true => rw [c] at l; cases l; exact ⟨v, rfl, h1⟩
    | false => rw [c] at l; exact look_dat e2 h2 l
theorem objK.get {H : Hp} {T : Mt (GB K)} {C : Addr} {fs : List (Str × D (GB K))} {v : V} (h : VD H T (objK C fs) v) : ∃ a dx gs, v = .ref a ∧ H a = some (.ins C dx gs) ∧ T a = none ∧ gs.map (·.1) = fs.map (·.1) ∧ VDs H T (fs.map (·.2)) (gs.map (·.2)) := by
  obtain ⟨H0, T0, l, a, dx, gs, e, h1, h2, h3, h4⟩ := h
  refine ⟨a, dx, gs, e, l.kp _ _ h1 h2, ?_, h3, h4.le l⟩
  cases t : T a with
  | none => rfl
  | some m =>
    rcases l.tm a (by rw [t]; intro z; cases z) with z | z
    · exact absurd h2 z
    · rw [z] at h1; cases h1
theorem objK_fld {C : Addr} {f : Str} {fs : List (Str × D (GB K))} {e : D (GB K)} (h : fs.lookup f = some e) : FldIs C f (objK C fs) e := fun H T v g hv => by
  obtain ⟨a, dx, gs, ev, h1, h2, h3, h4⟩ := objK.get hv
  obtain ⟨u, hu, vu⟩ := look_dat h3 h4 h
  exact ⟨a, dx, gs, u, ev, h1, hu, vu⟩
theorem look_map {m : Str} : ∀ {fs : List (Str × D (GB K))}, fs.lookup m = none → (fs.map fun p => (p.1, (SV.d p.2 : SV (GB K)))).lookup m = none
  | [], _ => rfl
  | (n, x) :: fs, h => by
    rw [List.lookup_cons] at h
    rw [List.map_cons, List.lookup_cons]
    cases c : m == n with
    | true => rw [c] at h; cases h
    | false => rw [c] at h; exact look_map h
theorem objK_ins {C : Addr} {m : Str} {fs : List (Str × D (GB K))} (h : fs.lookup m = none) : InsIs C m (objK C fs) := fun H T v g hv => by
  obtain ⟨a, dx, gs, ev, h1, h2, h3, h4⟩ := objK.get hv
  refine ⟨a, dx, gs, ev, h1, ?_⟩
  have : gs.map (·.1) = (fs.map fun p => (p.1, SV.d p.2)).map (·.1) := by rw [h3, List.map_map]; rfl
  exact look_none this (look_map h)
end
end A

/-! enumerate of a tuple -/
namespace PySem
open Sem (wp)
theorem meets_enumerate_newT {v : Value} {o : Obj} {H : Heap → Prop} (B : Begins v o H) :
    Meets (Builtin.«enumerate.__new__» ⟨[.type "enumerate", v], []⟩) (fun _ R s => H s.heap ∧
      R (.ok (.ret (.ref (s.heap.push o).objs.size))) { s with heap := (s.heap.push o).push { cls := .type "enumerate", data := .fields #[.none, .bool false, .ref s.heap.objs.size, rawInt 0, .none, .none] } }) :=
  .of_wp fun prog w A R s h => by
    obtain ⟨hp, g, d, tk, os⟩ := s; obtain ⟨h1, h⟩ := h
    have hsub := sub_enumerate
    have q1 : ∀ {A' : Around} {E : Value → Shared → Prop} {Q : Value → Shared → Prop}, Q (.ref hp.objs.size) ⟨hp.push o, g, d, tk, os⟩ → wpAny (model prog w) A' (pyIter v) Q E ⟨hp, g, d, tk, os⟩ :=
      fun q => B.iter prog w _ _ ⟨hp, g, d, tk, os⟩ _ h1 q
    wp_walk using q1
    refine wpAny_stack_any fun st => wpAny_pure ?_
    split
    · rename_i c _ _ _ _ _
      cases (c == Value.type "enumerate")
      · wp_walk using q1
        exact ⟨_, rfl, h⟩
      · wp_walk using q1
        exact ⟨_, rfl, h⟩
    · wp_walk using q1
      exact ⟨_, rfl, h⟩
section
variable {prog : Program} {w : World} {A : Around} {E : Value → Shared → Prop} {s : Shared}
theorem enum_begins1 {v : Value} {o : Obj} {H : Heap → Prop} {Q : Value → Shared → Prop} (B : Begins v o H) (h1 : H s.heap)
    (h : ∀ h', IsEnum h' (s.heap.objs.size + 1) s.heap.objs.size 0 .none → h'.get? s.heap.objs.size = some o → h'.objs.size = s.heap.objs.size + 2 →
      (∀ b o, s.heap.get? b = some o → h'.get? b = some o) → Q (.ref (s.heap.objs.size + 1)) { s with heap := h' }) :
    wpAny (model prog w) A (call (.type "enumerate") [v]) Q E s := by
  refine callType_new F.called_enumerate (by decide) (F.typeCall_enumerate_1 _) (F.newCall_enumerate_1 _) (fun obj => F.args_object_init_2 obj _) F.entry_enumerate_new
    (meets_enumerate_newT B) ⟨h1, ?_⟩
  have hz : (s.heap.push o).objs.size = s.heap.objs.size + 1 := Heap.size_push ..
  show _ ∧ _
  rw [hz]
  have he : IsEnum ((s.heap.push o).push { cls := .type "enumerate", data := .fields #[.none, .bool false, .ref s.heap.objs.size, rawInt 0, .none, .none] }) (s.heap.objs.size + 1) s.heap.objs.size 0 .none := by
    have := Heap.get?_push_size (s.heap.push o) (o := { cls := .type "enumerate", data := .fields #[.none, .bool false, .ref s.heap.objs.size, rawInt 0, .none, .none] }) rfl
    rw [hz] at this; exact this
  exact ⟨⟨_, he, rfl⟩, h _ he (Heap.get?_push_of_some _ (Heap.get?_push_size _ B.free)) (by rw [Heap.size_push, hz]) fun b o x => Heap.get?_push_of_some _ (Heap.get?_push_of_some _ x)⟩
end
end PySem
namespace L2
open PySem PySem.Spec PyProof.Rows
/-- the tuple at a, each item in a new pair -/
def IteT (K : PySem.W.Frag) (a : Addr) : It :=
  ⟨fun i H => ∃ (xs : List V) (x : V), SqT K H a xs ∧ xs[i]? = some x, fun i H v H' => ∃ T x, v = .ref T ∧ H T = none ∧ H' = upd H T (.tup [.int (i : Nat), x]) ∧ ∀ xs, SqT K H a xs → xs[i]? = some x, fun i H => ∃ xs : List V, SqT K H a xs ∧ xs.length ≤ i⟩
theorem turn_enumT {P : Program} {w : World} {K : PySem.W.Frag} {elts : List Expr} {kk : Nat} {tpos : Pos} (a e it : Addr) :
    Turn P w K (.Tuple elts kk tpos) (IteT K a) [e, it] e (fun i h => (∃ old, IsEnum h e it ((i : Nat) : Int) old) ∧ h.IsTupleIter it a i ∧ e ≠ it ∧ a ≠ it ∧ a ≠ e) where
  mem := by simp
  obj := fun i h st b hb => by
    obtain ⟨⟨old, he⟩, ⟨o, ho, hc, hd⟩, _⟩ := st
    have e' : b = e ∨ b = it := by simpa using hb
    rcases e' with z | z
    · rw [z]; exact ⟨_, he, fun v q => nomatch q⟩
    · rw [z]; exact ⟨o, ho, fun v q => by rw [hd] at q; cases q⟩
  keep := fun i h h' st k => let ⟨⟨old, he⟩, hi, hne⟩ := st; ⟨⟨old, k e (by simp) _ he⟩, hi.at fun o q => k it (by simp) o q, hne⟩
  item := by
    intro X hP hw hK hc i pins s σ H E I hf st hg
    subst hP hw hK
    obtain ⟨⟨old, he⟩, hit, hne, na, nb⟩ := st
    obtain ⟨xs, x, hq, hx⟩ := hg
    obtain ⟨its, rv, p, hz⟩ := I.tuple hq
    obtain ⟨u, hu, ru⟩ := rv.get hx
    have hel : e < s.heap.objs.size := Heap.lt_size he
    have hil : it < s.heap.objs.size := by obtain ⟨_, q, _⟩ := hit; exact Heap.lt_size q
    have hlt : i < its.toArray.size := by have := (List.getElem?_eq_some_iff.mp hu).1; simpa using this
    refine wpAny_pyNext_enum_itemD (Draws.tuple (A := X.A.in1) (show X.A.in1.handled = none from I.ok.hd hc) it a na its.toArray) he ⟨hit, (show s.heap.IsTuple a its.toArray from p)⟩ hlt hne (by simp; exact ⟨hne, fun z => nb z.symm⟩) fun x' h' tk px ho hst hT hsz hk => ?_
    have ex : x' = u := by
      have h2 : its.toArray[i]? = some u := by simpa using hu
      have px' : its.toArray[i]? = some x' := px
      rw [h2] at px'; exact (Option.some.inj px').symm
    subst ex
    refine ⟨_, rfl, wpAny_letOwnedTupleGo_enum (s := { s with heap := h', toks := tk + 1 }) ho fun h'' he' sb => ?_⟩
    have hT2 : h''.get? s.heap.objs.size = some { cls := .type "tuple", data := .seq #[.int i tk, x'] } := (sb.2 _ (Nat.ne_of_gt hel)).trans hT
    have new : ObjOk X.prog X.w (upd H s.heap.objs.size (.tup [.int (i : Nat), x])) h'' s.heap.objs.size (.tup [.int (i : Nat), x]) :=
      ⟨by show 2 ≤ sizeLine; decide, [.int i tk, x'], .cons ⟨_, rfl⟩ (.cons ru .nil), ⟨_, hT2, rfl, _, rfl⟩⟩
    have I1 : Inv X pins σ (upd H s.heap.objs.size (.tup [.int (i : Nat), x])) { s with heap := h'', toks := tk + 1 } :=
      I.turnedNew (ch := [e, it]) (fun b ob hb q => (sb.2 b (fun z => hb (by simp [z]))).trans (hk b ob (fun z => hb (by simp [z])) (fun z => hb (by simp [z])) q)) hf (Nat.le_refl _) new
    refine ⟨.ref s.heap.objs.size, _, I1, rfl, ⟨_, x, rfl, I.hok.fresh (Nat.le_refl _), rfl, fun ys hy => by rw [I.tuple_inj hy hq]; exact hx⟩, ⟨⟨x', ?_⟩, hst.1.at fun o q => (sb.2 it (Ne.symm hne)).trans q, hne, na, nb⟩, fun b hb => ?_⟩
    · have e1 : ((i + 1 : Nat) : Int) = (i : Int) + 1 := by omega
      rw [e1]; exact he'
    · have hb' : b < s.heap.objs.size := by
        have e' : b = e ∨ b = it := by simpa using hb
        rcases e' with z | z
        · rw [z]; exact hel
        · rw [z]; exact hil
      rw [upd_ne (Nat.ne_of_lt hb')]
      exact (hf b hb).1
  done := by
    intro X hP hw hK hc i pins s σ H E I hf st hg
    subst hP hw hK
    obtain ⟨⟨old, he⟩, hit, hne, na, nb⟩ := st
    obtain ⟨xs, hq, hx⟩ := hg
    obtain ⟨its, rv, p, hz⟩ := I.tuple hq
    obtain ⟨f0, f1, f2, f3, f4, f5⟩ := hf it (by simp)
    have hl := rv.length
    have hT : s.TypeIs (.ref e) "enumerate" := ⟨_, he, rfl⟩
    unfold pyNext
    refine wpAny_bind (wpAny_attempt (wpAny_callSpecial?_slot (name := Str.ofString "__next__") hT F.slot_enumerate_next
      (wpAny_call_entry F.slot_enumerate_next hT F.entry_enumerate_next ?_ (F.args_enumerate_next_1 _))))
    show wpAny _ _ (field (.ref e) 2 >>= _) _ _ _
    refine wpAny_bind (wpAny_field he rfl (x := .ref it) rfl ?_)
    refine wpAny_bind (wpAny_nextOf_tuple_end (I.ok.hd hc) hit (show s.heap.IsTuple a its.toArray from p) (by simp; omega) fun h' x he' hx' => ?_)
    obtain ⟨o, ho, hc'⟩ := hx'
    refine wpAny_bind (wpAny_isInstance (T := "StopIteration") (b := true) ⟨o, ho, hc'⟩ isSubtype_stop ?_)
    exact wpAny_pure ⟨rfl, I.turned (t' := s.toks) (fun b o hb q => he' b o hb q) f0 f1 f3 f4 f5⟩
  self := fun A i s Q E st h => let ⟨⟨_, he⟩, _⟩ := st; wpAny_pyIter_enum he h
def iEnumT (K : PySem.W.Frag) (ta : TA) : TI := fun σ H R => ta σ H fun vs H1 => ∃ a xs, vs = [.ref a] ∧ SqT K H1 a xs ∧ R (IteT K a) H1
theorem pi_enumT {X : Cx} {e : Expr} {ta : TA} {p pos tpos : Pos} {elts : List Expr} {kk : Nat} (hg : Gl X "enumerate") (hm : X.mg "enumerate" = none) (ha : PA X [e] ta) (hs : starEach [e] X.env = [(false, eval e X.env)] := by rfl) :
    PI X (.Tuple elts kk tpos) (.Call (.Name "enumerate" p) [e] [] pos) (iEnumT X.K ta) := by
  refine ⟨fun pins s σ H R I h => ?_⟩
  refine Call_ (ld_blt I hg hm boot_enumerate (PyProof.Rows.callWith_type1 (thn (ha.run pos pins s σ H _ I h) fun us s1 ⟨vs, H1, I1, r1, q1⟩ => ?_) hs rfl))
  obtain ⟨a, xs, ex, hq, q⟩ := q1
  subst ex
  cases r1 with
  | cons r rr =>
    cases rr
    cases r
    obtain ⟨its, rv, p', hz⟩ := I1.tuple hq
    have al : a < s1.heap.objs.size := by obtain ⟨o, ho, _⟩ := p'; exact Heap.lt_size ho
    refine enum_begins1 (begins_tuple a its.toArray) (show s1.heap.IsTuple a its.toArray from p') fun h' he hit hsz hk => wpAny_pyIter_enum he ?_
    have I2 : Inv X pins σ H1 { s1 with heap := h' } := I1.kept (t' := s1.toks) hk
    refine ⟨s1.heap.objs.size + 1, [s1.heap.objs.size + 1, s1.heap.objs.size], _, _, H1, rfl, I2, turn_enumT a (s1.heap.objs.size + 1) s1.heap.objs.size, ⟨⟨.none, he⟩, ⟨_, hit, rfl, rfl⟩, Nat.succ_ne_self _, Nat.ne_of_lt al, Nat.ne_of_lt (Nat.lt_succ_of_lt al)⟩, fun b hb => ?_, q⟩
    have e' : b = s1.heap.objs.size + 1 ∨ b = s1.heap.objs.size := by simpa using hb
    have hle : s1.heap.objs.size ≤ b := by
      rcases e' with z | z
      · rw [z]; exact Nat.le_add_right _ _
      · rw [z]; exact Nat.le_refl _
    exact I1.fpOk hle (I1.hok.fresh hle)
end L2

/-! more rules: in, count of data, stars, enumerate of tuples, bits, texts -/
namespace L2
open PySem PySem.Spec PyProof.Rows
def rCntD (K : PySem.W.Frag) : V → List V → Hp → VK → Prop := fun x xs H Q => ∃ (a : Addr) (y : V) (d : PyData) (ds : List PyData), x = V.ref a ∧ xs = [y] ∧ Dp K H (V.ref a) (.list ds) ∧ Dp K H y d ∧ SeqAt.shaped (.list ds) = true ∧ SeqAt.shaped d = true ∧ Q (.int ((ds.countP fun z => PyData.eqv z d : Nat) : Int)) H
theorem mt_cntD {X : Cx} (hu : X.A.units + 65 < cLine) : MtR X "list.count" (rCntD X.K) := by
  intro pins s σ H x xs v us Q I rx rxs h
  obtain ⟨a, y, d, ds, rfl, rfl, hl, hy, sl, sd, q⟩ := h
  cases rx
  cases rxs with
  | cons ry rt =>
    rename_i uy ut
    cases rt
    obtain ⟨bs, r1⟩ := Dp.reads I d y uy hy ry
    have hxs : PyData.canLayAll0 ds = true := SeqAt.canLay_of_shaped sl
    have hroom : X.A.units + 1 + min (PyData.depthAll ds) d.depth < cLine := room_in_shaped sd hu
    cases hl with
    | lst hs ha =>
      obtain ⟨its, rv, ⟨⟨cls, dd, data, sls⟩, n, ho, hc, hdn, hdt⟩, hlen⟩ := I.list hs
      simp only at hc hdt
      subst hc hdt
      obtain ⟨as, h4⟩ := Dp.readsAll I ds _ its ha rv
      have hmap : its.map (SeqAt.readOf s.heap) = ds := SeqAt.readsAll_map ds its as hxs h4
      refine call_meets PySem.F.slot_list_count ⟨_, ho, rfl⟩ PySem.F.entry_list_count (PySem.F.args_list_count_2 _ _)
        (SeqAt.list_countAt a its.toArray n dd sls uy (fun u => PyData.eqv (SeqAt.readOf s.heap u) d)) ⟨ho, SeqAt.items_eqAt (vs := its.toArray) (show ReadsAll s.heap its.toArray.toList ds as from h4) r1 hxs (SeqAt.canLay_of_shaped sd) hroom, ?_⟩
      have e : its.toArray.toList.countP (fun y => PyData.eqv (SeqAt.readOf s.heap y) d) = ds.countP fun y => PyData.eqv y d := by
        rw [← hmap, List.countP_map]; rfl
      rw [e]
      exact ⟨.int _, H, I.tok _, ⟨_, rfl⟩, q⟩
theorem iop_mulW {X : Cx} : OpR X (inplaceOp .Mult) (rI CMulW fun i j => .int (i * j)) := opI fun _ _ _ _ _ _ _ hc q => imul_int q hc.ok
theorem ip_mulW {X : Cx} : PIp X .Mult (rI CMulW fun i j => .int (i * j)) := fun pins s σ H x y v u Q I rx ry h => iop_mulW pins s σ H x y v u Q I rx ry h
end L2
namespace A
open PySem L2
section
variable {G : Cfg}
/-! x in a list of data -/
def oInD : AO G := fun x y cs P => ∃ d p q ps, x = .d d ∧ pd d = some p ∧ asD y cs = some q ∧ pd q = some (.list ps) ∧ SeqAt.shaped p = true ∧ SeqAt.shaped (.list ps) = true ∧ P (.d (.bl (ps.any fun z => PyData.eqv z p))) cs
theorem o_inD : Ro (G := G) (rInD G.K) oInD := fun Φ S σ Ω x y v u P Q R hx hy ⟨d, p, q, ps, e1, e2, e3, e4, s1, s2, h⟩ k => by
  subst e1
  exact ⟨p, ps, VD.dp hx e2, R.asDp hy e3 e4, s1, s2, k _ _ _ Ω h (Wle.refl _) R rfl⟩
/-- xs.count(y) -/
def aCnt (a b : AE G) : AE G := fun S P => a S fun x cs => ∃ q ps, asD x cs = some q ∧ pd q = some (.list ps) ∧ SeqAt.shaped (.list ps) = true ∧ b ⟨S.ρ, cs⟩ fun y cs2 => asD x cs2 = some q ∧ ∃ d p, y = .d d ∧ pd d = some p ∧ SeqAt.shaped p = true ∧ P (.d (.int ((ps.countP fun z => PyData.eqv z p : Nat) : Int))) cs2
theorem r_cnt {ta tb : TE} {a b : AE G} (ha : Re ta a) (hb : Re tb b) : Re (tBM G.K "list" (rCntD G.K) ta (tCons tb tNil)) (aCnt a b) := fun Φ S σ Ω P Q R h k =>
  ha Φ S σ Ω _ _ R h fun x cs v Ω1 ⟨q, ps, e1, e2, s1, h1⟩ w1 R1 v1 => by
    have dp := R1.asDp v1 e1 e2
    refine ⟨?_, ?_⟩
    · cases dp with
      | lst hs ha => exact .inl ⟨rfl, _, hs⟩
    · refine hb Φ ⟨S.ρ, cs⟩ σ Ω1 _ _ R1 h1 fun y cs2 u Ω2 ⟨e3, d, p, ey, e4, s2, h2⟩ w2 R2 v2 => ?_
      subst ey
      have dp2 := R2.asDp (v1.le w2) e3 e2
      cases dp with
      | lst hs ha => exact ⟨_, u, p, ps, rfl, rfl, dp2, VD.dp v2 e4, s1, s2, k _ _ _ Ω2 h2 (w1.trans w2) R2 rfl⟩
/-! n & 1 -/
def oOdd : AO G := fun x y cs P => ∃ n : Nat, x = .d (.int (n : Int)) ∧ y = .d (.int 1) ∧ P (.d (.int ((n % 2 : Nat) : Int))) cs
theorem o_odd : Ro (G := G) (fun x y H Q => ∃ n : Nat, x = .int (n : Int) ∧ y = .int 1 ∧ Q (.int ((n % 2 : Nat) : Int)) H) oOdd := fun Φ S σ Ω x y v u P Q R hx hy ⟨n, e1, e2, h⟩ k => by
  subst e1; subst e2
  exact ⟨n, hx, hy, k _ _ _ Ω h (Wle.refl _) R rfl⟩
/-! xs.extend(ys) -/
def xExt (i : Nat) (a : AE G) : AX G := fun N S => ∃ j es, S.ρ[i]? = some (some (.cel j)) ∧ S.cs[j]? = some (.lst es) ∧ a S fun x cs => ∃ fs ds, x = .d (.lst fs) ∧ cs[j]? = some (.lst ds) ∧ ds.length + fs.length ≤ sizeLine ∧ N.nx ⟨S.ρ, cs.set j (.lst (ds ++ fs))⟩
theorem x_ext {i : Nat} {t : TE} {a : AE G} (ha : Re t a) : Rx (tDrop (tBM G.K "list" rExtend (tVar i) (tCons t tNil))) (xExt i a) := fun Φ S σ Ω N E R ⟨j, es, e, ec, h⟩ kn kr kb kc => by
  obtain ⟨v, e1, p, hp, ev⟩ := R.slots i _ e
  subst ev
  have tl : tyV G.K "list" (.ref p) Ω.H := by
    obtain ⟨_, xs, h1, _⟩ := R.cells j _ p ec hp
    exact .inl ⟨rfl, xs, SqL.of h1⟩
  refine ⟨_, e1, tl, ha Φ S σ Ω _ _ R h fun x cs v Ω1 ⟨fs, ds, e2, hc, hl, h1⟩ w1 R1 v1 => ?_⟩
  subst e2
  obtain ⟨b, ys, rfl, hb, v2⟩ := v1
  obtain ⟨t1, xs, h3, h4⟩ := R1.cells j _ p hc (pre_get w1.2 hp)
  refine ⟨p, b, xs, ys, rfl, rfl, h3, hb.1, by rw [h4.length, v2.length]; exact hl, ?_⟩
  have w2 : Le Ω1.H Ω1.T (upd Ω1.H p (.lst (xs ++ ys))) Ω1.T := le_put (by rw [t1]; intro z; cases z)
  obtain ⟨R2, w3⟩ := R1.write (c := .lst (ds ++ fs)) (pre_get w1.2 hp) t1 (G.ml (xs ++ ys)) ⟨t1, _, upd_same, (h4.app v2).le w2⟩
  exact kn _ _ _ h1 (w1.trans w3) R2
/-! *xs in a display -/
def aStar (a : AE G) (r : AA G) : AA G := fun S P => a S fun x cs => ∃ ds, ((∃ es, x = .d (.tup es) ∧ ds = es) ∨ seqL x cs = some ds) ∧ r ⟨S.ρ, cs⟩ fun xs cs2 => P (ds.map .d ++ xs) cs2
theorem r_star {t : TE} {tr : TA} {a : AE G} {r : AA G} (ha : Re t a) (hr : Ra tr r) : Ra (StX.tStar G.K t tr) (aStar a r) := fun Φ S σ Ω P Q R h k =>
  ha Φ S σ Ω _ _ R h fun x cs v Ω1 ⟨ds, e, h1⟩ w1 R1 v1 => by
    have key : ∃ p ys, v = .ref p ∧ (SqT G.K Ω1.H p ys ∨ SqL G.K Ω1.H p ys) ∧ VDs Ω1.H Ω1.T ds ys := by
      rcases e with ⟨es, e1, e2⟩ | e
      · subst e1; subst e2
        obtain ⟨p, ys, e3, h3, h4⟩ := VD.tupT v1
        exact ⟨p, ys, e3, .inl h3, h4⟩
      · obtain ⟨p, ys, e3, h3, h4⟩ := R1.seqL v1 e
        exact ⟨p, ys, e3, .inr (SqL.of h3), h4⟩
    obtain ⟨p, ys, rfl, hs, vd⟩ := key
    refine ⟨p, ys, rfl, hs, hr Φ ⟨S.ρ, cs⟩ σ Ω1 _ _ R1 h1 fun xs cs2 vs Ω2 h2 w2 R2 v2 => k _ _ _ Ω2 h2 (w1.trans w2) R2 ?_⟩
    have vd2 := vd.le w2.1
    clear h h1 h2 hs e vd
    induction ds generalizing ys with
    | nil => rw [show ys = [] from vd2]; exact v2
    | cons d ds ih =>
      obtain ⟨y, r', rfl, q1, q2⟩ := vd2
      exact ⟨y, r' ++ vs, rfl, q1, ih _ q2⟩
/-! enumerate of a tuple -/
def iEnT (a : AA G) : AI G := fun S P => a S fun xs cs => ∃ ds, xs = [.d (.tup ds)] ∧ P (enumD 0 ds) cs
theorem i_enumT {t : TA} {a : AA G} (ha : Ra t a) : Ri (iEnumT G.K t) (iEnT a) := fun Φ S σ Ω P Q R h k =>
  ha Φ S σ Ω _ _ R h fun xs cs vs Ω1 ⟨ds, e, q⟩ w1 R1 v1 => by
    subst e
    obtain ⟨v, r, rfl, hv, rfl⟩ := v1
    obtain ⟨a, ys, rfl, ha, vs⟩ := hv
    refine ⟨a, ys, rfl, ha.imp (fun h => h.1) id, k _ _ _ Ω1 q w1 R1 fun Ω2 w2 g2 => ?_⟩
    have h2 : SqT G.K Ω2.H a ys := SqT.leT w2.1 ha
    refine ⟨fun i hi => ⟨ys, h2, by rw [vs.length, ← enumD_len (j := 0)]; exact hi⟩, fun i d e => ?_⟩
    rw [enumD_get] at e
    obtain ⟨d0, e0, e1⟩ := Option.map_eq_some_iff.mp e
    subst e1
    obtain ⟨y, hy, vy⟩ := vs.get e0
    refine ⟨⟨ys, y, h2, hy⟩, fun x H' ⟨T, z, e1, hT, e2, e3⟩ => ?_⟩
    subst e1; subst e2
    have := e3 ys h2
    rw [hy] at this
    cases this
    have sm : Same Ω2.H (upd Ω2.H T (.tup [.int (i : Nat), y])) := same_upd hT
    refine ⟨sm, T, _, rfl, .inl ⟨.inl upd_same, ?_⟩, _, _, rfl, ?_, _, _, rfl, (vy.le w2.1).le (le_same sm), rfl⟩
    · exact g2.tn hT
    · show V.int (i : Nat) = V.int ((0 + i : Nat))
      rw [Nat.zero_add]
/-- (i, (a, b)) = a tuple of tuples -/
def gPairG (g h : AG G) : AG G := fun x S P => ∃ d e, x = .d (.tup [d, e]) ∧ g (.d d) S fun S1 => h (.d e) S1 P
theorem g_pairG {is : List Nat} {tg th : TG} {g h : AG G} (hg : Rg is tg g) (hh : Rg is th h) : Rg is (gTup G.K 2 (gCons tg (gCons th gNil))) (gPairG g h) := fun Φ S σ Ω x v P Q R hx ⟨d, e, ex, q⟩ k => by
  subst ex
  obtain ⟨a, xs, ev, ha, vs⟩ := VD.tupT hx
  obtain ⟨y, r, rfl, h1, z, r2, rfl, h2, rfl⟩ := vs
  refine ⟨a, _, ev, ha, rfl, y, [z], rfl, hg Φ S σ Ω (.d d) y _ _ R h1 q fun S1 σ1 Ω1 q1 w1 R1 e1 => ⟨z, [], rfl, hh Φ S1 σ1 Ω1 (.d e) z _ _ R1 (VS.le (x := .d e) w1 h2) q1 fun S2 σ2 Ω2 q2 w2 R2 e2 => ⟨rfl, k S2 σ2 Ω2 q2 (w1.trans w2) R2 (e2.trans e1)⟩⟩⟩
/-! texts, sign by sign -/
def signs (x : Str) : List (D G) := x.cps.toList.map fun c => .str ⟨#[c]⟩
def iS (a : AE G) : AI G := fun S P => a S fun x cs => ∃ s, x = .d (.str s) ∧ P (signs s) cs
theorem i_sgn {t : TE} {a : AE G} (ha : Re t a) : Ri (iStr t) (iS a) := fun Φ S σ Ω P Q R h k =>
  ha Φ S σ Ω _ _ R h fun x cs v Ω1 ⟨z, e, q⟩ w1 R1 v1 => by
    subst e
    cases (show v = .str z from v1)
    refine ⟨z, rfl, k _ _ _ Ω1 q w1 R1 fun Ω2 w2 g2 => ?_⟩
    have wk := walk_str (z := z)
    refine ⟨fun i hi => ?_, fun i d e => ?_⟩
    · unfold signs at hi
      rw [List.length_map, Array.length_toList] at hi
      show z.cps.size ≤ i
      exact hi
    · unfold signs at e
      rw [List.getElem?_map] at e
      obtain ⟨c, hc, e1⟩ := Option.map_eq_some_iff.mp e
      subst e1
      have hc' : z.cps[i]? = some c := by simpa using hc
      have hi : i < z.cps.size := (Array.getElem?_eq_some_iff.mp hc').1
      refine ⟨hi, fun x H' y => ?_⟩
      obtain ⟨e2, c2, h2, e3⟩ := wk.yields i Ω2.H x H' hi True.intro y
      rw [hc'] at h2
      cases h2
      subst e2; subst e3
      exact ⟨fun _ _ z => z, rfl⟩
def oInS : AO G := fun x y cs P => ∃ c z, x = .d (.str ⟨#[c]⟩) ∧ y = .d (.str z) ∧ P (.d (.bl (decide (c ∈ z.cps.toList)))) cs
theorem o_inS : Ro (G := G) (fun x y H Q => ∃ (c : Nat) (z : Str), x = .str ⟨#[c]⟩ ∧ y = .str z ∧ Q (.bl (decide (c ∈ z.cps.toList))) H) oInS := fun Φ S σ Ω x y v u P Q R hx hy ⟨c, z, e1, e2, h⟩ k => by
  subst e1; subst e2
  exact ⟨c, z, hx, hy, k _ _ _ Ω h (Wle.refl _) R rfl⟩
def oAll : AF G := fun xs cs P => ∃ x ds bs, xs = [x] ∧ seqL x cs = some ds ∧ dBls ds = some bs ∧ P (.d (.bl (bs.all id))) cs
theorem o_all : Rc (G := G) (rAll G.K) oAll := fun Φ S σ Ω xs vs P Q R h ⟨x, ds, bs, e, e2, e3, q⟩ k => by
  subst e
  obtain ⟨v, r, rfl, h1, rfl⟩ := h
  obtain ⟨a, ys, ev, ha, v1⟩ := R.seqL h1 e2
  subst ev
  exact ⟨a, bs, rfl, SqL.of (by rw [ha, v1.dBls e3]), k _ _ _ Ω q (Wle.refl _) R rfl⟩
/-! x *= e -/
def xAugM (i : Nat) (a : AE G) : AX G := fun N S => ∃ m, S.ρ[i]? = some (some (.d (.int m))) ∧ a S fun x cs => ∃ n, x = .d (.int n) ∧ CMulW m n ∧ N.nx ⟨S.ρ.set i (some (.d (.int (m * n)))), cs⟩
theorem x_augM {i : Nat} {t : TE} {a : AE G} (ha : Re t a) : Rx (tAug i t (rI CMulW fun i j => .int (i * j))) (xAugM i a) := fun Φ S σ Ω N E R ⟨m, e, h⟩ kn kr kb kc => by
  obtain ⟨v, e1, hv⟩ := R.slots i _ e
  cases (show v = .int m from hv)
  refine ⟨_, e1, ha Φ S σ Ω _ _ R h fun x cs v Ω1 ⟨n, e2, c, h1⟩ w1 R1 v1 => ?_⟩
  subst e2
  cases (show v = .int n from v1)
  exact ⟨m, n, rfl, rfl, c, kn _ _ Ω1 h1 w1 (R1.set rfl)⟩
end
end A

/-! chains, targets from lists, what is never reached -/
namespace L2
open PySem
/-- a method of a class of the text -/
def MtK (P : Program) (w : World) (K : PySem.W.Frag) (mg : Str → Option Value) (base : Heap) (C : Addr) (k : Nat) (m : Str) (ps : List Str) (sp : Sp) : Prop :=
  ∃ (f : Addr) (fd : FuncData), Cls K C ∧ Meth K C m f ∧ FnOk P w K mg base CX0 k f fd ps sp ∧ Binds K fd ps []
/-- .. that is also called by one keyword behind the instance -/
def MtKk (P : Program) (w : World) (K : PySem.W.Frag) (mg : Str → Option Value) (base : Heap) (C : Addr) (k : Nat) (m : Str) (ps : List Str) (sp : Sp) : Prop :=
  ∃ (f : Addr) (fd : FuncData), Cls K C ∧ Meth K C m f ∧ FnOk P w K mg base CX0 k f fd ps sp ∧ Binds K fd ps [] ∧ KBn K fd ps 1 ps.tail (fun us ws => us ++ ws) (fun vs zs => vs ++ zs)
/-- a def below which no text of a thing is being made -/
def DfG (P : Program) (w : World) (K : PySem.W.Frag) (mg : Str → Option Value) (base : Heap) (k : Nat) (x : Str) (ps : List Str) (sp : Sp) : Prop :=
  ∃ (f : Addr) (fd : FuncData), FnG P w K mg base CX0 k f fd ps sp ∧ mg x = some (.ref f) ∧ PySem.W.keepIn K (.ref f) = true ∧ Binds K fd ps []
end L2
namespace A
open PySem L2
section
variable {G : Cfg}
def xNever : AX G := fun _ _ => False
theorem x_never : Rx (G := G) tNever xNever := fun Φ S σ Ω N E R h => h.elim
def aCh (o o' : AO G) (a b c : AE G) : AE G := fun S P => a S fun x cs => b ⟨S.ρ, cs⟩ fun y cs => o x y cs fun z cs => ∃ k, z = .d (.bl k) ∧ if k = true then c ⟨S.ρ, cs⟩ fun u cs => o' y u cs P else P (.d (.bl false)) cs
theorem r_chV {r r' : R2} {o o' : AO G} {ta tb tc : TE} {a b c : AE G} (ho : Ro r o) (ho' : Ro r' o') (ha : Re ta a) (hb : Re tb b) (hc : Re tc c) : Re (tChain r r' ta tb tc) (aCh o o' a b c) := fun Φ S σ Ω P Q R h k =>
  ha Φ S σ Ω _ _ R h fun x cs v Ω1 h1 w1 R1 v1 => hb Φ ⟨S.ρ, cs⟩ σ Ω1 _ _ R1 h1 fun y cs2 u Ω2 h2 w2 R2 v2 =>
    ho Φ ⟨S.ρ, cs2⟩ σ Ω2 x y v u _ _ R2 (v1.le w2) v2 h2 fun z cs3 t Ω3 ⟨b, e, h3⟩ w3 R3 v3 => by
      subst e
      cases (show t = .bl b from v3)
      refine ⟨b, rfl, ?_⟩
      cases b with
      | false => exact iteF (k (.d (.bl false)) _ _ Ω3 (by simpa using h3) ((w1.trans w2).trans w3) R3 rfl)
      | true => exact iteT (hc Φ ⟨S.ρ, cs3⟩ σ Ω3 _ _ R3 (by simpa using h3) fun u4 cs4 t4 Ω4 h4 w4 R4 v4 =>
          ho' Φ ⟨S.ρ, cs4⟩ σ Ω4 y u4 u t4 P Q R4 (v2.le (w3.trans w4)) v4 h4 fun z5 cs5 t5 Ω5 h5 w5 => k z5 cs5 t5 Ω5 h5 (((w1.trans w2).trans w3).trans (w4.trans w5)))
theorem g_lst {js is : List Nat} {n : Nat} (hj : ∀ j, j ∈ js → j ∈ is) (hn : js.length = n) : Rg (G := G) is (gLst G.K n (cNames js)) (gL js) := fun Φ S σ Ω x v P Q R hx ⟨ds, e, g⟩ k => by
  obtain ⟨a, xs, ev, ha, vs⟩ := R.seqL hx e
  have := g_names hj R vs g k
  exact ⟨a, xs, ev, SqL.of ha, by rw [vs.length, ← hn, this.2], this.1⟩
end
end A
namespace B
open PySem L2 A
theorem any_eq {G : Cfg} {c c' : G.κ} : (Cell.any (G := G) c = Cell.any c') ↔ c = c' := ⟨fun e => by cases e; rfl, fun e => by rw [e]⟩
theorem lenB {G : Cfg} {g : G.κ → List (D G) → (D G → G.κ → Prop) → Prop} {n : Nat} (hl : ∀ c ds P, g c ds P → ds.length = n) {vs : List V} {H : Hp} {Q : VK} {E : XK} (h : cB G g vs H Q E) : vs.length = n + 1 := by
  obtain ⟨p, ws, c, ds, T, P, rfl, _, _, _, vd, q, _⟩ := h
  rw [List.length_cons, vd.length, hl _ _ _ q]
theorem lenP {G : Cfg} {g : List (D G) → (D G → Prop) → Prop} {n : Nat} (hl : ∀ ds P, g ds P → ds.length = n) {vs : List V} {H : Hp} {Q : VK} {E : XK} (h : cP G g vs H Q E) : vs.length = n := by
  obtain ⟨ds, T, P, _, vd, q, _⟩ := h
  rw [vd.length, hl _ _ q]
end B

/-! comprehensions by an invariant; powers -/
namespace A
open PySem L2
section
variable {G : Cfg}
def aLcI (is : List Nat) (i : AI G) (g : AG G) (tt : AT G) (te : AE G) : AE G := fun S P => i S fun ds cs => ds.length ≤ sizeLine ∧ ∃ Inv : Nat → List (D G) → Cs G → Prop, Inv 0 [] cs ∧
  (∀ n d acc cs, ds[n]? = some d → Inv n acc cs → g (.d d) ⟨aWipe S.ρ is, cs⟩ fun S1 => tt S1 fun b cs2 => if b = true then te ⟨S1.ρ, cs2⟩ fun y cs3 => ∃ e, y = .d e ∧ Inv (n + 1) (acc ++ [e]) cs3 else Inv (n + 1) acc cs2) ∧
  ∀ acc cs, Inv ds.length acc cs → P (.d (.lst acc)) cs
theorem r_lcI {is : List Nat} {wi : TI} {tg : TG} {tt' : L2.TT} {te' : TE} {i : AI G} {g : AG G} {tt : AT G} {te : AE G} (hi : Ri wi i) (hg : Rg is tg g) (ht : Rt tt' tt) (he : Re te' te) : Re (tLc wi tg tt' te' is) (aLcI is i g tt te) := fun Φ S σ Ω P Q R h k =>
  hi Φ S σ Ω _ _ R h fun ds cs J Ω1 ⟨hz, IV, h1, hstep, hend⟩ w1 R1 it => fun Dd hD => by
    have fD := R1.fresh hD
    obtain ⟨Ra, wa, na⟩ := R1.new hD (G.ml [])
    refine ⟨fun n m H => ∃ cs2 Ω2 acc xs, H = Ω2.H ∧ Wle Ω1 Ω2 ∧ Rel Φ ⟨S.ρ, cs2⟩ σ Ω2 ∧ Ω2.T Dd = some none ∧ Dd ∉ Ω2.ads ∧ Ω2.H Dd = some (.lst xs) ∧ VDs Ω2.H Ω2.T acc xs ∧ acc.length ≤ n ∧ n ≤ ds.length ∧ m = ds.length - n ∧ IV n acc cs2,
      ⟨_, cs, _, [], [], rfl, wa, Ra, mset_same, na, upd_same, rfl, Nat.le_refl _, Nat.zero_le _, rfl, h1⟩, ?_⟩
    rintro n m H2 ⟨cs2, Ω2, acc, xs, rfl, w2, R2, tD, nD, hDx, vacc, hal, hn, rfl, hx⟩
    obtain ⟨i1, i2⟩ := it Ω2 w2 R2.good
    by_cases c : n < ds.length
    · refine .inr ?_
      have e := List.getElem?_eq_getElem c
      obtain ⟨g1, g2⟩ := i2 n _ e
      refine ⟨g1, fun H' => ∃ cs3 Ω3 acc xs, H' = Ω3.H ∧ Wle Ω1 Ω3 ∧ Rel Φ ⟨S.ρ, cs3⟩ σ Ω3 ∧ Ω3.T Dd = some none ∧ Dd ∉ Ω3.ads ∧ Ω3.H Dd = some (.lst xs) ∧ VDs Ω3.H Ω3.T acc xs ∧ acc.length ≤ n + 1 ∧ IV (n + 1) acc cs3,
        fun H' ⟨cs3, Ω3, acc, xs, e1, w3, R3, a1, a2, a3, a4, a5, a6⟩ => ⟨_, by omega, cs3, Ω3, acc, xs, e1, w3, R3, a1, a2, a3, a4, a5, c, rfl, a6⟩, fun x H' y => ?_⟩
      obtain ⟨sm, vd⟩ := g2 x H' y
      have w3 : Wle Ω2 ⟨H', Ω2.T, Ω2.ads⟩ := wle_same sm
      have R3 := R2.same sm
      have hD3 : H' Dd = some (.lst xs) := sm _ _ hDx
      generalize hΩ3 : (⟨H', Ω2.T, Ω2.ads⟩ : Wd G) = Ω3 at w3 R3
      have eH : H' = Ω3.H := by rw [← hΩ3]
      have eT : Ω2.T = Ω3.T := by rw [← hΩ3]
      have eA : Ω2.ads = Ω3.ads := by rw [← hΩ3]
      rw [eH] at hD3 vd ⊢
      rw [eT] at tD vd
      rw [eA] at nD
      have hx := hstep n _ acc cs2 e hx
      have Rw : Rel (Fr.at Ω3) ⟨aWipe S.ρ is, cs2⟩ (wipe σ is) Ω3 := R3.enter.forget (by rw [aWipe_length, wipe_length]; exact R3.sl) fun j d e => by
        obtain ⟨h5, h6⟩ := aWipe_some e
        obtain ⟨v, h7, h8⟩ := R3.slots j d h5
        exact ⟨v, by rw [wipe_out h6]; exact h7, h8⟩
      -- back from the body
      have back : ∀ {S5 : AS G} {σ5 : L2.St} {Ω5 : Wd G}, Wle Ω3 Ω5 → Rel (Fr.at Ω3) S5 σ5 Ω5 → Rel Φ ⟨S.ρ, S5.cs⟩ σ Ω5 ∧ Ω5.T Dd = some none ∧ Dd ∉ Ω5.ads ∧ Ω5.H Dd = some (.lst xs) := fun {S5 σ5 Ω5} w5 R5 => by
        have R6 := R3.leave R5
        obtain ⟨f1, f2⟩ := R5.fr Dd tD nD
        refine ⟨R6.forget R3.sl fun j d e => ?_, f1, fun z => ?_, f2.trans hD3⟩
        · obtain ⟨v, h7, h8⟩ := R3.slots j d e
          exact ⟨v, h7, h8.le w5⟩
        · rcases R5.own Dd z with z | z
          · exact nD z
          · have z' : Ω3.H Dd = none := z
            rw [hD3] at z'; cases z'
      refine hg (Fr.at Ω3) _ (wipe σ is) Ω3 (.d ds[n]) x _ _ Rw vd hx fun S4 σ4 Ω4 h4 w4 R4 e4 => ⟨?_, ?_⟩
      · rw [e4]
        exact wipe_eq (wipe_length _ _) fun j m => wipe_out m
      refine ht (Fr.at Ω3) S4 σ4 Ω4 _ _ R4 h4 fun b cs5 Ω5 h5 w5 R5 => ?_
      cases b with
      | false =>
        obtain ⟨b1, b2, b3, b4⟩ := back (w4.trans w5) R5
        exact iteF ⟨cs5, Ω5, acc, xs, rfl, w2.trans (w3.trans (w4.trans w5)), b1, b2, b3, b4, vacc.le (w3.trans (w4.trans w5)).1, by omega, by simpa using h5⟩
      | true =>
        refine iteT (he (Fr.at Ω3) ⟨S4.ρ, cs5⟩ σ4 Ω5 (fun y cs3 => ∃ e, y = .d e ∧ IV (n + 1) (acc ++ [e]) cs3) _ R5 (by simpa using h5) fun y cs6 v Ω6 h6' w6 R6 v6 => ?_)
        obtain ⟨ed, e6, h6⟩ := h6'
        subst e6
        have w36 := w4.trans (w5.trans w6)
        obtain ⟨b1, b2, b3, b4⟩ := back w36 R6
        have v7 := vacc.le (w3.trans w36).1
        refine ⟨xs, b4, by rw [vacc.length]; omega, ?_⟩
        obtain ⟨R7, w7⟩ := b1.put b2 b3 fD (G.ml (xs ++ [v]))
        exact ⟨cs6, _, acc ++ [ed], xs ++ [v], rfl, (w2.trans w3).trans (w36.trans w7), R7, b2, b3, upd_same, (v7.snoc v6).le w7.1, by rw [List.length_append, List.length_singleton]; omega, h6⟩
    · refine .inl ⟨i1 n (by omega), ?_⟩
      have en : n = ds.length := by omega
      subst en
      have hx := hend acc cs2 hx
      obtain ⟨R4, w4⟩ := R2.still tD nD fD
      exact k (.d (.lst acc)) cs2 (.ref Dd) ⟨Ω2.H, mset Ω2.T Dd none, Ω2.ads⟩ hx (w1.trans (w2.trans w4)) R4 ⟨Dd, xs, rfl, ⟨hDx, mset_same⟩, vacc.le w4.1⟩
theorem o_powW : Ro (G := G) (rI CPowW fun i j => .int (i ^ j.toNat)) (oI CPowW fun i j => .int (i ^ j.toNat)) := o_I fun _ _ _ _ => rfl
end
theorem p40 : CPowW 10 40 := powW_of (n := 4) (m := 40) (by decide) rfl (by decide)
theorem p20 : CPowW 10 20 := powW_of (n := 4) (m := 20) (by decide) rfl (by decide)
end A

namespace B
open PySem L2 MK Hop A
/-! lists of numbers as the library's data -/
theorem atI_last {α : Type} {xs : List α} {x : α} (h0 : 0 < xs.length) (h : xs[xs.length - 1]? = some x) : atI xs (-1) = some x := by
  unfold atI ixN
  rw [if_neg (by decide), if_pos (by omega)]
  show xs[((-1 : Int) + (xs.length : Int)).toNat]? = some x
  rw [show ((-1 : Int) + (xs.length : Int)).toNat = xs.length - 1 by omega]
  exact h
def pdN (ns : List Nat) : PyData := .list (ns.map fun (n : Nat) => PyData.int (n : Int))
section
variable {G : Cfg}
theorem pd_n {ns : List Nat} : pd (.lst (ns.map nI) : D G) = some (pdN ns) := pd_lst (pds_map (fun _ => by unfold nI pd; rfl) ns)
theorem sh_n {ns : List Nat} : SeqAt.shaped (pdN ns) = true := by
  unfold SeqAt.shaped
  rw [Bool.and_eq_true_iff]
  refine ⟨canLayAll_of (fun _ => rfl) ns, decide_eq_true ?_⟩
  have : PyData.depthAll (ns.map fun (n : Nat) => PyData.int (n : Int)) ≤ 0 := depthAll_le (d := fun n : Nat => PyData.int (n : Int)) (k := 0) (fun x => by show 0 ≤ 0; exact Nat.le_refl _) ns
  show PyData.depthAll (ns.map fun (n : Nat) => PyData.int (n : Int)) + 1 ≤ 64
  omega
/-- xs != [] -/
theorem neNil {ns : List Nat} {cs : Cs G} {P : SV G → Cs G → Prop} (h : P (.d (.bl (!ns.isEmpty))) cs) : oEqD true (.d (.lst (ns.map nI))) (.d (.lst [])) cs P := by
  refine ⟨_, _, pdN ns, .list [], rfl, rfl, pd_n, pd_lst rfl, sh_n, by decide +kernel, ?_⟩
  have : (pdN ns).eqv (.list []) = ns.isEmpty := by cases ns <;> rfl
  rw [this]
  exact h
end
end B

/-! repr of None and ints -/
namespace L2
open PySem PySem.Spec PyProof.Rows
theorem call_reprN {X : Cx} : CallR X (.builtin "repr") (fun xs H Q => (∃ i, xs = [.int i] ∧ i.natAbs.log2 < 1920 ∧ Q (.str (toString i)) H) ∨ (xs = [.non] ∧ Q (.str "None") H)) := by
  intro pins s σ H xs us Q I r h
  rcases h with h | ⟨rfl, q⟩
  · exact SkE.call_repr_int pins s σ H xs us Q I r h
  · obtain ⟨u, rfl, e⟩ := vals1 r
    cases (show u = Value.none from e)
    exact PySem.P.repr_of_none ⟨.str _, H, I.tok _, ⟨_, rfl⟩, q⟩
end L2
namespace A
open PySem L2
section
variable {G : Cfg}
def oReprN : AF G := fun xs cs P => (∃ i, xs = [.d (.int i)] ∧ i.natAbs.log2 < 1920 ∧ P (.d (.str (toString i))) cs) ∨ (xs = [.d .non] ∧ P (.d (.str "None")) cs)
theorem o_reprN : Rc (G := G) (fun xs H Q => (∃ i, xs = [.int i] ∧ i.natAbs.log2 < 1920 ∧ Q (.str (toString i)) H) ∨ (xs = [.non] ∧ Q (.str "None") H)) oReprN := fun Φ S σ Ω xs vs P Q R h hh k => by
  rcases hh with ⟨i, e, hz, q⟩ | ⟨e, q⟩
  · subst e
    obtain ⟨v, r, rfl, h1, rfl⟩ := h
    cases (show v = .int i from h1)
    exact .inl ⟨i, rfl, hz, k _ _ _ Ω q (Wle.refl _) R rfl⟩
  · subst e
    obtain ⟨v, r, rfl, h1, rfl⟩ := h
    cases (show v = .non from h1)
    exact .inr ⟨rfl, k _ _ _ Ω q (Wle.refl _) R rfl⟩
theorem x_par3 {i j l : Nat} {t : TA} {a : AA G} (ha : Ra t a) : Rx (tPar3 i j l t) (xPar3 i j l a) := fun Φ S σ Ω N E R h kn kr kb kc =>
  ha Φ S σ Ω _ _ R h fun xs cs vs Ω1 ⟨x, y, z, e, h1⟩ w1 R1 v1 => by
    subst e
    obtain ⟨v, r, rfl, hv, u, r2, rfl, hu, w, r3, rfl, hw, rfl⟩ := v1
    exact ⟨v, u, w, rfl, kn _ _ Ω1 h1 w1 (((R1.set hv).set hu).set hw)⟩
end
end A

/-! exceptions as values: made, asked for their class, read -/
namespace PySem.HandSPX
open PySem Builtin Builtin.ObjectAttr
section
variable {M : Model} {A : Around} {E : Value → Shared → Prop} {h : Heap} {g : Array GenState} {d : Drawn} {t : Nat} {os : OsState}
variable {nm q : Str} {C N : Addr} {bs bm bmB : List Value} {hdct : Bool} {sn : List Str} {sub : List Value} {ab : Bool} {col : Option Bool} {dd : Option Addr} {k0 k1 k2 k3 k5 : Option Value} {B newId initId : String}
theorem check_new_kw (F : ExcBaseFacts B newId initId bmB) (hT : ∀ X : String, bm.contains (.type X) = bmB.contains (.type X)) {kw : List (Str × Value)} {Q : Unit → Shared → Prop}
    (hC : h.get? C = some (excClassObj nm q C N bs bm hdct sn sub ab col dd k0 k1 k2 k3 k5 newId)) (hq : Q () ⟨h, g, d, t, os⟩) : wpAny M A (checkBuiltinCall newId ⟨[.ref C], kw⟩) Q E ⟨h, g, d, t, os⟩ := by
  have hcont : (Value.ref C :: bm).contains (.type B) = true := by rw [List.contains_cons, hT, F.hasB, Bool.or_true]
  have hstar := F.noStar
  simp only [checkBuiltinCall, F.newKind, F.newSplit, F.newRow]
  repeat (first | refine wpAny_loadPart_at hC ?_ | (refine wpAny_isSubtype_exc hC ?_; rw [hcont]) | refine wpAny_staticBase_exc hC ?_ | refine wpAny_madeBy_exc hC ?_ | simp only [bne_self_eq_false, Bool.false_eq_true, if_false] | wp_step)
  exact hq
end
section
variable {prog : Program} {w : World} {A : Around} {E : Value → Shared → Prop} {R : Result → Shared → Prop} {h : Heap} {g : Array GenState} {d : Drawn} {t : Nat} {os : OsState}
variable {nm q : Str} {C N : Addr} {bs bm bmB : List Value} {hdct : Bool} {sn : List Str} {sub : List Value} {ab : Bool} {col : Option Bool} {dd : Option Addr} {k0 k1 k2 k3 k5 : Option Value} {B newId initId : String}
theorem new_kw (F : ExcBaseFacts B newId initId bmB) (hT : ∀ X : String, bm.contains (.type X) = bmB.contains (.type X)) {kw : List (Str × Value)}
    (hC : h.get? C = some (excClassObj nm q C N bs bm hdct sn sub ab col dd k0 k1 k2 k3 k5 newId))
    (hq : R (.ok (.ret (.ref (h.objs.size + 1)))) ⟨(h.push { cls := .type "tuple", data := .seq [].toArray }).push
      { cls := .ref C, data := .fields #[.ref h.objs.size, .none, .none, .none, .bool false, .none] }, g, d, t, os⟩) :
    codeAny (model prog w) A (.builtin newId ⟨[.ref C], kw⟩) R ⟨h, g, d, t, os⟩ := by
  have hends := F.ends
  have hrest : ([] : List Value).length ≤ sizeLine := Nat.zero_le _
  have hcB : (Value.ref C :: bm).contains (.type B) = true := by rw [List.contains_cons, hT, F.hasB, Bool.or_true]
  have hcA : (Value.ref C :: bm).contains (.type "AttributeError") = false := by rw [List.contains_cons, hT, F.noAttr]; rfl
  have hcN : (Value.ref C :: bm).contains (.type "NameError") = false := by rw [List.contains_cons, hT, F.noName]; rfl
  refine codeAny_builtinAt F.entry ?_
  unfold Builtin.«BaseException.__new__»
  refine wpAt_bind ?_
  show wpAt _ _ _ (stack >>= _) _ _ _
  refine wpAt_bind (wpAt_stack fun p below => wpAt_of_wpAny ?_)
  wp_walk
  refine wpAt_of_wpAny ?_
  rw [F.owner]
  repeat (first | with_reducible refine wpAny_madeHere_exc F.canon hC ?_ | with_reducible refine wpAny_loadPart_at hC ?_ | (with_reducible refine wpAny_isSubtype_exc hC ?_; first | rw [hcB] | rw [hcA] | rw [hcN]) | wp_step)
  show R _ _
  rw [Heap.size_push]
  exact hq
end
end PySem.HandSPX
namespace PySem.HandSPX
open PySem Builtin Builtin.ObjectAttr
section
variable {prog : Program} {w : World} {A : Around} {E : Value → Shared → Prop} {R : Result → Shared → Prop} {h : Heap} {g : Array GenState} {d : Drawn} {t : Nat} {os : OsState}
variable {nm q : Str} {C N : Addr} {bs bm bmB : List Value} {hdct : Bool} {sn : List Str} {sub : List Value} {ab : Bool} {col : Option Bool} {dd : Option Addr} {k0 k1 k2 k3 k5 : Option Value} {B newId initId : String}
theorem type_call_kw (F : ExcBaseFacts B newId initId bmB) (hT : ∀ X : String, bm.contains (.type X) = bmB.contains (.type X)) {kw : List (Str × Value)} {fI : Addr} {Q : Fin → Shared → Prop}
    (hC : h.get? C = some (excClassObj nm q C N bs bm hdct sn sub ab col dd k0 k1 k2 k3 k5 newId))
    (hi : W.Looks (model prog w) h (typeLookup (.ref C) "__init__") (some (.ref fI))) (hb : ∀ self, W.Looks (model prog w) h (bindSpecial (.ref fI) self) (.ref fI, [self]))
    (hq : codeAny (model prog w) A (.call (.ref fI) ⟨[.ref (h.objs.size + 1)], kw⟩)
      (fun r s' => match r with | .ok (.ret v) => v = .none ∧ Q (.done (.ret (.ref (h.objs.size + 1)))) s' | .ok _ => False | .error e => E e s')
      ⟨(h.push (W.kdv_tup [])).push (excO C h.objs.size), g, d, t, os⟩) :
    wpAny (model prog w) A (Builtin.«type.__call__» ⟨[.ref C], kw⟩) Q E ⟨h, g, d, t, os⟩ := by
  repeat (first | with_reducible refine wpAny_loadPart_at hC ?_ | with_reducible refine wpAny_madeBy_exc hC ?_ | wp_step)
  refine codeAny_call_builtin_code (Code.quiet_builtin _ F.quiet) (check_new_kw F hT hC ?_)
  refine new_kw F hT hC ?_
  show wpAny _ _ _ _ _ _
  have k : ∀ b o, h.get? b = some o → ((h.push (W.kdv_tup [])).push (excO C h.objs.size)).get? b = some o := fun b o e => Heap.get?_push_of_some _ (Heap.get?_push_of_some _ e)
  have hC₁ := k _ _ hC
  have hget : ((h.push (W.kdv_tup [])).push (excO C h.objs.size)).get? (h.objs.size + 1) = some (excO C h.objs.size) := by heap_get
  have hcC : (Value.ref C :: bm).contains (.ref C) = true := by simp
  have i1 := hi.keeps k
  have b1 := (hb (.ref (h.objs.size + 1))).keeps k
  unfold isInstance
  repeat (first | with_reducible refine wpAny_loadPart_at hget ?_ | (with_reducible refine wpAny_isSubtype_exc hC₁ ?_; rw [hcC]) | wp_step)
  show wpAny _ _ (typeLookup (.ref C) _) _ _ _
  refine i1.at ?_
  refine wpAny_holding (wpAny_bind (b1.at ?_))
  refine wpAny_bind (wpAny_call (codeAny_mono hq fun r s' z => ?_))
  rcases r with e | (v | _ | _ | _) <;> first | exact z | exact z.elim | skip
  obtain ⟨rfl, z⟩ := z
  first
    | exact wpAny_pure (wpAny_pure z)
    | (wp_walk; exact z)
theorem call_kw (F : ExcBaseFacts B newId initId bmB) (hT : ∀ X : String, bm.contains (.type X) = bmB.contains (.type X)) {kw : List (Str × Value)} {fI : Addr}
    (hC : h.get? C = some (excClassObj nm q C N bs bm hdct sn sub ab col dd k0 k1 k2 k3 k5 newId))
    (hi : W.Looks (model prog w) h (typeLookup (.ref C) "__init__") (some (.ref fI))) (hb : ∀ self, W.Looks (model prog w) h (bindSpecial (.ref fI) self) (.ref fI, [self]))
    (hq : codeAny (model prog w) (A.under (.builtin "type.__call__" ⟨[.ref C], kw⟩)) (.call (.ref fI) ⟨[.ref (h.objs.size + 1)], kw⟩) (W.InitBack (h.objs.size + 1) R)
      ⟨(h.push (W.kdv_tup [])).push (excO C h.objs.size), g, d, t, os⟩) :
    codeAny (model prog w) A (.call (.ref C) ⟨[], kw⟩) R ⟨h, g, d, t, os⟩ := by
  have f1 := tc_lookup
  have f2 := tc_bind (.ref C)
  have hTy : (⟨h, g, d, t, os⟩ : Shared).TypeIs (.ref C) "type" := ⟨_, hC, rfl⟩
  refine codeAny_of_tree ?_
  show wpAny _ _ (callAny (.ref C) _) _ _ _
  repeat (any_goals (first | assumption | with_reducible refine wpAny_loadPart_at hC ?_ | wp_step))
  refine ⟨rfl, ?_⟩
  refine codeAny_call_builtin_at (Code.quiet_builtin _ (by decide +kernel)) entry_typeCall (wpAny_check_type_call_sub hC (type_call_kw F hT hC hi hb ?_))
  refine codeAny_mono hq fun r s' z => ?_
  rcases r with e | (v | _ | _ | _) <;> exact z
end
end PySem.HandSPX

namespace L2
open PySem PySem.Spec PyProof.Rows
section
variable {X : Cx} {pins : List (Addr × Obj)} {σ : St} {H : Hp} {s : Shared} {a C dx fI : Addr} {f x n : Str} {y : V} {k : Nat} {fd : FuncData} {ps ks : List Str} {sp : Sp} {CX : CXT} {e : Expr} {es : List Expr} {te : TE} {ta : TA} {p pos : Pos} {kws : List Keyword} {g : List Value → List Value → List Value} {gV : List V → List V → List V}
/-- C(e, ..), an exception, as a value -/
def tOex (C : Addr) (sp : Sp) (t : TA) : TE := fun σ H Q => t σ H fun vs H1 => vs.length ≤ 1000 ∧ ∀ a, H1 a = none → sp (.ref a :: vs) (upd H1 a (exo a C none)) (fun v H2 => v = .non ∧ Q (.ref a) H2) (fun _ _ _ => False)
def tOexK (C : Addr) (sp : Sp) (m : Nat) (t : TA) : TE := fun σ H Q => t σ H fun vs H1 => vs.length = m ∧ ∀ a, H1 a = none → sp (.ref a :: vs) (upd H1 a (exo a C none)) (fun v H2 => v = .non ∧ Q (.ref a) H2) (fun _ _ _ => False)
theorem pe_oex (T : OexC X.K C) (iC : PySem.W.findIn X.K (.ref C) "__init__" = some (some (.ref fI))) (tI : PySem.W.typeIn X.K (.ref fI) = some (.type "function"))
    (F1 : FnOk X.prog X.w X.K X.mg X.base CX k fI fd ps sp) (hr : Room (k + 1) X.A) (hb : Binds X.K fd ps []) (hx : Passes CX X (fun _ _ _ => False)) (hg : Gl X x) (hm : X.mg x = some (.ref C)) (ha : PA X (e :: es) ta)
    (hdb : (x == ("__debug__" : Str)) = false := by decide) (he : starEach (e :: es) X.env = (false, eval e X.env) :: starEach es X.env := by rfl) (hpl : (backTo pos (starEach es X.env)).any (·.1) = false := by rfl) :
    PE X (.Call (.Name x p) (e :: es) [] pos) (tOex C sp ta) := by
  refine ⟨fun pins s σ H Q I h => ?_⟩
  obtain ⟨nm, q, N, bs, bm, sn, sub, ab, col, dd, k0, k1, k2, k3, k5, hC, hbm⟩ := T.cls
  refine wpAny_Call_Name_kw (ld_glob I hg hm ?_ hdb)
  refine PySem.W.callWith_K (h₀ := X.base) I.ok.mod.kin T.kC (thn (ha.run pos pins s σ H _ I h) fun us s1 ⟨vs, H1, I1, r1, hz, q1⟩ => ⟨I1.kIn, ?_⟩) he hpl
  show wpAny _ _ (call (.ref C) us) _ _ _
  obtain ⟨hp, g, dr, tk, os⟩ := s1
  have hsz : hp.objs.size ≤ hp.objs.size + 1 := Nat.le_succ _
  have hn : H1 (hp.objs.size + 1) = none := I1.hok.fresh hsz
  have hq := q1 (hp.objs.size + 1) hn
  have kk : ∀ b o, hp.get? b = some o → ((hp.push (PySem.W.kdv_tup us)).push (PySem.HandSPX.excO C hp.objs.size)).get? b = some o := fun b o e => Heap.get?_push_of_some _ (Heap.get?_push_of_some _ e)
  have hget : ((hp.push (PySem.W.kdv_tup us)).push (PySem.HandSPX.excO C hp.objs.size)).get? (hp.objs.size + 1) = some (PySem.HandSPX.excO C hp.objs.size) := by heap_get
  have I2 : Inv X pins σ (upd H1 (hp.objs.size + 1) (exo (hp.objs.size + 1) C none)) ⟨(hp.push (PySem.W.kdv_tup us)).push (PySem.HandSPX.excO C hp.objs.size), g, dr, tk, os⟩ :=
    I1.laid (t' := tk) (a := hp.objs.size + 1) (o := exo (hp.objs.size + 1) C none) (h' := (hp.push (PySem.W.kdv_tup us)).push (PySem.HandSPX.excO C hp.objs.size)) kk hsz (exo_ok hget)
  have r2 : Vals (V.ref (hp.objs.size + 1) :: vs) (Value.ref (hp.objs.size + 1) :: us) := .cons rfl r1
  have hl : (Value.ref (hp.objs.size + 1) :: us).length = ps.length := by
    have e := r2.length
    rw [F1.len _ _ _ _ hq] at e
    exact e.symm
  have hus : us.length ≤ sizeLine := by
    rw [← Paired.length r1, sizeLine_eq]
    omega
  have b0 := hb ⟨(hp.push (PySem.W.kdv_tup us)).push (PySem.HandSPX.excO C hp.objs.size), g, dr, tk, os⟩ (Value.ref (hp.objs.size + 1) :: us) I2.kIn (by rw [List.append_nil]; exact hl)
  rw [List.append_nil] at b0
  refine wpAny_call (PySem.HandSPX.call_own F.excBase_ValueError (fun Y => PySem.HandSPX.refsVE_contains Y bm hbm) (I1.kIn _ _ hC) (PySem.W.looks_findIn I1.kIn iC) (fun self => PySem.W.bind_fn I1.kIn self tI) hus
    (codeAny_mono (F1.run _ X.stack _ _ ⟨Value.ref (hp.objs.size + 1) :: us, []⟩ (Value.ref (hp.objs.size + 1) :: us) _ _ (fun _ _ _ => False) (hr.make C us []) (I2.env0.make C us []) b0 r2 hq) fun r s' hq' => ?_))
  cases r with
  | error er => exact hx pins σ _ _ er s' I2 hq'
  | ok fl =>
    cases fl with
    | ret u =>
      obtain ⟨v, H2, I3, rv, ev, q2⟩ := I2.after hq'
      subst ev
      exact ⟨rv, V.ref (hp.objs.size + 1), H2, I3, rfl, q2⟩
    | next => exact False.elim hq'
    | brk => exact False.elim hq'
    | cont => exact False.elim hq'
theorem pe_oexK (T : OexC X.K C) (iC : PySem.W.findIn X.K (.ref C) "__init__" = some (some (.ref fI))) (tI : PySem.W.typeIn X.K (.ref fI) = some (.type "function"))
    (F1 : FnOk X.prog X.w X.K X.mg X.base CX k fI fd ps sp) (hr : Room (k + 1) X.A) (hb : KBn X.K fd ps 1 ks (fun us ws => us ++ ws) (fun vs zs => vs ++ zs)) (hx : Passes CX X (fun _ _ _ => False)) (hg : Gl X x) (hm : X.mg x = some (.ref C)) (hkw : PK X kws ta)
    (hall : (backToKw pos (keywordEach kws X.env)).all (·.1.isSome) = true := by rfl) (hks : (backToKw pos (keywordEach kws X.env)).filterMap (·.1) = ks := by rfl)
    (hdb : (x == ("__debug__" : Str)) = false := by decide) (hpl : ((backTo pos (starEach [] X.env)).any (·.1) || (backToKw pos (keywordEach kws X.env)).any (·.1.isNone)) = false := by rfl) :
    PE X (.Call (.Name x p) [] kws pos) (tOexK C sp ks.length ta) := by
  refine ⟨fun pins s σ H Q I h => ?_⟩
  obtain ⟨nm, q, N, bs, bm, sn, sub, ab, col, dd, k0, k1, k2, k3, k5, hC, hbm⟩ := T.cls
  refine wpAny_Call_Name_kw (ld_glob I hg hm ?_ hdb)
  refine PySem.W.callWith_KW0 (h₀ := X.base) I.ok.mod.kin T.kC hall ?_ hpl
  refine thn (hkw.run pos pins s σ H _ I h) fun us s1 ⟨vs, H1, I1, r1, hz, q1⟩ => ⟨I1.kIn, ?_⟩
  rw [hks]
  show wpAny _ _ (call (.ref C) [] (ks.zip us)) _ _ _
  obtain ⟨hp, g, dr, tk, os⟩ := s1
  have hsz : hp.objs.size ≤ hp.objs.size + 1 := Nat.le_succ _
  have hn : H1 (hp.objs.size + 1) = none := I1.hok.fresh hsz
  have hq := q1 (hp.objs.size + 1) hn
  have kk : ∀ b o, hp.get? b = some o → ((hp.push (PySem.W.kdv_tup [])).push (PySem.HandSPX.excO C hp.objs.size)).get? b = some o := fun b o e => Heap.get?_push_of_some _ (Heap.get?_push_of_some _ e)
  have hget : ((hp.push (PySem.W.kdv_tup [])).push (PySem.HandSPX.excO C hp.objs.size)).get? (hp.objs.size + 1) = some (PySem.HandSPX.excO C hp.objs.size) := by heap_get
  have I2 : Inv X pins σ (upd H1 (hp.objs.size + 1) (exo (hp.objs.size + 1) C none)) ⟨(hp.push (PySem.W.kdv_tup [])).push (PySem.HandSPX.excO C hp.objs.size), g, dr, tk, os⟩ :=
    I1.laid (t' := tk) (a := hp.objs.size + 1) (o := exo (hp.objs.size + 1) C none) (h' := (hp.push (PySem.W.kdv_tup [])).push (PySem.HandSPX.excO C hp.objs.size)) kk hsz (exo_ok hget)
  have r2 : Vals (V.ref (hp.objs.size + 1) :: vs) (Value.ref (hp.objs.size + 1) :: us) := .cons rfl r1
  have b0 := hb.to ⟨(hp.push (PySem.W.kdv_tup [])).push (PySem.HandSPX.excO C hp.objs.size), g, dr, tk, os⟩ [Value.ref (hp.objs.size + 1)] us I2.kIn rfl (r1.length.symm.trans hz)
  refine wpAny_call (PySem.HandSPX.call_kw F.excBase_ValueError (fun Y => PySem.HandSPX.refsVE_contains Y bm hbm) (I1.kIn _ _ hC) (PySem.W.looks_findIn I1.kIn iC) (fun self => PySem.W.bind_fn I1.kIn self tI)
    (codeAny_mono (F1.run _ X.stack _ _ ⟨[Value.ref (hp.objs.size + 1)], ks.zip us⟩ (Value.ref (hp.objs.size + 1) :: us) _ _ (fun _ _ _ => False) (hr.make C [] (ks.zip us)) (I2.env0.make C [] (ks.zip us)) b0 r2 hq) fun r s' hq' => ?_))
  cases r with
  | error er => exact hx pins σ _ _ er s' I2 hq'
  | ok fl =>
    cases fl with
    | ret u =>
      obtain ⟨v, H2, I3, rv, ev, q2⟩ := I2.after hq'
      subst ev
      exact ⟨rv, V.ref (hp.objs.size + 1), H2, I3, rfl, q2⟩
    | next => exact False.elim hq'
    | brk => exact False.elim hq'
    | cont => exact False.elim hq'
/-- what an exception class must have for isinstance -/
structure ExK (K : PySem.W.Frag) (C : Addr) : Prop where
  xf : XfC K C
  hcl : (PySem.W.clsIn K C).isSome = true
  ha : PySem.W.findIn K (.ref C) "__class__" = some (some (.builtin "object.__class__"))
  hm : PySem.W.mroIn K C (.type "object") = some true
/-- an exception of the class at C -/
def ExAt (H : Hp) (a C : Addr) : Prop := H a = some (ExO (.ref C) a) ∨ ∃ dx fs, H a = some (exo a C (some dx)) ∧ H dx = some (exd dx fs)
theorem ExAt.inst (I : Inv X pins σ H s) (h : ExAt H a C) : ∃ oe od, PySem.W.InstAt s.heap a oe C od := by
  rcases h with h | ⟨dx, fs, h, h2⟩
  · obtain ⟨⟨oe, vs, e, z, d, _⟩, _⟩ := I.hok a _ h
    exact ⟨oe, none, e, z.1, by unfold PySem.W.notCls; rw [d], by rw [z.2]; trivial⟩
  · obtain ⟨t1, e⟩ := exo_at I.hok h
    obtain ⟨mA, hns, _⟩ := exd_at I.hok h2
    obtain ⟨od, ho, _⟩ := lookIn_ns hns
    exact ⟨_, some od, e, rfl, rfl, ho⟩
def rIsiE (K : PySem.W.Frag) : List V → Hp → VK → Prop := fun xs H Q => ∃ (a C : Addr) (c : V) (u : Value) (b : Bool), xs = [.ref a, c] ∧ ExAt H a C ∧ ExK K C ∧ ClsV c u ∧ PySem.W.kitOne K (.ref C) u = some b ∧ Q (.bl b) H
theorem call_isiE (hn : PySem.W.specialIn X.K (.builtin "object.__class__") "__get__" = some (some (.builtin "getset_descriptor.__get__"))) (htk : PySem.W.takesIn X.K (.builtin "object.__class__") = some true) : CallR X (.builtin "isinstance") (rIsiE X.K) := by
  intro pins s σ H xs us Q I r h
  obtain ⟨a, C, c, u, b, rfl, ex, ek, kc, e, q⟩ := h
  obtain ⟨u1, u2, rfl, r1, r2⟩ := vals2 r
  have e2 := kc.eq r2
  subst e2
  cases (show u1 = Value.ref a from r1)
  obtain ⟨oe, od, J⟩ := ex.inst I
  exact PySem.W.kia_one (PySem.W.kitx_exc ek.hcl ek.xf.ga ek.xf.gg ek.xf.exC ek.ha hn htk ek.hm) I.kIn J e (fun z => nomatch z) fun tk => ⟨.bl b, H, I.tok tk, rfl, q⟩
/-- e.n of an exception that is held -/
def tXfO (K : PySem.W.Frag) (n : Str) (te : TE) : TE := fun σ H Q => te σ H fun x H1 => ∃ (a C dx : Addr) (fs : List (Str × V)) (v : V), x = .ref a ∧ H1 a = some (exo a C (some dx)) ∧ H1 dx = some (exd dx fs) ∧ XfC K C ∧ PySem.W.findIn K (.ref C) n = some none ∧ fs.lookup n = some v ∧ Q v H1
theorem pe_xfO (he : PE X e te) (hb : attributeBase e n X.env (eval e X.env) = eval e X.env := by rfl) : PE X (.Attribute e n pos) (tXfO X.K n te) := by
  refine ⟨fun pins s σ H Q I h => ?_⟩
  refine attr_of hb (thn (he.run pins s σ H _ I h) fun u s1 hh => ?_)
  obtain ⟨x, H1, I1, rx, a, C, dx, fs, v, ex, ha, hd, T, hno, l, q⟩ := hh
  subst ex
  obtain rfl : u = Value.ref a := rx
  obtain ⟨t1, e⟩ := exo_at I1.hok ha
  obtain ⟨mA, hns, hr⟩ := exd_at I1.hok hd
  obtain ⟨od, ho, hl⟩ := lookIn_ns hns
  obtain ⟨u, hu, ru⟩ := RelO.some_of (v := v) (o := mA n) (by rw [← l]; exact hr n)
  have J : PySem.W.InstAt s1.heap a _ C (some od) := ⟨e, rfl, rfl, ho⟩
  exact HandSPX.exc_get I1.kIn J T.ga T.gg T.exC (PySem.W.findObj_own T.hdC hno rfl (by rw [hl, hu])) (handed_of ru) ⟨v, H1, I1.tok _, ru, q⟩
/-- repr -/
def rReprX (K : PySem.W.Frag) : List V → Hp → VK → Prop := fun xs H Q => rReprD K xs H Q ∨ (∃ b, xs = [.bl b] ∧ Q (.str (strB b)) H) ∨ ((∃ i, xs = [.int i] ∧ i.natAbs.log2 < 1920 ∧ Q (.str (toString i)) H) ∨ (xs = [.non] ∧ Q (.str "None") H)) ∨ ∃ z, xs = [.str z] ∧ (reprText z).length ≤ sizeLine ∧ Q (.str (reprText z)) H
theorem call_reprX (hg : X.A.guards = some []) (hu : X.A.units + 64 < cLine) : CallR X (.builtin "repr") (rReprX X.K) := by
  intro pins s σ H xs us Q I r h
  rcases h with h | h | h | ⟨z, rfl, hz, q⟩
  · exact call_reprD hg hu pins s σ H xs us Q I r h
  · exact call_reprB pins s σ H xs us Q I r h
  · exact call_reprN pins s σ H xs us Q I r h
  · obtain ⟨u, rfl, e⟩ := vals1 r
    obtain ⟨t, e⟩ := (show ∃ t, u = Value.str z t from e)
    cases e
    exact PySem.P.repr_of_str ⟨.str _, H, I.tok _, ⟨_, rfl⟩, q⟩ hz
end
end L2

namespace A
open PySem L2
section
variable {G : Cfg}
theorem Le.stay {H H' : Hp} {T T' : Mt G} (l : Le H T H' T') {a : Addr} {o : HO} (e : H a = some o) (t : T a = none) : H' a = some o ∧ T' a = none := by
  refine ⟨l.kp _ _ e t, ?_⟩
  cases h : T' a with
  | none => rfl
  | some m =>
    rcases l.tm a (by rw [h]; intro z; cases z) with z | z
    · exact absurd t z
    · rw [z] at e; cases e
/-- an exception of the class at C, without a dict or with one field -/
def exD (C : Addr) (fs : List (Str × D G)) : D G := .ob fun H T v => ∃ a, v = .ref a ∧ T a = none ∧ ((fs = [] ∧ H a = some (ExO (.ref C) a)) ∨ ∃ f d dx x, fs = [(f, d)] ∧ H a = some (exo a C (some dx)) ∧ H dx = some (exd dx [(f, x)]) ∧ T dx = none ∧ VD H T d x)
theorem VD.ex {C : Addr} {fs : List (Str × D G)} {H : Hp} {T : Mt G} {v : V} (h : VD H T (exD C fs) v) : ∃ a, v = .ref a ∧ T a = none ∧ ((fs = [] ∧ H a = some (ExO (.ref C) a)) ∨ ∃ f d dx x, fs = [(f, d)] ∧ H a = some (exo a C (some dx)) ∧ H dx = some (exd dx [(f, x)]) ∧ T dx = none ∧ VD H T d x) := by
  obtain ⟨H0, T0, l, a, e, ta, q⟩ := h
  rcases q with ⟨ef, ha⟩ | ⟨f, d, dx, x, ef, ha, hd, td, vd⟩
  · obtain ⟨h1, h2⟩ := l.stay ha ta
    exact ⟨a, e, h2, .inl ⟨ef, h1⟩⟩
  · obtain ⟨h1, h2⟩ := l.stay ha ta
    obtain ⟨h3, h4⟩ := l.stay hd td
    exact ⟨a, e, h2, .inr ⟨f, d, dx, x, ef, h1, h3, h4, vd.le l⟩⟩
def aExc1 (C : Addr) (a : AE G) : AE G := fun S P => a S fun x cs => P (.d (exD C [])) cs
theorem r_exc1 {C : Addr} {ta : TE} {aa : AE G} (ha : Re ta aa) : Re (fun σ H Q => ta σ H fun _ H1 => ∀ a, H1 a = none → Q (.ref a) (upd H1 a (ExO (.ref C) a))) (aExc1 C aa) := fun Φ S σ Ω P Q R h k =>
  ha Φ S σ Ω _ _ R h fun x cs v Ω1 q w1 R1 v1 => fun a hp => by
    have s : Same Ω1.H (upd Ω1.H a (ExO (.ref C) a)) := same_upd hp
    exact k _ _ (.ref a) ⟨upd Ω1.H a (ExO (.ref C) a), Ω1.T, Ω1.ads⟩ q (w1.trans (wle_same s)) (R1.same s) ⟨_, _, Le.refl _ _, a, rfl, R1.good.tn hp, .inl ⟨rfl, upd_same⟩⟩
/-- an __init__ that stores its argument under one name -/
def spInitE (K : PySem.W.Frag) (f : Str) : Sp := fun vs H Q _ => ∃ (a C : Addr) (v : V), vs = [.ref a, v] ∧ OexC K C ∧ PySem.W.findIn K (.ref C) f = some none ∧ H a = some (exo a C none) ∧ ∀ dx, H dx = none → dx ≠ a → Q .non (upd (upd H dx (exd dx [(f, v)])) a (exo a C (some dx)))
def aOex (C : Addr) (f : Str) (a : AA G) : AE G := fun S P => a S fun xs cs => ∃ d, xs = [.d d] ∧ P (.d (exD C [(f, d)])) cs
theorem oex_go {C : Addr} {f : Str} {Φ : Fr G} {S : AS G} {σ : L2.St} {Ω : Wd G} {d : D G} {x : V} {Q : VK} (T : OexC G.K C) (hno : PySem.W.findIn G.K (.ref C) f = some none) (R : Rel Φ S σ Ω) (v1 : VD Ω.H Ω.T d x)
    (k : ∀ v Ω', Wle Ω Ω' → Rel Φ S σ Ω' → VS Ω' (.d (exD C [(f, d)])) v → Q v Ω'.H) (a : Addr) (hp : Ω.H a = none) : spInitE G.K f [.ref a, x] (upd Ω.H a (exo a C none)) (fun v H2 => v = .non ∧ Q (.ref a) H2) (fun _ _ _ => False) := by
  refine ⟨a, C, x, rfl, T, hno, upd_same, fun dx hn ne => ⟨rfl, ?_⟩⟩
  have hd : Ω.H dx = none := by rw [upd_ne ne] at hn; exact hn
  have s : Same Ω.H (upd (upd (upd Ω.H a (exo a C none)) dx (exd dx [(f, x)])) a (exo a C (some dx))) := fun b o e => by
    rw [upd_ne (fun z => by rw [z, hp] at e; cases e), upd_ne (fun z => by rw [z, hd] at e; cases e), upd_ne (fun z => by rw [z, hp] at e; cases e)]
    exact e
  refine k (.ref a) ⟨_, Ω.T, Ω.ads⟩ (wle_same s) (R.same s) ⟨_, _, Le.refl _ _, a, rfl, R.good.tn hp, .inr ⟨f, d, dx, x, rfl, upd_same, ?_, R.good.tn hd, v1.le (le_same s)⟩⟩
  show upd (upd (upd Ω.H a (exo a C none)) dx (exd dx [(f, x)])) a (exo a C (some dx)) dx = _
  rw [upd_ne ne, upd_same]
theorem r_oex {C : Addr} {f : Str} {t : TA} {aa : AA G} (T : OexC G.K C) (hno : PySem.W.findIn G.K (.ref C) f = some none) (ha : Ra t aa) : Re (tOex C (spInitE G.K f) t) (aOex C f aa) := fun Φ S σ Ω P Q R h k =>
  ha Φ S σ Ω _ _ R h fun xs cs vs Ω1 ⟨d, e, q⟩ w1 R1 v1 => by
    subst e
    obtain ⟨x, r, rfl, h1, rfl⟩ := v1
    exact ⟨by show 1 ≤ 1000; omega, fun a hp => oex_go (S := ⟨S.ρ, cs⟩) T hno R1 h1 (fun v Ω' w R' hv => k _ _ v Ω' q (w1.trans w) R' hv) a hp⟩
theorem r_oexK {C : Addr} {f : Str} {t : TA} {aa : AA G} (T : OexC G.K C) (hno : PySem.W.findIn G.K (.ref C) f = some none) (ha : Ra t aa) : Re (tOexK C (spInitE G.K f) 1 t) (aOex C f aa) := fun Φ S σ Ω P Q R h k =>
  ha Φ S σ Ω _ _ R h fun xs cs vs Ω1 ⟨d, e, q⟩ w1 R1 v1 => by
    subst e
    obtain ⟨x, r, rfl, h1, rfl⟩ := v1
    exact ⟨rfl, fun a hp => oex_go (S := ⟨S.ρ, cs⟩) T hno R1 h1 (fun v Ω' w R' hv => k _ _ v Ω' q (w1.trans w) R' hv) a hp⟩
/-- a class as a value -/
def isCls (d : D G) (u : Value) : Prop := ∀ H T v, VD H T d v → ClsV v u
theorem isCls_own (C : Addr) : isCls (clsD C : D G) (.ref C) := fun H T v h => by rw [h.cls]; exact .own C
theorem isCls_ty (n : String) : isCls (tyN n : D G) (.type n) := fun H T v h => by rw [VD.tyn h]; exact .ty n
def oIsiE (G : Cfg) : AF G := fun xs cs P => ∃ C fs d u b, xs = [.d (exD C fs), .d d] ∧ isCls d u ∧ ExK G.K C ∧ PySem.W.kitOne G.K (.ref C) u = some b ∧ P (.d (.bl b)) cs
theorem o_isiE : Rc (rIsiE G.K) (oIsiE G) := fun Φ S σ Ω xs vs P Q R h ⟨C, fs, d, u, b, e, ic, ek, ko, q⟩ k => by
  subst e
  obtain ⟨v, r, rfl, h1, c, r2, rfl, h2, rfl⟩ := h
  obtain ⟨a, rfl, _, h3⟩ := VD.ex h1
  refine ⟨a, C, c, u, b, rfl, ?_, ek, ic _ _ _ h2, ko, k _ _ _ Ω q (Wle.refl _) R rfl⟩
  rcases h3 with ⟨_, h3⟩ | ⟨f, d', dx, x, _, h3, h4, _⟩
  · exact .inl h3
  · exact .inr ⟨dx, _, h3, h4⟩
/-- e.n of an exception -/
def aXf (n : Str) (a : AE G) : AE G := fun S P => a S fun x cs => ∃ C d, x = .d (exD C [(n, d)]) ∧ XfC G.K C ∧ PySem.W.findIn G.K (.ref C) n = some none ∧ P (.d d) cs
theorem r_xf {n : Str} {t : TE} {a : AE G} (ha : Re t a) : Re (tXfO G.K n t) (aXf n a) := fun Φ S σ Ω P Q R h k =>
  ha Φ S σ Ω _ _ R h fun x cs v Ω1 ⟨C, d, ex, xf, no, q⟩ w1 R1 v1 => by
    subst ex
    obtain ⟨y, rfl, _, h3⟩ := VD.ex v1
    rcases h3 with ⟨z, _⟩ | ⟨f, d', dx, x, e, h3, h4, _, vd⟩
    · cases z
    · cases e
      exact ⟨y, C, dx, _, x, rfl, h3, h4, xf, no, by simp [List.lookup], k _ _ _ Ω1 q w1 R1 vd⟩
/-- repr of anything -/
def reprD : D G → Option Str
  | .non => some "None"
  | .bl b => some (strB b)
  | .int i => if i.natAbs.log2 < 1920 then some (toString i) else none
  | .str z => if (reprText z).length ≤ sizeLine then some (reprText z) else none
  | _ => none
def oReprX : AF G := fun xs cs P => (∃ d t, xs = [.d d] ∧ reprD d = some t ∧ P (.d (.str t)) cs) ∨ oReprD xs cs P
theorem o_reprX : Rc (G := G) (rReprX G.K) oReprX := fun Φ S σ Ω xs vs P Q R h hh k => by
  rcases hh with ⟨d, t, e, et, q⟩ | hh
  · subst e
    obtain ⟨v, r, rfl, h1, rfl⟩ := h
    cases d with
    | non => cases et; cases (show v = .non from h1); exact .inr (.inr (.inl (.inr ⟨rfl, k _ _ _ Ω q (Wle.refl _) R rfl⟩)))
    | bl b => cases et; cases (show v = .bl b from h1); exact .inr (.inl ⟨b, rfl, k _ _ _ Ω q (Wle.refl _) R rfl⟩)
    | int i =>
      have et : (if i.natAbs.log2 < 1920 then some (Str.ofString (toString i)) else none) = some t := et
      by_cases c : i.natAbs.log2 < 1920
      · rw [if_pos c] at et
        cases et; cases (show v = .int i from h1); exact .inr (.inr (.inl (.inl ⟨i, rfl, c, k _ _ _ Ω q (Wle.refl _) R rfl⟩)))
      · rw [if_neg c] at et; cases et
    | str z =>
      have et : (if (reprText z).length ≤ sizeLine then some (reprText z) else none) = some t := et
      by_cases c : (reprText z).length ≤ sizeLine
      · rw [if_pos c] at et
        cases et; cases (show v = .str z from h1); exact .inr (.inr (.inr ⟨z, rfl, c, k _ _ _ Ω q (Wle.refl _) R rfl⟩))
      · rw [if_neg c] at et; cases et
    | _ => cases et
  · exact .inl (o_reprD Φ S σ Ω xs vs P Q R h hh k)
/-- texts -/
def oIxS : AO G := fun x y cs P => ∃ z i c, x = .d (.str z) ∧ y = .d (.int i) ∧ z.length ≤ sizeLine ∧ atI z.cps.toList i = some c ∧ P (.d (.str ⟨#[c]⟩)) cs
theorem o_ixS : Ro (G := G) rIxS oIxS := fun Φ S σ Ω x y v u P Q R hx hy ⟨z, i, c, e1, e2, hz, hc, q⟩ k => by
  subst e1; subst e2
  cases (show v = .str z from hx)
  cases (show u = .int i from hy)
  exact ⟨z, i, c, rfl, rfl, hz, hc, k _ _ _ Ω q (Wle.refl _) R rfl⟩
def oAddS : AO G := fun x y cs P => ∃ i j, x = .d (.str i) ∧ y = .d (.str j) ∧ i.length + j.length ≤ sizeLine ∧ P (.d (.str (i ++ j))) cs
theorem o_addS : Ro (G := G) (fun x y H Q => ∃ i j, x = .str i ∧ y = .str j ∧ i.length + j.length ≤ sizeLine ∧ Q (.str (i ++ j)) H) oAddS := fun Φ S σ Ω x y v u P Q R hx hy ⟨i, j, e1, e2, hz, q⟩ k => by
  subst e1; subst e2
  cases (show v = .str i from hx)
  cases (show u = .str j from hy)
  exact ⟨i, j, rfl, rfl, hz, k _ _ _ Ω q (Wle.refl _) R rfl⟩
def oStrI : AF G := fun xs cs P => ∃ i, xs = [.d (.int i)] ∧ i.natAbs.log2 < 1920 ∧ P (.d (.str (toString i))) cs
theorem o_strI : Rc (G := G) (fun xs H Q => ∃ i, xs = [.int i] ∧ i.natAbs.log2 < 1920 ∧ Q (.str (toString i)) H) oStrI := fun Φ S σ Ω xs vs P Q R h ⟨i, e, hz, q⟩ k => by
  subst e
  obtain ⟨v, r, rfl, h1, rfl⟩ := h
  cases (show v = .int i from h1)
  exact ⟨i, rfl, hz, k _ _ _ Ω q (Wle.refl _) R rfl⟩
theorem vds_strs {H : Hp} {T : Mt G} : ∀ {ys : List Str} {xs : List V}, VDs H T (ys.map D.str) xs → xs = ys.map V.str
  | [], _, e => e
  | y :: ys, _, ⟨x, r, e, h1, h2⟩ => by rw [e, show x = .str y from h1, vds_strs h2]; rfl
def aJoin (a b : AE G) : AE G := fun S P => a S fun x cs => ∃ z, x = .d (.str z) ∧ b ⟨S.ρ, cs⟩ fun y cs => ∃ ys : List Str, seqL y cs = some (ys.map D.str) ∧ (ys.map (·.length)).sum + ys.length * z.length ≤ 16777216 ∧ P (.d (.str (Txt.join z ys))) cs
theorem r_join {ta tb : TE} {a b : AE G} (ha : Re ta a) (hb : Re tb b) : Re (tM1 (fun x xs H Q => ∃ a p, ∃ ys : List Str, x = .str a ∧ xs = [.ref p] ∧ (SqL G.K H p (ys.map V.str) ∨ SqT G.K H p (ys.map V.str)) ∧
      (ys.map (·.length)).sum + ys.length * a.length ≤ 16777216 ∧ Q (.str (Txt.join a ys)) H) ta tb) (aJoin a b) := fun Φ S σ Ω P Q R h k =>
  ha Φ S σ Ω _ _ R h fun x cs v Ω1 ⟨z, e, h1⟩ w1 R1 v1 => by
    subst e
    cases (show v = .str z from v1)
    refine ⟨⟨z, rfl⟩, hb Φ ⟨S.ρ, cs⟩ σ Ω1 _ _ R1 h1 fun y cs2 u Ω2 ⟨ys, e2, hl, q⟩ w2 R2 v2 => ?_⟩
    obtain ⟨p, xs, ev, hp, vs⟩ := R2.seqL v2 e2
    subst ev
    rw [vds_strs vs] at hp
    exact ⟨z, p, ys, rfl, rfl, .inl (SqL.of hp), hl, k _ _ _ Ω2 q (w1.trans w2) R2 rfl⟩
end
end A

namespace A
open PySem L2
abbrev veT : List Value := [.type "ValueError", .type "Exception", .type "BaseException", .type "object"]
/-- an exception class of the program: its name, where it stands, what it stands over -/
structure XC (K : PySem.W.Frag) (mg : Str → Option Value) (bm : List Value) (n : Str) (C : Addr) : Prop where
  lk : ∃ q N bs sn sub ab col dd k0 k1 k2 k3 k5, K.lookup C = some (excClassObj n q C N bs bm true sn sub ab col dd k0 k1 k2 k3 k5 "ValueError.__new__")
  mg : mg n = some (.ref C)
  kp : PySem.W.keepIn K (.ref C) = true
  ga : PySem.W.findIn K (.ref C) "__getattribute__" = some (some (.builtin "BaseException.__getattribute__"))
  gg : PySem.W.findIn K (.ref C) "__getattr__" = some none
  ha : PySem.W.findIn K (.ref C) "__class__" = some (some (.builtin "object.__class__"))
variable {K : PySem.W.Frag} {mg : Str → Option Value} {bm bm2 : List Value} {n m : Str} {C D R : Addr}
theorem XC.mro (x : XC K mg bm n C) (b : Value) : PySem.W.mroIn K C b = some ((Value.ref C :: bm).contains b) := by
  obtain ⟨q, N, bs, sn, sub, ab, col, dd, k0, k1, k2, k3, k5, e⟩ := x.lk
  unfold PySem.W.mroIn PySem.W.clsIn
  rw [e]
  rfl
theorem XC.hcl (x : XC K mg bm n C) : (PySem.W.clsIn K C).isSome = true := by
  obtain ⟨q, N, bs, sn, sub, ab, col, dd, k0, k1, k2, k3, k5, e⟩ := x.lk
  unfold PySem.W.clsIn
  rw [e]
  rfl
theorem XC.ty (x : XC K mg bm n C) : PySem.W.typeIn K (.ref C) = some (.type "type") := by
  obtain ⟨q, N, bs, sn, sub, ab, col, dd, k0, k1, k2, k3, k5, e⟩ := x.lk
  show (K.lookup C).map (fun x => x.cls) = _
  rw [e]
  rfl
theorem XC.dict (x : XC K mg bm n C) : PySem.W.hasDictIn K C = true := by
  obtain ⟨q, N, bs, sn, sub, ab, col, dd, k0, k1, k2, k3, k5, e⟩ := x.lk
  unfold PySem.W.hasDictIn PySem.W.clsIn
  rw [e]
  rfl
theorem XC.ne (x : XC K mg bm n C) (y : XC K mg bm2 m D) (h : n ≠ m) : C ≠ D := fun z => by
  subst z
  have := x.mg
  obtain ⟨q, N, bs, sn, sub, ab, col, dd, k0, k1, k2, k3, k5, e⟩ := x.lk
  obtain ⟨q', N', bs', sn', sub', ab', col', dd', k0', k1', k2', k3', k5', e'⟩ := y.lk
  rw [e] at e'
  have e1 := Option.some.inj e'
  have e2 := congrArg Obj.data e1
  injection e2 with e3
  exact h (congrArg ClassData.name e3)
theorem XC.ek (x : XC K mg bm n C) (h1 : bm.contains (.type "BaseException") = true) (h2 : bm.contains (.type "object") = true) : ExK K C where
  xf := ⟨x.ga, x.gg, by show PySem.W.mroIn K C _ = _; rw [x.mro, List.contains_cons, h1, Bool.or_true], x.dict⟩
  hcl := x.hcl
  ha := x.ha
  hm := by rw [x.mro, List.contains_cons, h2, Bool.or_true]
theorem XC.kit (x : XC K mg bm n C) (y : XC K mg bm2 m D) : PySem.W.kitOne K (.ref C) (.ref D) = some (decide (C = D) || bm.contains (.ref D)) := by
  unfold PySem.W.kitOne
  by_cases c : C = D
  · subst c
    rw [if_pos (by simp), decide_eq_true rfl, Bool.true_or]
  · rw [if_neg (by simpa using c), decide_eq_false c, Bool.false_or]
    show (if ((PySem.W.clsIn K D).isSome && PySem.W.typeIn K (.ref D) == some (.type "type")) = true then PySem.W.mroIn K C (.ref D) else none) = _
    rw [y.hcl, y.ty, if_pos (by decide), x.mro, List.contains_cons]
    have : (Value.ref D == Value.ref C) = false := by simpa using fun z => c z.symm
    rw [this, Bool.false_or]
theorem XC.val (x : XC K mg bm n C) (h : bm.contains (.type "ValueError") = true) : PySem.W.kitOne K (.ref C) (.type "ValueError") = some true := by
  unfold PySem.W.kitOne
  rw [if_neg (by simp)]
  show (if PySem.W.kitMeta "ValueError" = true then PySem.W.mroIn K C (.type "ValueError") else none) = _
  rw [if_pos (by decide +kernel), x.mro, List.contains_cons, h, Bool.or_true]
/-- one whose __init__ stores its argument -/
structure XI (P : Program) (w : World) (K : PySem.W.Frag) (mg : Str → Option Value) (base : Heap) (bm : List Value) (n f : Str) (C fI : Addr) (fd : FuncData) : Prop where
  xc : XC K mg bm n C
  vb : PySem.HandSPX.refsVE bm = true
  sa : PySem.W.findIn K (.ref C) "__setattr__" = some (some (.builtin "object.__setattr__"))
  no : PySem.W.findIn K (.ref C) f = some none
  iC : PySem.W.findIn K (.ref C) "__init__" = some (some (.ref fI))
  tI : PySem.W.typeIn K (.ref fI) = some (.type "function")
  F1 : FnOk P w K mg base CX0 1 fI fd ["self", f] (spInitE K f)
  b : Binds K fd ["self", f] []
  kb : KBn K fd ["self", f] 1 [f] (fun us ws => us ++ ws) (fun vs zs => vs ++ zs)
theorem XI.T {P : Program} {w : World} {base : Heap} {f : Str} {fI : Addr} {fd : FuncData} (x : XI P w K mg base bm n f C fI fd) : OexC K C where
  cls := by
    obtain ⟨q, N, bs, sn, sub, ab, col, dd, k0, k1, k2, k3, k5, e⟩ := x.xc.lk
    exact ⟨n, q, N, bs, bm, sn, sub, ab, col, dd, k0, k1, k2, k3, k5, e, x.vb⟩
  sa := x.sa
  exC := by
    show PySem.W.mroIn K C _ = _
    rw [x.xc.mro, List.contains_cons, PySem.HandSPX.refsVE_contains _ _ x.vb]
    rfl
  tyC := x.xc.ty
  kC := x.xc.kp
theorem Paired.at {α β : Type} {r : α → β → Prop} : ∀ {xs : List α} {ys : List β}, Paired r xs ys → ∀ {i : Nat} {y : β}, ys[i]? = some y → ∃ x, xs[i]? = some x ∧ r x y
  | _, _, .nil, i, y, e => by simp at e
  | _, _, .cons h t, 0, y, e => by simp at e; subst e; exact ⟨_, rfl, h⟩
  | _, _, .cons h t, i + 1, y, e => by simp at e; exact Paired.at t e
end A
namespace B
open PySem L2 MK Hop A
section
variable {P : Program} {w : World} {K : PySem.W.Frag} {mg : Str → Option Value} {base : Heap}
theorem lenI {f : Str} {vs : List V} {H : Hp} {Q : VK} {E : XK} (h : spInitE K f vs H Q E) : vs.length = 2 := by
  obtain ⟨a, C, v, rfl, _⟩ := h; rfl
theorem ok_NoRow_init {fa : Addr} {fd : FuncData} (F : Fun K "__init__" "NoRow.__init__" s_NoRow___init__ fa fd) : FnOk P w K mg base CX0 (0 + 1) fa fd ["self", "index"] (spInitE K "index") := by
  refine F.ok sc_NoRow___init__ (fun vs H Q E h => lenI h) (fun cdv A outer s H vs Q E hr h => ?_)
  refine ⟨_, pss_one (ps_ost (pv 0) (pv 1)), ?_⟩
  obtain ⟨a, C, v, rfl, T, no, ha, q⟩ := h
  exact ⟨_, rfl, _, rfl, a, C, rfl, T, no, .inl ⟨ha, fun dx h1 h2 => q dx h1 h2⟩⟩
theorem ok_NoLook_init {fa : Addr} {fd : FuncData} (F : Fun K "__init__" "NoLook.__init__" s_NoLook___init__ fa fd) : FnOk P w K mg base CX0 (0 + 1) fa fd ["self", "index"] (spInitE K "index") := by
  refine F.ok sc_NoLook___init__ (fun vs H Q E h => lenI h) (fun cdv A outer s H vs Q E hr h => ?_)
  refine ⟨_, pss_one (ps_ost (pv 0) (pv 1)), ?_⟩
  obtain ⟨a, C, v, rfl, T, no, ha, q⟩ := h
  exact ⟨_, rfl, _, rfl, a, C, rfl, T, no, .inl ⟨ha, fun dx h1 h2 => q dx h1 h2⟩⟩
theorem ok_NoText_init {fa : Addr} {fd : FuncData} (F : Fun K "__init__" "NoText.__init__" s_NoText___init__ fa fd) : FnOk P w K mg base CX0 (0 + 1) fa fd ["self", "row"] (spInitE K "row") := by
  refine F.ok sc_NoText___init__ (fun vs H Q E h => lenI h) (fun cdv A outer s H vs Q E hr h => ?_)
  refine ⟨_, pss_one (ps_ost (pv 0) (pv 1)), ?_⟩
  obtain ⟨a, C, v, rfl, T, no, ha, q⟩ := h
  exact ⟨_, rfl, _, rfl, a, C, rfl, T, no, .inl ⟨ha, fun dx h1 h2 => q dx h1 h2⟩⟩
end
end B

namespace B
open PySem L2 MK Hop A
section
variable {G : Cfg} [KW G] {C : Addr} {E : XK}
/-! ### kinds, by what they have -/
theorem VS.kind (kg : KG G C) {Ω : Wd G} {b : Nat} {f : Nat → Bool} {v : V} (h : VS Ω (.d (KD G C b f)) v) : ∃ x, v = .ref x ∧ KindHas G.K C Ω.H x b f := KD.get kg h
/-- n in kind -/
def oInK (C : Addr) : AO G := fun x y cs P => ∃ n b f, x = .d (nI n) ∧ y = .d (KD G C b f) ∧ 0 < n ∧ n < 2 ^ 4000 ∧ P (.d (.bl (f n))) cs
theorem o_inK (kg : KG G C) : Ro (rInOwn C (spHas G.K C) E) (oInK (G := G) C) := fun Φ S σ Ω x y v u P Q R hx hy ⟨n, b, f, e1, e2, h0, h1, q⟩ k => by
  subst e1; subst e2
  cases (show v = .int (n : Int) from hx)
  obtain ⟨a, rfl, kh⟩ := VS.kind kg hy
  obtain ⟨dx, fs, hH, _⟩ := kh.ins
  exact ⟨a, dx, fs, rfl, hH, a, b, f, .int (n : Nat), rfl, kh, .inl ⟨n, rfl, h0, h1, fun H' s => ⟨_, rfl, k _ _ _ ⟨H', Ω.T, Ω.ads⟩ q (wle_same s) (R.same s) rfl⟩⟩⟩
/-- one & two, one | two, one ^ two -/
def oBinK (C : Addr) (t0 t1 t2 : Bool) : AO G := fun x y cs P => ∃ b f g, x = .d (KD G C b f) ∧ y = .d (KD G C b g) ∧ (∀ R1 R2 M1 M2, KMach b R1 M1 f → KMach b R2 M2 g → ¬ TooW b (opOf t0 t1 t2) R1 R2 M1 M2) ∧ P (.d (KD G C b fun n => opOf t0 t1 t2 (f n) (g n))) cs
theorem o_binK (kg : KG G C) {t0 t1 t2 : Bool} : Ro (rBinOwn C (spOp G.K C t0 t1 t2) E) (oBinK (G := G) C t0 t1 t2) := fun Φ S σ Ω x y v u P Q R hx hy ⟨b, f, g, e1, e2, nw, q⟩ k => by
  subst e1; subst e2
  obtain ⟨a, rfl, kh⟩ := VS.kind kg hx
  obtain ⟨a2, rfl, kh2⟩ := VS.kind kg hy
  obtain ⟨dx, fs, hH, _⟩ := kh.ins
  obtain ⟨dx2, fs2, hH2, _⟩ := kh2.ins
  refine ⟨a, a2, dx, dx2, fs, fs2, rfl, rfl, hH, hH2, a, a2, b, f, g, rfl, kh, kh2, nw, fun x H' hx' s kn => ⟨⟨x, rfl⟩, ?_⟩⟩
  obtain ⟨T', l, g', fr, vd⟩ := KD.new R.good s kn
  obtain ⟨R2, w2⟩ := R.after l g' fr
  exact k _ _ _ _ q w2 R2 vd
/-- ~ one -/
def oInvK (C : Addr) : AU G := fun x cs P => ∃ b f, x = .d (KD G C b f) ∧ P (.d (KD G C b fun n => !f n)) cs
theorem o_invK (kg : KG G C) : Ru (rInvOwn C (spInv G.K C) E) (oInvK (G := G) C) := fun Φ S σ Ω x v P Q R hx ⟨b, f, e1, q⟩ k => by
  subst e1
  obtain ⟨a, rfl, kh⟩ := VS.kind kg hx
  obtain ⟨dx, fs, hH, _⟩ := kh.ins
  refine ⟨a, dx, fs, rfl, hH, a, b, f, rfl, kh, fun x H' hx' s kn => ?_⟩
  obtain ⟨T', l, g', fr, vd⟩ := KD.new R.good s kn
  obtain ⟨R2, w2⟩ := R.after l g' fr
  exact k _ _ _ _ q w2 R2 vd
/-- one == two, of the same numbers -/
def oEqK (C : Addr) : AO G := fun x y cs P => ∃ b f g, x = .d (KD G C b f) ∧ y = .d (KD G C b g) ∧ (∀ n, 0 < n → f n = g n) ∧ P (.d (.bl true)) cs
theorem o_eqK (kg : KG G C) : Ro (rEqOwn C (spKeq G.K C) E) (oEqK (G := G) C) := fun Φ S σ Ω x y v u P Q R hx hy ⟨b, f, g, e1, e2, fg, q⟩ k => by
  subst e1; subst e2
  obtain ⟨a, rfl, kh⟩ := VS.kind kg hx
  obtain ⟨a2, rfl, kh2⟩ := VS.kind kg hy
  obtain ⟨dx, fs, hH, _⟩ := kh.ins
  obtain ⟨dx2, fs2, hH2, _⟩ := kh2.ins
  obtain ⟨R1, M1, k1, km1⟩ := kh
  obtain ⟨R2, M2, k2, km2⟩ := kh2
  obtain ⟨eR, eM⟩ := kmach_eq km1 km2 fg
  subst eR; subst eM
  refine ⟨a, a2, dx, dx2, fs, fs2, rfl, rfl, hH, hH2, a, a2, R1, R1, M1, M1, rfl, k1, k2, _, rfl, ?_⟩
  rw [decide_eq_true rfl, decide_eq_true rfl]
  exact k _ _ _ Ω q (Wle.refl _) R rfl
theorem kmach_iff {b b' : Nat} {R1 R2 : List (List Nat)} {M1 M2 : List (Option Bool)} {f g : Nat → Bool} {r : Bool} (k1 : KMach b R1 M1 f) (k2 : KMach b' R2 M2 g) (h : r = true ↔ (b = b' ∧ ∀ n, 0 < n → f n = g n)) : (decide (R1 = R2) && decide (M1 = M2)) = r := by
  cases r with
  | true =>
    obtain ⟨e, fg⟩ := h.mp rfl
    subst e
    obtain ⟨eR, eM⟩ := kmach_eq k1 k2 fg
    rw [decide_eq_true eR, decide_eq_true eM]
    rfl
  | false =>
    cases c : (decide (R1 = R2) && decide (M1 = M2)) with
    | false => rfl
    | true =>
      rw [Bool.and_eq_true_iff] at c
      have eR := of_decide_eq_true c.1
      have eM := of_decide_eq_true c.2
      subst eR; subst eM
      have l1 := k1.canon.wid _ (List.getElem_mem k1.pos)
      have l2 := k2.canon.wid _ (List.getElem_mem k1.pos)
      have e : b = b' := l1.symm.trans l2
      subst e
      have := h.mpr ⟨rfl, fun n hn => by
        have a1 := k1.has n hn
        rw [k2.has n hn] at a1
        exact (Option.some.inj a1).symm⟩
      cases this
/-- one == two, whatever they have -/
def oEqK2 (C : Addr) : AO G := fun x y cs P => ∃ b b' f g r, x = .d (KD G C b f) ∧ y = .d (KD G C b' g) ∧ (r = true ↔ (b = b' ∧ ∀ n, 0 < n → f n = g n)) ∧ P (.d (.bl r)) cs
theorem o_eqK2 (kg : KG G C) : Ro (rEqOwn C (spKeq G.K C) E) (oEqK2 (G := G) C) := fun Φ S σ Ω x y v u P Q R hx hy ⟨b, b', f, g, r, e1, e2, hr, q⟩ k => by
  subst e1; subst e2
  obtain ⟨a, rfl, kh⟩ := VS.kind kg hx
  obtain ⟨a2, rfl, kh2⟩ := VS.kind kg hy
  obtain ⟨dx, fs, hH, _⟩ := kh.ins
  obtain ⟨dx2, fs2, hH2, _⟩ := kh2.ins
  obtain ⟨R1, M1, k1, km1⟩ := kh
  obtain ⟨R2, M2, k2, km2⟩ := kh2
  refine ⟨a, a2, dx, dx2, fs, fs2, rfl, rfl, hH, hH2, a, a2, R1, R2, M1, M2, rfl, k1, k2, _, rfl, ?_⟩
  rw [kmach_iff km1 km2 hr]
  exact k _ _ _ Ω q (Wle.refl _) R rfl
/-- one != two -/
def oNeK2 (C : Addr) : AO G := fun x y cs P => ∃ b b' f g r, x = .d (KD G C b f) ∧ y = .d (KD G C b' g) ∧ (r = true ↔ (b = b' ∧ ∀ n, 0 < n → f n = g n)) ∧ P (.d (.bl (!r))) cs
theorem o_neK2 (kg : KG G C) : Ro (rNeOwn C (spKeq G.K C) E) (oNeK2 (G := G) C) := fun Φ S σ Ω x y v u P Q R hx hy ⟨b, b', f, g, r, e1, e2, hr, q⟩ k => by
  subst e1; subst e2
  obtain ⟨a, rfl, kh⟩ := VS.kind kg hx
  obtain ⟨a2, rfl, kh2⟩ := VS.kind kg hy
  obtain ⟨dx, fs, hH, _⟩ := kh.ins
  obtain ⟨dx2, fs2, hH2, _⟩ := kh2.ins
  obtain ⟨R1, M1, k1, km1⟩ := kh
  obtain ⟨R2, M2, k2, km2⟩ := kh2
  refine ⟨a, a2, dx, dx2, fs, fs2, rfl, rfl, hH, hH2, a, a2, R1, R2, M1, M2, rfl, k1, k2, _, rfl, ?_⟩
  rw [kmach_iff km1 km2 hr]
  exact k _ _ _ Ω q (Wle.refl _) R rfl
/-- kind.base() -/
def aBase (C : Addr) (a : AE G) : AE G := fun S P => a S fun x cs => ∃ b f, x = .d (KD G C b f) ∧ P (.d (nI b)) cs
theorem r_base (kg : KG G C) {t : TE} {a : AE G} (ha : Re t a) : Re (tMeth C "base" (spBase G.K C) [] E t tNil) (aBase C a) := fun Φ S σ Ω P Q R h k =>
  ha Φ S σ Ω _ _ R h fun x cs v Ω1 ⟨b, f, e, q⟩ w1 R1 v1 => by
    subst e
    obtain ⟨a, rfl, kh⟩ := VS.kind kg v1
    obtain ⟨dx, fs, hH, hl⟩ := kh.ins
    exact ⟨a, dx, fs, rfl, hH, hl _ rfl, a, b, f, rfl, kh, k _ _ _ Ω1 q w1 R1 rfl⟩
/-- isinstance(x, Kind), of a kind -/
def oIsiK (C : Addr) : AF G := fun xs cs P => ∃ b f, xs = [.d (KD G C b f), .d (clsD C)] ∧ P (.d (.bl true)) cs
theorem o_isiK (kg : KG G C) (kc : KC G.K C) (ki : KCi G.K C) : Rc (rIsi G.K) (oIsiK (G := G) C) := fun Φ S σ Ω xs vs P Q R h ⟨b, f, e, q⟩ k => by
  subst e
  obtain ⟨v, r, rfl, h1, u, r2, rfl, h2, rfl⟩ := h
  obtain ⟨a, rfl, kh⟩ := VS.kind kg h1
  cases VD.cls h2
  obtain ⟨dx, fs, hH, hl⟩ := kh.ins
  exact ⟨_, _, _, _, true, rfl, .own C, .base (.ins hH kc.cls ki.ha ki.hn ki.htk ki.hm), ki.kit, k _ _ _ Ω q (Wle.refl _) R rfl⟩
end
end B

/-! the end of a law whose def is told where no guard is held -/
namespace L2
open PySem PySem.Spec PyProof.Rows
section
variable {P : Program} {w : World} {K : PySem.W.Frag} {mg mb : Str → Option Value} {k : Nat} {fa a : Addr} {fd : FuncData} {x : Str} {sp : Sp} {s : Shared} {vs : List Value} {ns : List Int}
/-- what the law's call must give -/
abbrev LawEnd (s : Shared) (r : Result) (s2 : Shared) : Prop := r = .ok (.ret (.bool true)) ∧ OldK s.heap s2.heap ∧ s2.os = s.os ∧ AllBare s2.gens
abbrev scriptObj (vs : List Value) : Obj := { cls := .type "list", data := .seq vs.toArray }
/-- from an abstract heap that tracks the script at most -/
theorem law_from (KX : K.In s.heap) (hns : s.heap.Ns mainGlobals mg) (hb : s.heap.Ns builtinsNs mb) (hbb : ∀ y : Str, y ≠ "__name__" → mb y = bootBuiltins y) (nl : s.heap.NoLimit) (hg : s.gens = #[]) (hs : s.heap.get? a = some (scriptObj vs))
    (hr : Room k callerA) (F : ∀ base : Heap, K.In base → base.Ns mainGlobals mg → FnG P w K mg base CX0 k fa fd [x] sp) (hbind : ∀ (s : Shared) (u : Value), BindsTo s fd ⟨[u], []⟩ [(x, u)])
    {H : Hp} (hO : Only H) (hok : HOk P w H s.heap) (only : ∀ b, H b ≠ none → b = a) (free : H a ≠ none → K.lookup a = none) (q : sp [.ref a] H (fun v _ => v = .bl true) fun _ _ _ => False) :
    codeAny (model P w) callerA (.call (.ref fa) ⟨[.ref a], []⟩) (LawEnd s) s := by
  have un : ∀ {b : Addr} {o : Obj}, (b = a → H b = none) → s.heap.get? b = some o → (hidT s.heap H).get? b = some o := fun {b o} nb z => hidT_get z (by
    by_cases c : H b = none
    · exact c
    · exact nb (only b c))
  have ns : ∀ {b : Addr} {m : Str → Option Value}, s.heap.Ns b m → (hidT s.heap H).Ns b m := by
    rintro b m ⟨o, es, ep, z, d, r⟩
    refine ⟨o, es, ep, un (fun z' => ?_) z, d, r⟩
    subst z'
    rw [hs] at z
    cases z
    cases d
  have kin : K.In (hidT s.heap H) := fun b o z => un (fun z' => by
    subst z'
    by_cases c : H b = none
    · exact c
    · rw [free c] at z; cases z) (KX b o z)
  have md : Mod K mg (hidT s.heap H) := ⟨kin, ns hns, ⟨mb, ns hb, hbb⟩, by obtain ⟨mc, h1, h2⟩ := nl; exact ⟨mc, ns h1, h2⟩⟩
  have env : Env0 P w K mg (hidT s.heap H) callerA [] s H := by
    refine ⟨rfl, md, (fun b o z => of_hidT z), Nat.le_of_eq (hidT_size _ _), trivial, (fun b hb => nomatch hb), hok, .of_eq hg⟩
  refine codeAny_mono ((F _ kin (ns hns)).goes callerA [] s H ⟨[.ref a], []⟩ [.ref a] [.ref a] _ _ rfl hr env (hbind s (.ref a)) (.cons rfl .nil) q) ?_
  intro r s2 z
  match r, z with
  | .error _, z => exact False.elim z
  | .ok .next, z => exact False.elim z
  | .ok .brk, z => exact False.elim z
  | .ok .cont, z => exact False.elim z
  | .ok (.ret u), ⟨v, H2, os, bare, chg, ok2, rv, ev⟩ =>
    cases (show v = .bl true from ev)
    cases (show u = Value.bool true from rv)
    refine ⟨rfl, OldK.of_keep ?_, os, bare⟩
    intro b o z
    cases c : H b with
    | none => exact chg.keep b o z c (fun m => by cases m) (by simp)
    | some t =>
      rcases hO b with c' | ⟨ob, xs, c'⟩
      · rw [c] at c'; cases c'
      · have old := (hok b _ c').1
        have new := (ok2 b _ (chg.frzs b ob _ c')).1
        rw [old] at z
        cases z
        exact new
theorem law_callG (KX : K.In s.heap) (hns : s.heap.Ns mainGlobals mg) (hb : s.heap.Ns builtinsNs mb) (hbb : ∀ y : Str, y ≠ "__name__" → mb y = bootBuiltins y) (nl : s.heap.NoLimit) (hg : s.gens = #[]) (hs : s.heap.get? a = some (scriptObj vs)) (hi : IntsAre vs ns) (hl : ns.length ≤ sizeLine)
    (hr : Room k callerA) (F : ∀ base : Heap, K.In base → base.Ns mainGlobals mg → FnG P w K mg base CX0 k fa fd [x] sp) (hbind : ∀ (s : Shared) (u : Value), BindsTo s fd ⟨[u], []⟩ [(x, u)])
    (q : ∀ H : Hp, Only H → SqL K H a (ns.map V.int) → sp [.ref a] H (fun v _ => v = .bl true) fun _ _ _ => False) : codeAny (model P w) callerA (.call (.ref fa) ⟨[.ref a], []⟩) (LawEnd s) s := by
  have rv := vals_ints hi
  have ln : vs.length = ns.length := hi.length
  cases c : K.lookup a with
  | some o =>
    have z := KX a o c
    rw [hs] at z
    cases z
    have sq : SqL K (fun _ => none) a (ns.map V.int) := .inr ⟨_, vs.toArray, _, c, rfl, rfl, rfl, by rw [List.size_toArray]; omega, by simpa using rv⟩
    exact law_from KX hns hb hbb nl hg hs hr F hbind (H := fun _ => none) (fun _ => .inl rfl) (fun b u z => by cases z) (fun b z => absurd rfl z) (fun z => absurd rfl z) (q _ (fun _ => .inl rfl) sq)
  | none =>
    let H : Hp := fun b => if b = a then some (.frz (scriptObj vs) (.lst (ns.map V.int))) else none
    have at_ : H a = some (.frz (scriptObj vs) (.lst (ns.map V.int))) := if_pos rfl
    have off : ∀ {b}, b ≠ a → H b = none := fun ne => if_neg ne
    have on : Only H := fun b => by
      by_cases e : b = a
      · subst e; exact .inr ⟨_, _, at_⟩
      · exact .inl (off e)
    refine law_from KX hns hb hbb nl hg hs hr F hbind (H := H) on (fun b u z => ?_) (fun b z => ?_) (fun _ => c) (q H on (.inl (.inr ⟨_, at_⟩)))
    · by_cases e : b = a
      · subst e
        rw [at_] at z
        cases z
        exact ⟨hs, by rw [List.length_map]; omega, vs, _, rv, hs⟩
      · rw [off e] at z; cases z
    · apply Classical.byContradiction
      intro ne
      exact z (off ne)
theorem walk_G {l : PySem.W.OpenLaw} {n k : Nat} {pr : Program} {loose : List Str} {XP : (Str → Option Value) → Heap → Prop} {YP : World → Heap → Prop} {d : DefRec} {K : Params → PySem.W.Frag} {sp : World → Sp} {x : Str}
    (hn : l.most = some n) (hn2 : n ≤ sizeLine) (hdf : d.params.defaults = []) (hr : Room k callerA) (hY : ∀ (w : World) (h : Heap), YP w h → (K w.params).In h)
    (F : ∀ (w : World) (mg : Str → Option Value) (fa : Addr) (h : Heap), (K w.params).In h → h.Ns mainGlobals mg → mg d.name = some (.ref fa) →
      ∃ fd : FuncData, (∀ (s : Shared) (u : Value), BindsTo s fd ⟨[u], []⟩ [(x, u)]) ∧ ∀ base : Heap, (K w.params).In base → base.Ns mainGlobals mg → FnG l.prog w (K w.params) mg base CX0 k fa fd [x] (sp w))
    (q : ∀ (w : World) (H : Hp) (a : Addr) (ns : List Int), ns.length ≤ n → (∀ z ∈ ns, Builtin.Int.intBits z ≤ 1048576) → Only H → SqL (K w.params) H a (ns.map V.int) → sp w [.ref a] H (fun v _ => v = .bl true) fun _ _ _ => False) :
    PySem.W.WalkO pr loose XP YP l.row.toRowW d [] (fun f vs => PySem.call f vs) := by
  refine Att.attach_callB hn hdf ?_
  intro w s₀ s₁ mg mb fa o pm cd doc a vs ns G Y ho hd hcd hmg hobj hints hlen hbits hg
  have KX := hY w _ Y
  obtain ⟨fd, hb, hF⟩ := F w mg fa _ KX G.T.g hmg
  exact law_callG KX G.T.g G.T.b G.T.builtins G.T.nolimit hg hobj hints (Nat.le_trans hlen hn2) hr hF hb fun H hO hS => q w H a ns hlen hbits hO hS
end
end L2

namespace B
open PySem L2 MK Hop
theorem bag_kp {H : Hp} {p : Addr} {o : HO} : Kp1 p H (upd H p o) := fun x u e ne => by rw [upd_ne ne]; exact e
theorem bag_at {H : Hp} {p : Addr} {o : HO} {n : Nat} (h : BagO n o) : Bag (upd H p o) p n := ⟨o, upd_same, h⟩
theorem Kp1.trans {a : Addr} {H H1 H2 : Hp} (h : Kp1 a H H1) (k : Kp1 a H1 H2) : Kp1 a H H2 := fun x o e ne => k x o (h x o e ne) ne
theorem Kp1.rfl' {a : Addr} {H : Hp} : Kp1 a H H := fun _ _ e _ => e
end B

namespace B
open PySem L2 MK Hop A
def pTrue (K : PySem.W.Frag) : CB K := fun n ds P => ds = [] ∧ n = 0 ∧ ∀ n', P (.bl true) n'
def spRight : Sp := fun vs H Q _ => ∃ (p : Addr), vs = [.ref p] ∧ Bag H p 0 ∧ ∀ H', Kp1 p H H' → Q (.bl true) H'
theorem right_imp {K : PySem.W.Frag} : ∀ vs H Q E, spRight vs H Q E → cB (GB K) (pTrue K) vs H Q E := by
  rintro vs H Q E ⟨p, rfl, ⟨o, ho, hb⟩, q⟩
  refine ⟨p, [], 0, [], fun a => if a = p then some none else none, fun d _ => d = .bl true, rfl, ⟨fun a e => ?_, fun a c e => ?_⟩, if_pos rfl, ⟨o, ho, hb⟩, rfl, ⟨rfl, rfl, fun _ => rfl⟩, fun d c' v H' T' e l g fr tp ho' vd => ?_⟩
  · by_cases c : a = p
    · subst c
      obtain ⟨x, y, w, e', _⟩ := hb
      exact ⟨o, ho, by subst e'; exact True.intro⟩
    · exact absurd (if_neg c) e
  · by_cases z : a = p
    · rw [if_pos z] at e; cases e
    · rw [if_neg z] at e; cases e
  · subst e
    cases (show v = .bl true from vd)
    exact q H' fun x o e ne => l.kp x o e (if_neg ne)
def spLaw (K : PySem.W.Frag) : Sp := fun vs H Q _ => ∃ (a : Addr) (ns : List Int), vs = [.ref a] ∧ SqL K H a (ns.map V.int) ∧ ns.length ≤ 63 ∧ (∀ z ∈ ns, Builtin.Int.intBits z ≤ 1048576) ∧ ∀ H', Q (.bl true) H'
theorem fn_false {P : Program} {w : World} {K : PySem.W.Frag} {mg : Str → Option Value} {base : Heap} {k : Nat} {f : Addr} {fd : FuncData} {ps : List Str} : FnOk P w K mg base CX0 k f fd ps (fun _ _ _ _ => False) := ⟨fun _ _ _ _ h => h.elim, fun _ _ _ _ _ _ _ _ _ _ _ _ _ h => h.elim⟩
end B

namespace B
open PySem L2 MK Hop A
def NM : List Str := ["NoNumber", "NoBase", "NoDivisor", "NoRest", "NoFigure", "NoMatch", "TooWide", "NoPlace", "NoPeople", "NoPerson", "NoLater", "NoCounts", "NoLevels", "TooShort", "NoState", "NoLevel", "NoCount", "NoOrder", "NothingToUndo", "NoName", "NoRoom", "NoRow", "NoLook", "NoText"]
end B

/-! ranges of great numbers -/
namespace L2
open PySem PySem.Spec PyProof.Rows
theorem turn_long {P : Program} {w : World} {K : PySem.W.Frag} {tg : Expr} (it : Addr) (lo : Int) (n : Nat) : Turn P w K tg (Itr lo n) [it] it (fun i h => IsLongIter h it (lo + (i : Nat) * 1) ((n : Int) - (i : Nat)) 1) where
  mem := by simp
  obj := fun i h st b hb => by
    have e : b = it := by simpa using hb
    subst e
    exact ⟨_, st, fun v z => by
      have z' : Data.fields _ = Data.cell v := z
      cases z'⟩
  keep := fun i h h' st k => k it (by simp) _ st
  item := by
    intro X hP hw hK hc i pins s σ H E I hf st hg
    subst hP hw hK
    obtain ⟨f0, f1, f2, f3, f4, f5⟩ := hf it (by simp)
    have W := Walks.longrange (prog := X.prog) (w := X.w) (I.ok.hd hc) it lo 1 n
    refine W.item i s _ _ hg st fun v h' tk hv st' kk => ?_
    obtain ⟨t, rfl⟩ := hv
    have I1 : Inv X pins σ H { s with heap := h', toks := tk } := I.turned (fun b o hb e => kk b o (by simpa using hb) e) f0 f1 f3 f4 f5
    refine ⟨_, rfl, go_of (s := { s with heap := h', toks := tk }) (n := "longrange_iterator") st' rfl rfl (by decide) ⟨.int (lo + i), H, I1, ⟨t, ?_⟩, ⟨rfl, rfl⟩, st', fun b hb => (hf b hb).1⟩⟩
    rw [Int.mul_one]
  done := by
    intro X hP hw hK hc i pins s σ H E I hf st hg
    subst hP hw hK
    obtain ⟨f0, f1, f2, f3, f4, f5⟩ := hf it (by simp)
    exact wpAny_pyNext_long_end (I.ok.hd hc) st (by have : n ≤ i := hg; omega) fun h' eb => ⟨rfl, I.turned (t' := s.toks) (fun b o hb e => eb b o hb e) f0 f1 f3 f4 f5⟩
  self := fun _ _ _ _ _ st h => wpAny_pyIter_longiter st h
section
variable {X : Cx} {tg : Expr}
theorem range_itW {pins : List (Addr × Obj)} {σ : St} {H : Hp} {s : Shared} {R : It → Hp → Prop} {E : Value → Shared → Prop} {lo hi : Int} {t u v : Tok} {tk : Nat} (I : Inv X pins σ H s)
    (q : R (Itr lo (hi - lo).toNat) H) : wpAny (model X.prog X.w) X.A (pyIter (.ref s.heap.objs.size)) (PIE X pins σ tg R) E { s with heap := s.heap.push { cls := .type "range", data := .fields #[.int lo t, .int hi u, .int 1 v] }, toks := tk } := by
  have I1 : Inv X pins σ H { s with heap := s.heap.push { cls := .type "range", data := .fields #[.int lo t, .int hi u, .int 1 v] }, toks := tk } := I.kept fun b o e => Heap.get?_push_of_some _ e
  have e1 : lo + ((0 : Nat) : Int) * 1 = lo := by simp
  have e2 : (((hi - lo).toNat : Nat) : Int) - ((0 : Nat) : Int) = Builtin.Range.rangeSize lo hi 1 := by rw [rangeSize_one]; split <;> omega
  cases c : Builtin.Range.small lo hi 1 with
  | true =>
    refine wpAny_pyIter_range (IsRange.new ..) c ?_
    refine ⟨(s.heap.push { cls := .type "range", data := .fields #[.int lo t, .int hi u, .int 1 v] }).objs.size, [(s.heap.push { cls := .type "range", data := .fields #[.int lo t, .int hi u, .int 1 v] }).objs.size], _, _, H, rfl,
      I1.kept (t' := tk) fun b o e => Heap.get?_push_of_some _ e, turn_range _ lo (hi - lo).toNat, ?_, fun b hb => ?_, q⟩
    · show IsRangeIter _ _ (lo + ((0 : Nat) : Int) * 1) ((((hi - lo).toNat : Nat) : Int) - ((0 : Nat) : Int)) 1
      rw [e1, e2]
      exact Heap.get?_push_size _ rfl
    · have e : b = (s.heap.push { cls := .type "range", data := .fields #[.int lo t, .int hi u, .int 1 v] }).objs.size := by simpa using hb
      subst e
      exact I1.fpOk (Nat.le_refl _) (I1.hok.fresh (Nat.le_refl _))
  | false =>
    refine wpAny_pyIter_longrange (IsRange.new ..) c ?_
    refine ⟨(s.heap.push { cls := .type "range", data := .fields #[.int lo t, .int hi u, .int 1 v] }).objs.size, [(s.heap.push { cls := .type "range", data := .fields #[.int lo t, .int hi u, .int 1 v] }).objs.size], _, _, H, rfl,
      I1.kept (t' := tk) fun b o e => Heap.get?_push_of_some _ e, turn_long _ lo (hi - lo).toNat, ?_, fun b hb => ?_, q⟩
    · show IsLongIter _ _ (lo + ((0 : Nat) : Int) * 1) ((((hi - lo).toNat : Nat) : Int) - ((0 : Nat) : Int)) 1
      rw [e1, e2]
      exact Heap.get?_push_size _ rfl
    · have e : b = (s.heap.push { cls := .type "range", data := .fields #[.int lo t, .int hi u, .int 1 v] }).objs.size := by simpa using hb
      subst e
      exact I1.fpOk (Nat.le_refl _) (I1.hok.fresh (Nat.le_refl _))
def iRng2W (ta : TA) : TI := fun σ H R => ta σ H fun vs H1 => ∃ i j : Int, vs = [.int i, .int j] ∧ R (Itr i (j - i).toNat) H1
theorem pi_range2W {a b : Expr} {ta : TA} {p pos : Pos} (hg : Gl X "range") (hm : X.mg "range" = none) (ha : PA X [a, b] ta) (hs : starEach [a, b] X.env = [(false, eval a X.env), (false, eval b X.env)] := by rfl) (hs2 : starEach [b] X.env = [(false, eval b X.env)] := by rfl) :
    PI X tg (.Call (.Name "range" p) [a, b] [] pos) (iRng2W ta) := by
  refine ⟨fun pins s σ H R I h => ?_⟩
  refine Call_ (ld_blt I hg hm boot_range (PyProof.Rows.callWith_type1 (thn (ha.run pos pins s σ H _ I h) fun us s1 ⟨vs, H1, I1, r1, q1⟩ => ?_) (by rw [hs, hs2]) (by rw [hs2]; rfl)))
  obtain ⟨i, j, e, q⟩ := q1
  subst e
  cases r1 with
  | cons r rr =>
    cases rr with
    | cons r' rr =>
      cases rr
      obtain ⟨t, rfl⟩ := r
      obtain ⟨t', rfl⟩ := r'
      exact call_range_2 (range_itW I1 q)
end
end L2
namespace A
open PySem L2
section
variable {G : Cfg}
def iR2W (a : AA G) : AI G := fun S P => a S fun xs cs => ∃ (i : Int) (n : Nat), xs = [.d (.int i), .d (.int (i + n))] ∧ P ((List.range n).map fun k => .int (i + (k : Nat))) cs
theorem i_r2W {t : TA} {a : AA G} (ha : Ra t a) : Ri (iRng2W t) (iR2W a) := fun Φ S σ Ω P Q R h k =>
  ha Φ S σ Ω _ _ R h fun xs cs vs Ω1 ⟨i0, n, e, q⟩ w1 R1 v1 => by
    subst e
    obtain ⟨v, r, rfl, hv, v2, r2, rfl, hv2, rfl⟩ := v1
    cases (show v = .int i0 from hv)
    cases (show v2 = .int (i0 + n) from hv2)
    refine ⟨i0, i0 + n, rfl, k _ cs _ Ω1 q w1 R1 fun Ω2 w2 _ => ?_⟩
    rw [show (i0 + (n : Int) - i0).toNat = n by omega]
    refine ⟨fun i hi => by rw [List.length_map, List.length_range] at hi; exact hi, fun i d e => ?_⟩
    rw [List.getElem?_map] at e
    have hi : i < n := by
      cases z : (List.range n)[i]? with
      | none => rw [z] at e; cases e
      | some m => have := (List.getElem?_eq_some_iff.mp z).1; rwa [List.length_range] at this
    rw [List.getElem?_range hi] at e
    cases e
    exact ⟨hi, fun x H' ⟨e1, e2⟩ => by subst e1; exact ⟨fun _ _ z => z, e2⟩⟩
def iR3 (a : AA G) : AI G := fun S P => a S fun xs cs => ∃ (i j c : Int) (n : Nat), xs = [.d (.int i), .d (.int j), .d (.int c)] ∧ RgC i j c n ∧ P ((List.range n).map fun k => .int (i + (k : Nat) * c)) cs
theorem i_r3 {t : TA} {a : AA G} (ha : Ra t a) : Ri (iRng3 t) (iR3 a) := fun Φ S σ Ω P Q R h k =>
  ha Φ S σ Ω _ _ R h fun xs cs vs Ω1 ⟨i0, j0, c0, n, e, rg, q⟩ w1 R1 v1 => by
    subst e
    obtain ⟨v, r, rfl, hv, v2, r2, rfl, hv2, v3, r3, rfl, hv3, rfl⟩ := v1
    cases (show v = .int i0 from hv)
    cases (show v2 = .int j0 from hv2)
    cases (show v3 = .int c0 from hv3)
    refine ⟨i0, j0, c0, n, rfl, rg, k _ cs _ Ω1 q w1 R1 fun Ω2 w2 _ => ?_⟩
    refine ⟨fun i hi => by rw [List.length_map, List.length_range] at hi; exact hi, fun i d e => ?_⟩
    rw [List.getElem?_map] at e
    have hi : i < n := by
      cases z : (List.range n)[i]? with
      | none => rw [z] at e; cases e
      | some m => have := (List.getElem?_eq_some_iff.mp z).1; rwa [List.length_range] at this
    rw [List.getElem?_range hi] at e
    cases e
    exact ⟨hi, fun x H' ⟨e1, e2⟩ => by subst e1; exact ⟨fun _ _ z => z, e2⟩⟩
theorem rg3_all : ∀ L : Nat, L < 64 → (PySem.Builtin.Range.small 0 (L : Int) 3 = true ∧ PySem.Builtin.Range.rangeSize 0 (L : Int) 3 = (((L + 2) / 3 : Nat) : Int)) := by decide +kernel
theorem rg3 {L : Nat} (h : L < 64) : RgC 0 (L : Int) 3 ((L + 2) / 3) := ⟨by decide, by decide, (rg3_all L h).1, (rg3_all L h).2⟩
end
end A

/-! sorted lists of ints -/
namespace A
open PySem L2
section
variable {G : Cfg}
theorem vds_ints {H : Hp} {T : Mt G} : ∀ ns : List Int, VDs H T (ns.map D.int) (ns.map V.int)
  | [] => rfl
  | n :: ns => ⟨_, _, rfl, rfl, vds_ints ns⟩
theorem vds_ints_inv {H : Hp} {T : Mt G} : ∀ {ns : List Int} {vs : List V}, VDs (G := G) H T (ns.map D.int) vs → vs = ns.map V.int
  | [], vs, h => h
  | n :: ns, vs, ⟨v, r, e, h1, h2⟩ => by
    rw [e, show v = .int n from h1, vds_ints_inv h2]; rfl
def oSorted : AF G := fun xs cs P => ∃ (x : SV G) (ns : List Int), xs = [x] ∧ seqL x cs = some (ns.map D.int) ∧ ns.length < 64 ∧ ∀ ns' : List Int, ns'.Perm ns → ns'.Pairwise (· ≤ ·) → P (.d (.lst (ns'.map D.int))) cs
theorem o_sorted : Rc (G := G) (rSorted G.K) oSorted := fun Φ S σ Ω xs vs P Q R h ⟨x, ns, e, e2, hl, q⟩ k => by
  subst e
  obtain ⟨v, r, rfl, h1, rfl⟩ := h
  obtain ⟨a, ys, ev, ha, v1⟩ := R.seqL h1 e2
  subst ev
  have ey := vds_ints_inv v1
  subst ey
  refine ⟨a, ns, rfl, SqL.of ha, hl, fun ns' p pm so hp => ?_⟩
  obtain ⟨w, R2, v3⟩ := R.newLst (vds_ints ns') hp
  exact k _ _ _ _ (q ns' pm so) w R2 v3
end
end A

namespace B
open PySem L2 MK Hop A

def whichOf (k : Nat) : Nat := if k < 24 then k else k - 3
def flds {G : Cfg} (k : Nat) (d : D G) : List (Str × D G) := if k < 21 then [] else if k = 23 ∨ k = 26 then [("row", d)] else [("index", d)]
def madeD {G : Cfg} (L : List Addr) (k : Nat) (d : D G) : D G := exD (L.getD (whichOf k) 0) (flds k d)
def pMade (K : PySem.W.Frag) (L : List Addr) : PF (GB K) := fun ds P => ∃ (k : Nat) (z : Str) (d : D (GB K)), ds = [nI k, .str z, d] ∧ k < 27 ∧ P (madeD L k d)
def pWhich (K : PySem.W.Frag) (L : List Addr) : PF (GB K) := fun ds P => ∃ (a : Addr) (fs : List (Str × D (GB K))) (f : Nat → Bool), ds = [exD a fs] ∧ ExK K a ∧ (∀ j b, L[j]? = some b → PySem.W.kitOne K (.ref a) (.ref b) = some (f j)) ∧ P (.lst ((List.range 24).map fun j => .bl (f j)))
/-- a drawn value -/
inductive Vl {G : Cfg} : D G → Prop where
  | far (n : Nat) : n < 10 ^ 40 → Vl (nI n)
  | neg (n : Nat) : n < 10 ^ 40 → Vl (.int (-1 - (n : Int)))
  | lst (n : Nat) : n < 10 ^ 40 → Vl (.lst [nI n, .lst [.int 0]])
  | non : Vl .non
  | str (n : Nat) : n < 10 ^ 40 → Vl (.str (Str.ofString "row " ++ Str.ofString (toString (n : Int))))
  | tup (n : Nat) : n < 10 ^ 40 → Vl (.tup [nI n, .non])
  | bl (b : Bool) : Vl (.bl b)
def pValue (K : PySem.W.Frag) : CB K := fun n ds P => ds = [] ∧ n ≤ 1000 ∧ ∀ d n', Vl d → P d n'
def pWords (K : PySem.W.Frag) : CB K := fun n ds P => ds = [] ∧ n ≤ 100 ∧ ∀ z n', n' ≤ n + 13 → P (.str z) n'
def pRight (K : PySem.W.Frag) : PF (GB K) := fun ds P => ∃ (z : Str) (d : D (GB K)), ds = [.str z, d] ∧ Vl d ∧ P (.bl true)

theorem lg40 {n : Nat} (h : n < 10 ^ 40) : n.log2 < 1920 := by
  by_cases c : n = 0
  · subst c; decide
  · exact Nat.lt_trans ((Nat.log2_lt c).mpr (Nat.lt_trans h (show 10 ^ 40 < 2 ^ 133 by decide))) (by decide)
theorem tl40 {i : Int} (h : i.natAbs ≤ 10 ^ 40) : (Str.ofString (toString i)).length ≤ 42 := by
  rw [ofString_length]
  exact int_text_length_le10 (k := 41) (by decide) (Nat.lt_of_le_of_lt h (by decide))
theorem cps_of (z : String) : ∀ c ∈ (Str.ofString z).cps.toList, c < 16 ^ 8 := by
  rw [Str.ofString_eq_toList]
  intro c hc
  simp only [List.mem_map] at hc
  obtain ⟨x, _, rfl⟩ := hc
  have := x.valid
  have h2 : x.toNat < 1114112 := by
    rcases this with h | h
    · exact Nat.lt_trans h (by decide)
    · exact h.2
  exact Nat.lt_trans h2 (by decide)
theorem vl_l {n : Nat} (h : n < 10 ^ 40) : (PyData.list [.int (n : Int), .list [.int 0]]).shown.length ≤ sizeLine := by
  have e := listText_len_le [Str.ofString (toString (n : Int)), (PyData.list [.int 0]).shown]
  have e2 : (PyData.list [.int 0]).shown.length = 3 := by decide +kernel
  have e3 := tl40 (i := (n : Int)) (by simpa using Nat.le_of_lt h)
  rw [sizeLine_eq]
  show (listText [Str.ofString (toString (n : Int)), (PyData.list [.int 0]).shown]).length ≤ _
  simp only [List.map_cons, List.map_nil, List.sum_cons, List.sum_nil, List.length_cons, List.length_nil] at e
  omega
theorem vl_t {n : Nat} (h : n < 10 ^ 40) : (PyData.tuple [.int (n : Int), .none]).shown.length ≤ sizeLine := by
  have e := tupleText_len_le [Str.ofString (toString (n : Int)), (PyData.none).shown]
  have e2 : (PyData.none).shown.length = 4 := by decide +kernel
  have e3 := tl40 (i := (n : Int)) (by simpa using Nat.le_of_lt h)
  rw [sizeLine_eq]
  show (tupleText [Str.ofString (toString (n : Int)), (PyData.none).shown]).length ≤ _
  simp only [List.map_cons, List.map_nil, List.sum_cons, List.sum_nil, List.length_cons, List.length_nil] at e
  omega
theorem vl_s {n : Nat} (h : n < 10 ^ 40) : (reprText (Str.ofString "row " ++ Str.ofString (toString (n : Int)))).length ≤ sizeLine := by
  have e3 := tl40 (i := (n : Int)) (by simpa using Nat.le_of_lt h)
  have e := StrLaws.reprText_len (Str.ofString "row " ++ Str.ofString (toString (n : Int))) (fun c hc => by
    have e : (Str.ofString "row " ++ Str.ofString (toString (n : Int))).cps = (Str.ofString "row ").cps ++ (Str.ofString (toString (n : Int))).cps := rfl
    rw [e, Array.toList_append, List.mem_append] at hc
    rcases hc with hc | hc
    · exact cps_of _ c hc
    · exact cps_of _ c hc)
  have e4 : (Str.ofString "row ").length = 4 := by decide +kernel
  rw [strLen_append, e4] at e
  rw [sizeLine_eq]
  omega
theorem vl_repr {G : Cfg} {d : D G} (h : Vl d) : ∃ t : Str, ∀ (cs : Cs G) (P : SV G → Cs G → Prop), P (.d (.str t)) cs → oReprX [.d d] cs P := by
  cases h with
  | far n h => exact ⟨_, fun cs P p => .inl ⟨_, _, rfl, if_pos (by simpa using lg40 h), p⟩⟩
  | neg n h => exact ⟨_, fun cs P p => .inl ⟨_, _, rfl, if_pos (by
      have : (-1 - (n : Int)).natAbs = n + 1 := by omega
      rw [this]
      exact Nat.lt_trans ((Nat.log2_lt (by omega)).mpr (Nat.lt_of_le_of_lt h (show 10 ^ 40 < 2 ^ 133 by decide))) (by decide)), p⟩⟩
  | lst n h => exact ⟨_, fun cs P p => .inr ⟨_, _, _, rfl, rfl, .inl rfl, rfl, by simp [PyData.showable, PyData.showableAll]; exact lg40 h, rfl, by show _ ≤ 60; simp [PyData.depth, PyData.depthAll], vl_l h, p⟩⟩
  | non => exact ⟨_, fun cs P p => .inl ⟨_, _, rfl, rfl, p⟩⟩
  | str n h => exact ⟨_, fun cs P p => .inl ⟨_, _, rfl, if_pos (vl_s h), p⟩⟩
  | tup n h => exact ⟨_, fun cs P p => .inr ⟨_, _, _, rfl, rfl, .inr rfl, rfl, by simp [PyData.showable, PyData.showableAll]; exact lg40 h, rfl, by show _ ≤ 60; simp [PyData.depth, PyData.depthAll], vl_t h, p⟩⟩
  | bl b => exact ⟨_, fun cs P p => .inl ⟨_, _, rfl, rfl, p⟩⟩
theorem nm_nd : ∀ (j i : Nat) (m n : Str), NM[j]? = some m → NM[i]? = some n → j ≠ i → m ≠ n := fun j i m n h1 h2 ne e => by
  subst e
  have nd : NM.Nodup := by decide +kernel
  obtain ⟨a1, b1⟩ := List.getElem?_eq_some_iff.mp h1
  obtain ⟨a2, b2⟩ := List.getElem?_eq_some_iff.mp h2
  exact ne (nd_inj nd h1 h2)
theorem nm_R : ∀ (j : Nat) (m : Str), NM[j]? = some m → (Str.ofString "RoundError") ≠ m := fun j m h e => by
  subst e
  have nd : (Str.ofString "RoundError") ∉ NM := by decide +kernel
  exact nd (List.mem_of_getElem? h)
section
variable {K : PySem.W.Frag} {mg : Str → Option Value} {R : Addr} {L : List Addr}
theorem kit_R (xl : Paired (XC K mg (.ref R :: veT)) NM L) (xR : XC K mg veT "RoundError" R) (j : Nat) (b : Addr) (h : L[j]? = some b) : PySem.W.kitOne K (.ref R) (.ref b) = some false := by
  obtain ⟨m, hm, xb⟩ := Paired.at xl h
  rw [xR.kit xb, decide_eq_false (xR.ne xb (nm_R j m hm))]
  rfl
theorem kit_L (xl : Paired (XC K mg (.ref R :: veT)) NM L) (xR : XC K mg veT "RoundError" R) {i : Nat} {a : Addr} (ha : L[i]? = some a) (j : Nat) (b : Addr) (h : L[j]? = some b) : PySem.W.kitOne K (.ref a) (.ref b) = some (decide (j = i)) := by
  obtain ⟨m, hm, xb⟩ := Paired.at xl h
  obtain ⟨n, hn, xa⟩ := Paired.at xl ha
  rw [xa.kit xb]
  have h1 : (Value.ref b == Value.ref R) = false := by simpa using fun z : b = R => xR.ne xb (nm_R j m hm) z.symm
  have h2 : (Value.ref R :: veT).contains (.ref b) = false := by rw [List.contains_cons, h1]; rfl
  rw [h2, Bool.or_false]
  by_cases c : j = i
  · subst c
    rw [ha] at h
    cases h
    simp
  · rw [decide_eq_false c, decide_eq_false (fun z : a = b => xa.ne xb (nm_nd i j n m hn hm (fun w => c w.symm)) z)]
theorem kit_up (xl : Paired (XC K mg (.ref R :: veT)) NM L) (xR : XC K mg veT "RoundError" R) {i : Nat} {a : Addr} (ha : L[i]? = some a) : PySem.W.kitOne K (.ref a) (.ref R) = some true := by
  obtain ⟨n, hn, xa⟩ := Paired.at xl ha
  rw [xa.kit xR, List.contains_cons]
  simp
end
section
variable {K : PySem.W.Frag} {C : Addr} {P : Program} {w : World} {mg : Str → Option Value} {base : Heap}
theorem ok_law_made {fa : Addr} {fd : FuncData} (F : Fun K "_law_made" "_law_made" s__law_made fa fd) {xNoNumber xNoBase xNoDivisor xNoRest xNoFigure xNoMatch xTooWide xNoPlace xNoPeople xNoPerson xNoLater xNoCounts xNoLevels xTooShort xNoState xNoLevel xNoCount xNoOrder xNothingToUndo xNoName xNoRoom xNoRow xNoLook xNoText : Addr} {bm : List Value} {fNoRow : Addr} {fdNoRow : FuncData} {fNoLook : Addr} {fdNoLook : FuncData} {fNoText : Addr} {fdNoText : FuncData} (c_NoNumber : XC K mg bm "NoNumber" xNoNumber) (q_NoNumber : PySem.W.excIn K xNoNumber [.type "ValueError", .type "Exception", .type "BaseException", .type "object"] "ValueError.__new__" = true) (c_NoBase : XC K mg bm "NoBase" xNoBase) (q_NoBase : PySem.W.excIn K xNoBase [.type "ValueError", .type "Exception", .type "BaseException", .type "object"] "ValueError.__new__" = true) (c_NoDivisor : XC K mg bm "NoDivisor" xNoDivisor) (q_NoDivisor : PySem.W.excIn K xNoDivisor [.type "ValueError", .type "Exception", .type "BaseException", .type "object"] "ValueError.__new__" = true) (c_NoRest : XC K mg bm "NoRest" xNoRest) (q_NoRest : PySem.W.excIn K xNoRest [.type "ValueError", .type "Exception", .type "BaseException", .type "object"] "ValueError.__new__" = true) (c_NoFigure : XC K mg bm "NoFigure" xNoFigure) (q_NoFigure : PySem.W.excIn K xNoFigure [.type "ValueError", .type "Exception", .type "BaseException", .type "object"] "ValueError.__new__" = true) (c_NoMatch : XC K mg bm "NoMatch" xNoMatch) (q_NoMatch : PySem.W.excIn K xNoMatch [.type "ValueError", .type "Exception", .type "BaseException", .type "object"] "ValueError.__new__" = true) (c_TooWide : XC K mg bm "TooWide" xTooWide) (q_TooWide : PySem.W.excIn K xTooWide [.type "ValueError", .type "Exception", .type "BaseException", .type "object"] "ValueError.__new__" = true) (c_NoPlace : XC K mg bm "NoPlace" xNoPlace) (q_NoPlace : PySem.W.excIn K xNoPlace [.type "ValueError", .type "Exception", .type "BaseException", .type "object"] "ValueError.__new__" = true) (c_NoPeople : XC K mg bm "NoPeople" xNoPeople) (q_NoPeople : PySem.W.excIn K xNoPeople [.type "ValueError", .type "Exception", .type "BaseException", .type "object"] "ValueError.__new__" = true) (c_NoPerson : XC K mg bm "NoPerson" xNoPerson) (q_NoPerson : PySem.W.excIn K xNoPerson [.type "ValueError", .type "Exception", .type "BaseException", .type "object"] "ValueError.__new__" = true) (c_NoLater : XC K mg bm "NoLater" xNoLater) (q_NoLater : PySem.W.excIn K xNoLater [.type "ValueError", .type "Exception", .type "BaseException", .type "object"] "ValueError.__new__" = true) (c_NoCounts : XC K mg bm "NoCounts" xNoCounts) (q_NoCounts : PySem.W.excIn K xNoCounts [.type "ValueError", .type "Exception", .type "BaseException", .type "object"] "ValueError.__new__" = true) (c_NoLevels : XC K mg bm "NoLevels" xNoLevels) (q_NoLevels : PySem.W.excIn K xNoLevels [.type "ValueError", .type "Exception", .type "BaseException", .type "object"] "ValueError.__new__" = true) (c_TooShort : XC K mg bm "TooShort" xTooShort) (q_TooShort : PySem.W.excIn K xTooShort [.type "ValueError", .type "Exception", .type "BaseException", .type "object"] "ValueError.__new__" = true) (c_NoState : XC K mg bm "NoState" xNoState) (q_NoState : PySem.W.excIn K xNoState [.type "ValueError", .type "Exception", .type "BaseException", .type "object"] "ValueError.__new__" = true) (c_NoLevel : XC K mg bm "NoLevel" xNoLevel) (q_NoLevel : PySem.W.excIn K xNoLevel [.type "ValueError", .type "Exception", .type "BaseException", .type "object"] "ValueError.__new__" = true) (c_NoCount : XC K mg bm "NoCount" xNoCount) (q_NoCount : PySem.W.excIn K xNoCount [.type "ValueError", .type "Exception", .type "BaseException", .type "object"] "ValueError.__new__" = true) (c_NoOrder : XC K mg bm "NoOrder" xNoOrder) (q_NoOrder : PySem.W.excIn K xNoOrder [.type "ValueError", .type "Exception", .type "BaseException", .type "object"] "ValueError.__new__" = true) (c_NothingToUndo : XC K mg bm "NothingToUndo" xNothingToUndo) (q_NothingToUndo : PySem.W.excIn K xNothingToUndo [.type "ValueError", .type "Exception", .type "BaseException", .type "object"] "ValueError.__new__" = true) (c_NoName : XC K mg bm "NoName" xNoName) (q_NoName : PySem.W.excIn K xNoName [.type "ValueError", .type "Exception", .type "BaseException", .type "object"] "ValueError.__new__" = true) (c_NoRoom : XC K mg bm "NoRoom" xNoRoom) (q_NoRoom : PySem.W.excIn K xNoRoom [.type "ValueError", .type "Exception", .type "BaseException", .type "object"] "ValueError.__new__" = true) (i_NoRow : XI P w K mg base bm "NoRow" "index" xNoRow fNoRow fdNoRow) (i_NoLook : XI P w K mg base bm "NoLook" "index" xNoLook fNoLook fdNoLook) (i_NoText : XI P w K mg base bm "NoText" "row" xNoText fNoText fdNoText)    : FnOk P w K mg base CX0 (2 + 1) fa fd ["k", "line", "value"] (cP (GB K) (pMade K [xNoNumber, xNoBase, xNoDivisor, xNoRest, xNoFigure, xNoMatch, xTooWide, xNoPlace, xNoPeople, xNoPerson, xNoLater, xNoCounts, xNoLevels, xTooShort, xNoState, xNoLevel, xNoCount, xNoOrder, xNothingToUndo, xNoName, xNoRoom, xNoRow, xNoLook, xNoText])) := by
  refine F.ok sc__law_made (fun vs H Q E h => ?_) (fun cdv A outer s H vs Q E hr h => ?_)
  · exact lenP (n := 3) (fun ds P h => by obtain ⟨_, _, _, e, _⟩ := h; rw [e]; rfl) h
  · have nd := sc__law_made.nd
    have hu := hu_of hr
    refine ⟨_, (pss_cons (ps_if (pt_cmpR op_lt (pv 0) pe_int (nomark _)) (pss_cons (ps_set (i := 3) nd rfl (Or.inl rfl) (pe_lst (pa_cons (pe_exc1 PySem.F.excBase_ValueError q_NoNumber c_NoNumber.mg c_NoNumber.kp (by rfl) (pv 1)) (pa_cons (pe_exc1 PySem.F.excBase_ValueError q_NoBase c_NoBase.mg c_NoBase.kp (by rfl) (pv 1)) (pa_cons (pe_exc1 PySem.F.excBase_ValueError q_NoDivisor c_NoDivisor.mg c_NoDivisor.kp (by rfl) (pv 1)) (pa_cons (pe_exc1 PySem.F.excBase_ValueError q_NoRest c_NoRest.mg c_NoRest.kp (by rfl) (pv 1)) (pa_cons (pe_exc1 PySem.F.excBase_ValueError q_NoFigure c_NoFigure.mg c_NoFigure.kp (by rfl) (pv 1)) (pa_cons (pe_exc1 PySem.F.excBase_ValueError q_NoMatch c_NoMatch.mg c_NoMatch.kp (by rfl) (pv 1)) pa_nil))))))))
      (pss_one (ps_ret (pe_ix ix_list (pv 3) (pv 0) (fun _ _ => rfl))))) pss_nil)
      (pss_cons (ps_if (pt_cmpR op_lt (pv 0) pe_int (nomark _)) (pss_cons (ps_set (i := 4) nd rfl (Or.inl rfl) (pe_lst (pa_cons (pe_exc1 PySem.F.excBase_ValueError q_TooWide c_TooWide.mg c_TooWide.kp (by rfl) (pv 1)) (pa_cons (pe_exc1 PySem.F.excBase_ValueError q_NoPlace c_NoPlace.mg c_NoPlace.kp (by rfl) (pv 1)) (pa_cons (pe_exc1 PySem.F.excBase_ValueError q_NoPeople c_NoPeople.mg c_NoPeople.kp (by rfl) (pv 1)) (pa_cons (pe_exc1 PySem.F.excBase_ValueError q_NoPerson c_NoPerson.mg c_NoPerson.kp (by rfl) (pv 1)) (pa_cons (pe_exc1 PySem.F.excBase_ValueError q_NoLater c_NoLater.mg c_NoLater.kp (by rfl) (pv 1)) (pa_cons (pe_exc1 PySem.F.excBase_ValueError q_NoCounts c_NoCounts.mg c_NoCounts.kp (by rfl) (pv 1)) pa_nil))))))))
      (pss_one (ps_ret (pe_ix ix_list (pv 4) (pe_op op_sub (pv 0) pe_int) (fun _ _ => rfl))))) pss_nil)
      (pss_cons (ps_if (pt_cmpR op_lt (pv 0) pe_int (nomark _)) (pss_cons (ps_set (i := 5) nd rfl (Or.inl rfl) (pe_lst (pa_cons (pe_exc1 PySem.F.excBase_ValueError q_NoLevels c_NoLevels.mg c_NoLevels.kp (by rfl) (pv 1)) (pa_cons (pe_exc1 PySem.F.excBase_ValueError q_TooShort c_TooShort.mg c_TooShort.kp (by rfl) (pv 1)) (pa_cons (pe_exc1 PySem.F.excBase_ValueError q_NoState c_NoState.mg c_NoState.kp (by rfl) (pv 1)) (pa_cons (pe_exc1 PySem.F.excBase_ValueError q_NoLevel c_NoLevel.mg c_NoLevel.kp (by rfl) (pv 1)) (pa_cons (pe_exc1 PySem.F.excBase_ValueError q_NoCount c_NoCount.mg c_NoCount.kp (by rfl) (pv 1)) (pa_cons (pe_exc1 PySem.F.excBase_ValueError q_NoOrder c_NoOrder.mg c_NoOrder.kp (by rfl) (pv 1)) pa_nil))))))))
      (pss_one (ps_ret (pe_ix ix_list (pv 5) (pe_op op_sub (pv 0) pe_int) (fun _ _ => rfl))))) pss_nil)
      (pss_cons (ps_if (pt_cmpR op_lt (pv 0) pe_int (nomark _)) (pss_cons (ps_set (i := 6) nd rfl (Or.inl rfl) (pe_lst (pa_cons (pe_exc1 PySem.F.excBase_ValueError q_NothingToUndo c_NothingToUndo.mg c_NothingToUndo.kp (by rfl) (pv 1)) (pa_cons (pe_exc1 PySem.F.excBase_ValueError q_NoName c_NoName.mg c_NoName.kp (by rfl) (pv 1)) (pa_cons (pe_exc1 PySem.F.excBase_ValueError q_NoRoom c_NoRoom.mg c_NoRoom.kp (by rfl) (pv 1)) pa_nil)))))
      (pss_one (ps_ret (pe_ix ix_list (pv 6) (pe_op op_sub (pv 0) pe_int) (fun _ _ => rfl))))) pss_nil)
      (pss_cons (ps_set (i := 7) nd rfl (Or.inl rfl) (pe_lst (pa_cons (pe_oex i_NoRow.T i_NoRow.iC i_NoRow.tI i_NoRow.F1 (hr.mono (by omega)) i_NoRow.b pass0 (by rfl) i_NoRow.xc.mg (pa_cons (pv 2) pa_nil)) (pa_cons (pe_oex i_NoLook.T i_NoLook.iC i_NoLook.tI i_NoLook.F1 (hr.mono (by omega)) i_NoLook.b pass0 (by rfl) i_NoLook.xc.mg (pa_cons (pv 2) pa_nil)) (pa_cons (pe_oex i_NoText.T i_NoText.iC i_NoText.tI i_NoText.F1 (hr.mono (by omega)) i_NoText.b pass0 (by rfl) i_NoText.xc.mg (pa_cons (pv 2) pa_nil)) (pa_cons (pe_oexK i_NoRow.T i_NoRow.iC i_NoRow.tI i_NoRow.F1 (hr.mono (by omega)) i_NoRow.kb pass0 (by rfl) i_NoRow.xc.mg (pk_cons (pv 2) pk_nil)) (pa_cons (pe_oexK i_NoLook.T i_NoLook.iC i_NoLook.tI i_NoLook.F1 (hr.mono (by omega)) i_NoLook.kb pass0 (by rfl) i_NoLook.xc.mg (pk_cons (pv 2) pk_nil)) (pa_cons (pe_oexK i_NoText.T i_NoText.iC i_NoText.tI i_NoText.F1 (hr.mono (by omega)) i_NoText.kb pass0 (by rfl) i_NoText.xc.mg (pk_cons (pv 2) pk_nil)) pa_nil))))))))
      (pss_one (ps_ret (pe_ix ix_list (pv 7) (pe_op op_sub (pv 0) pe_int) (fun _ _ => rfl))))))))), ?_⟩
    refine fn_P (G := (GB K)) (N := ["k", "line", "value", "first", "second", "third", "fourth", "last"]) (x_seq (x_if (r_test (r_op o_lt (r_var (i := 0)) r_int)) (x_seq (x_set (r_lst (r_cons (r_exc1 (r_var (i := 1))) (r_cons (r_exc1 (r_var (i := 1))) (r_cons (r_exc1 (r_var (i := 1))) (r_cons (r_exc1 (r_var (i := 1))) (r_cons (r_exc1 (r_var (i := 1))) (r_cons (r_exc1 (r_var (i := 1))) r_nil)))))))) (x_ret (r_op o_ixL (r_var (i := 3)) (r_var (i := 0))))) x_next) (x_seq (x_if (r_test (r_op o_lt (r_var (i := 0)) r_int)) (x_seq (x_set (r_lst (r_cons (r_exc1 (r_var (i := 1))) (r_cons (r_exc1 (r_var (i := 1))) (r_cons (r_exc1 (r_var (i := 1))) (r_cons (r_exc1 (r_var (i := 1))) (r_cons (r_exc1 (r_var (i := 1))) (r_cons (r_exc1 (r_var (i := 1))) r_nil)))))))) (x_ret (r_op o_ixL (r_var (i := 4)) (r_op o_sub (r_var (i := 0)) r_int)))) x_next) (x_seq (x_if (r_test (r_op o_lt (r_var (i := 0)) r_int)) (x_seq (x_set (r_lst (r_cons (r_exc1 (r_var (i := 1))) (r_cons (r_exc1 (r_var (i := 1))) (r_cons (r_exc1 (r_var (i := 1))) (r_cons (r_exc1 (r_var (i := 1))) (r_cons (r_exc1 (r_var (i := 1))) (r_cons (r_exc1 (r_var (i := 1))) r_nil)))))))) (x_ret (r_op o_ixL (r_var (i := 5)) (r_op o_sub (r_var (i := 0)) r_int)))) x_next) (x_seq (x_if (r_test (r_op o_lt (r_var (i := 0)) r_int)) (x_seq (x_set (r_lst (r_cons (r_exc1 (r_var (i := 1))) (r_cons (r_exc1 (r_var (i := 1))) (r_cons (r_exc1 (r_var (i := 1))) r_nil))))) (x_ret (r_op o_ixL (r_var (i := 6)) (r_op o_sub (r_var (i := 0)) r_int)))) x_next) (x_seq (x_set (r_lst (r_cons (r_oex i_NoRow.T i_NoRow.no (r_cons (r_var (i := 2)) r_nil)) (r_cons (r_oex i_NoLook.T i_NoLook.no (r_cons (r_var (i := 2)) r_nil)) (r_cons (r_oex i_NoText.T i_NoText.no (r_cons (r_var (i := 2)) r_nil)) (r_cons (r_oexK i_NoRow.T i_NoRow.no (r_cons (r_var (i := 2)) r_nil)) (r_cons (r_oexK i_NoLook.T i_NoLook.no (r_cons (r_var (i := 2)) r_nil)) (r_cons (r_oexK i_NoText.T i_NoText.no (r_cons (r_var (i := 2)) r_nil)) r_nil)))))))) (x_ret (r_op o_ixL (r_var (i := 7)) (r_op o_sub (r_var (i := 0)) r_int)))))))) h ?_
    rintro ds P ⟨k, z, d, rfl, hk, q⟩
    refine startN (fun N => ∀ cs, N.rt (.d (madeD [xNoNumber, xNoBase, xNoDivisor, xNoRest, xNoFigure, xNoMatch, xTooWide, xNoPlace, xNoPeople, xNoPerson, xNoLater, xNoCounts, xNoLevels, xTooShort, xNoState, xNoLevel, xNoCount, xNoOrder, xNothingToUndo, xNoName, xNoRoom, xNoRow, xNoLook, xNoText] k d)) cs) (fun cs => q) fun N hN => ?_
    refine step fun B hB => ?_
    simp [and_assoc, Int.ofNat_inj, sizeLine_eq, any_eq, xSeq, xSet, xAsg, xPar, xPar3, xRet, xDrop, xIf, xBreak, xNext, xAug, xApp, xFrz, xForI, aOp, aUn, aVar, aD, aTup, aLst, aLstC, aCons, aNil, aCB, aCallP, aCallB, aSlL, aNoPart, aPart, aAndV, aOrV, aNotV, aB, aNotT, aAndT, aOrT, aIf, aLc, tYesA, oI, oI0, oU, oEq, oIxL, oIxT, oCat, oLen, oInt1, oF2, oSum, oList, oTuple, oIn, gN, gT, gTn, iL, iT, iR1, iR2, undd, seqL, toV, toVs, ρ0, retP, aFld, aMeth, aMethK, xWhile, oIsN, iEn, oIsF, aSlT, oAny, aTru, aTruN, oDivmod, oIsiT, oReprD, gL, xNever, aCh, aLcI, isNonO, asD, tyD, kitTB, iR2W, iR3, aMake, aFldC, xFldC, gFldC, gPair, gPairG, xExt, xAugM, aStar, aCnt, oOdd, iEnT, iS, objAt, oAddS, oStrI, oIxS, aJoin, aExc1, aOex]
    refine ⟨_, rfl, ?_⟩
    by_cases c0 : k < 6
    · rw [if_pos (by omega)]
      refine ⟨_, rfl, ?_⟩
      have cs : k = 0 ∨ k = 1 ∨ k = 2 ∨ k = 3 ∨ k = 4 ∨ k = 5 := by omega
      rcases cs with rfl | rfl | rfl | rfl | rfl | rfl <;> exact ⟨_, rfl, hN _⟩
    rw [if_neg (by omega)]
    subst hB
    refine step fun B hB => ?_
    simp [and_assoc, Int.ofNat_inj, sizeLine_eq, any_eq, xSeq, xSet, xAsg, xPar, xPar3, xRet, xDrop, xIf, xBreak, xNext, xAug, xApp, xFrz, xForI, aOp, aUn, aVar, aD, aTup, aLst, aLstC, aCons, aNil, aCB, aCallP, aCallB, aSlL, aNoPart, aPart, aAndV, aOrV, aNotV, aB, aNotT, aAndT, aOrT, aIf, aLc, tYesA, oI, oI0, oU, oEq, oIxL, oIxT, oCat, oLen, oInt1, oF2, oSum, oList, oTuple, oIn, gN, gT, gTn, iL, iT, iR1, iR2, undd, seqL, toV, toVs, ρ0, retP, aFld, aMeth, aMethK, xWhile, oIsN, iEn, oIsF, aSlT, oAny, aTru, aTruN, oDivmod, oIsiT, oReprD, gL, xNever, aCh, aLcI, isNonO, asD, tyD, kitTB, iR2W, iR3, aMake, aFldC, xFldC, gFldC, gPair, gPairG, xExt, xAugM, aStar, aCnt, oOdd, iEnT, iS, objAt, oAddS, oStrI, oIxS, aJoin, aExc1, aOex]
    refine ⟨_, rfl, ?_⟩
    by_cases c1 : k < 12
    · rw [if_pos (by omega)]
      refine ⟨_, rfl, ?_⟩
      have cs : k = 6 ∨ k = 7 ∨ k = 8 ∨ k = 9 ∨ k = 10 ∨ k = 11 := by omega
      rcases cs with rfl | rfl | rfl | rfl | rfl | rfl <;> exact ⟨_, rfl, hN _⟩
    rw [if_neg (by omega)]
    subst hB
    refine step fun B hB => ?_
    simp [and_assoc, Int.ofNat_inj, sizeLine_eq, any_eq, xSeq, xSet, xAsg, xPar, xPar3, xRet, xDrop, xIf, xBreak, xNext, xAug, xApp, xFrz, xForI, aOp, aUn, aVar, aD, aTup, aLst, aLstC, aCons, aNil, aCB, aCallP, aCallB, aSlL, aNoPart, aPart, aAndV, aOrV, aNotV, aB, aNotT, aAndT, aOrT, aIf, aLc, tYesA, oI, oI0, oU, oEq, oIxL, oIxT, oCat, oLen, oInt1, oF2, oSum, oList, oTuple, oIn, gN, gT, gTn, iL, iT, iR1, iR2, undd, seqL, toV, toVs, ρ0, retP, aFld, aMeth, aMethK, xWhile, oIsN, iEn, oIsF, aSlT, oAny, aTru, aTruN, oDivmod, oIsiT, oReprD, gL, xNever, aCh, aLcI, isNonO, asD, tyD, kitTB, iR2W, iR3, aMake, aFldC, xFldC, gFldC, gPair, gPairG, xExt, xAugM, aStar, aCnt, oOdd, iEnT, iS, objAt, oAddS, oStrI, oIxS, aJoin, aExc1, aOex]
    refine ⟨_, rfl, ?_⟩
    by_cases c2 : k < 18
    · rw [if_pos (by omega)]
      refine ⟨_, rfl, ?_⟩
      have cs : k = 12 ∨ k = 13 ∨ k = 14 ∨ k = 15 ∨ k = 16 ∨ k = 17 := by omega
      rcases cs with rfl | rfl | rfl | rfl | rfl | rfl <;> exact ⟨_, rfl, hN _⟩
    rw [if_neg (by omega)]
    subst hB
    refine step fun B hB => ?_
    simp [and_assoc, Int.ofNat_inj, sizeLine_eq, any_eq, xSeq, xSet, xAsg, xPar, xPar3, xRet, xDrop, xIf, xBreak, xNext, xAug, xApp, xFrz, xForI, aOp, aUn, aVar, aD, aTup, aLst, aLstC, aCons, aNil, aCB, aCallP, aCallB, aSlL, aNoPart, aPart, aAndV, aOrV, aNotV, aB, aNotT, aAndT, aOrT, aIf, aLc, tYesA, oI, oI0, oU, oEq, oIxL, oIxT, oCat, oLen, oInt1, oF2, oSum, oList, oTuple, oIn, gN, gT, gTn, iL, iT, iR1, iR2, undd, seqL, toV, toVs, ρ0, retP, aFld, aMeth, aMethK, xWhile, oIsN, iEn, oIsF, aSlT, oAny, aTru, aTruN, oDivmod, oIsiT, oReprD, gL, xNever, aCh, aLcI, isNonO, asD, tyD, kitTB, iR2W, iR3, aMake, aFldC, xFldC, gFldC, gPair, gPairG, xExt, xAugM, aStar, aCnt, oOdd, iEnT, iS, objAt, oAddS, oStrI, oIxS, aJoin, aExc1, aOex]
    refine ⟨_, rfl, ?_⟩
    by_cases c3 : k < 21
    · rw [if_pos (by omega)]
      refine ⟨_, rfl, ?_⟩
      have cs : k = 18 ∨ k = 19 ∨ k = 20 := by omega
      rcases cs with rfl | rfl | rfl <;> exact ⟨_, rfl, hN _⟩
    rw [if_neg (by omega)]
    subst hB
    simp [and_assoc, Int.ofNat_inj, sizeLine_eq, any_eq, xSeq, xSet, xAsg, xPar, xPar3, xRet, xDrop, xIf, xBreak, xNext, xAug, xApp, xFrz, xForI, aOp, aUn, aVar, aD, aTup, aLst, aLstC, aCons, aNil, aCB, aCallP, aCallB, aSlL, aNoPart, aPart, aAndV, aOrV, aNotV, aB, aNotT, aAndT, aOrT, aIf, aLc, tYesA, oI, oI0, oU, oEq, oIxL, oIxT, oCat, oLen, oInt1, oF2, oSum, oList, oTuple, oIn, gN, gT, gTn, iL, iT, iR1, iR2, undd, seqL, toV, toVs, ρ0, retP, aFld, aMeth, aMethK, xWhile, oIsN, iEn, oIsF, aSlT, oAny, aTru, aTruN, oDivmod, oIsiT, oReprD, gL, xNever, aCh, aLcI, isNonO, asD, tyD, kitTB, iR2W, iR3, aMake, aFldC, xFldC, gFldC, gPair, gPairG, xExt, xAugM, aStar, aCnt, oOdd, iEnT, iS, objAt, oAddS, oStrI, oIxS, aJoin, aExc1, aOex]
    refine ⟨_, rfl, ?_⟩
    have cs : k = 21 ∨ k = 22 ∨ k = 23 ∨ k = 24 ∨ k = 25 ∨ k = 26 := by omega
    rcases cs with rfl | rfl | rfl | rfl | rfl | rfl <;> exact ⟨_, rfl, hN _⟩
theorem ok_law_which {fa : Addr} {fd : FuncData} (F : Fun K "_law_which" "_law_which" s__law_which fa fd) {xNoNumber xNoBase xNoDivisor xNoRest xNoFigure xNoMatch xTooWide xNoPlace xNoPeople xNoPerson xNoLater xNoCounts xNoLevels xTooShort xNoState xNoLevel xNoCount xNoOrder xNothingToUndo xNoName xNoRoom xNoRow xNoLook xNoText : Addr} {bm : List Value} (hn : PySem.W.specialIn K (.builtin "object.__class__") "__get__" = some (some (.builtin "getset_descriptor.__get__"))) (htk : PySem.W.takesIn K (.builtin "object.__class__") = some true) (c_NoNumber : XC K mg bm "NoNumber" xNoNumber) (c_NoBase : XC K mg bm "NoBase" xNoBase) (c_NoDivisor : XC K mg bm "NoDivisor" xNoDivisor) (c_NoRest : XC K mg bm "NoRest" xNoRest) (c_NoFigure : XC K mg bm "NoFigure" xNoFigure) (c_NoMatch : XC K mg bm "NoMatch" xNoMatch) (c_TooWide : XC K mg bm "TooWide" xTooWide) (c_NoPlace : XC K mg bm "NoPlace" xNoPlace) (c_NoPeople : XC K mg bm "NoPeople" xNoPeople) (c_NoPerson : XC K mg bm "NoPerson" xNoPerson) (c_NoLater : XC K mg bm "NoLater" xNoLater) (c_NoCounts : XC K mg bm "NoCounts" xNoCounts) (c_NoLevels : XC K mg bm "NoLevels" xNoLevels) (c_TooShort : XC K mg bm "TooShort" xTooShort) (c_NoState : XC K mg bm "NoState" xNoState) (c_NoLevel : XC K mg bm "NoLevel" xNoLevel) (c_NoCount : XC K mg bm "NoCount" xNoCount) (c_NoOrder : XC K mg bm "NoOrder" xNoOrder) (c_NothingToUndo : XC K mg bm "NothingToUndo" xNothingToUndo) (c_NoName : XC K mg bm "NoName" xNoName) (c_NoRoom : XC K mg bm "NoRoom" xNoRoom) (c_NoRow : XC K mg bm "NoRow" xNoRow) (c_NoLook : XC K mg bm "NoLook" xNoLook) (c_NoText : XC K mg bm "NoText" xNoText)  (g_isinstance : mg "isinstance" = none)  : FnOk P w K mg base CX0 (0 + 1) fa fd ["e"] (cP (GB K) (pWhich K [xNoNumber, xNoBase, xNoDivisor, xNoRest, xNoFigure, xNoMatch, xTooWide, xNoPlace, xNoPeople, xNoPerson, xNoLater, xNoCounts, xNoLevels, xTooShort, xNoState, xNoLevel, xNoCount, xNoOrder, xNothingToUndo, xNoName, xNoRoom, xNoRow, xNoLook, xNoText])) := by
  refine F.ok sc__law_which (fun vs H Q E h => ?_) (fun cdv A outer s H vs Q E hr h => ?_)
  · exact lenP (n := 1) (fun ds P h => by obtain ⟨_, _, _, e, _⟩ := h; rw [e]; rfl) h
  · have nd := sc__law_which.nd
    have hu := hu_of hr
    refine ⟨_, (pss_cons (ps_set (i := 1) nd rfl (Or.inl rfl) (pe_lst (pa_cons (pe_callB (call_isiE hn htk) (by rfl) g_isinstance (by decide +kernel) (pa_cons (pv 0) (pa_cons (pe_glob (v := .ref xNoNumber) rfl c_NoNumber.mg rfl) pa_nil))) (pa_cons (pe_callB (call_isiE hn htk) (by rfl) g_isinstance (by decide +kernel) (pa_cons (pv 0) (pa_cons (pe_glob (v := .ref xNoBase) rfl c_NoBase.mg rfl) pa_nil))) (pa_cons (pe_callB (call_isiE hn htk) (by rfl) g_isinstance (by decide +kernel) (pa_cons (pv 0) (pa_cons (pe_glob (v := .ref xNoDivisor) rfl c_NoDivisor.mg rfl) pa_nil))) (pa_cons (pe_callB (call_isiE hn htk) (by rfl) g_isinstance (by decide +kernel) (pa_cons (pv 0) (pa_cons (pe_glob (v := .ref xNoRest) rfl c_NoRest.mg rfl) pa_nil))) pa_nil))))))
      (pss_cons (ps_set (i := 1) nd rfl (Or.inl rfl) (pe_op op_cat (pv 1) (pe_lst (pa_cons (pe_callB (call_isiE hn htk) (by rfl) g_isinstance (by decide +kernel) (pa_cons (pv 0) (pa_cons (pe_glob (v := .ref xNoFigure) rfl c_NoFigure.mg rfl) pa_nil))) (pa_cons (pe_callB (call_isiE hn htk) (by rfl) g_isinstance (by decide +kernel) (pa_cons (pv 0) (pa_cons (pe_glob (v := .ref xNoMatch) rfl c_NoMatch.mg rfl) pa_nil))) (pa_cons (pe_callB (call_isiE hn htk) (by rfl) g_isinstance (by decide +kernel) (pa_cons (pv 0) (pa_cons (pe_glob (v := .ref xTooWide) rfl c_TooWide.mg rfl) pa_nil))) (pa_cons (pe_callB (call_isiE hn htk) (by rfl) g_isinstance (by decide +kernel) (pa_cons (pv 0) (pa_cons (pe_glob (v := .ref xNoPlace) rfl c_NoPlace.mg rfl) pa_nil))) pa_nil)))))))
      (pss_cons (ps_set (i := 1) nd rfl (Or.inl rfl) (pe_op op_cat (pv 1) (pe_lst (pa_cons (pe_callB (call_isiE hn htk) (by rfl) g_isinstance (by decide +kernel) (pa_cons (pv 0) (pa_cons (pe_glob (v := .ref xNoPeople) rfl c_NoPeople.mg rfl) pa_nil))) (pa_cons (pe_callB (call_isiE hn htk) (by rfl) g_isinstance (by decide +kernel) (pa_cons (pv 0) (pa_cons (pe_glob (v := .ref xNoPerson) rfl c_NoPerson.mg rfl) pa_nil))) (pa_cons (pe_callB (call_isiE hn htk) (by rfl) g_isinstance (by decide +kernel) (pa_cons (pv 0) (pa_cons (pe_glob (v := .ref xNoLater) rfl c_NoLater.mg rfl) pa_nil))) (pa_cons (pe_callB (call_isiE hn htk) (by rfl) g_isinstance (by decide +kernel) (pa_cons (pv 0) (pa_cons (pe_glob (v := .ref xNoCounts) rfl c_NoCounts.mg rfl) pa_nil))) pa_nil)))))))
      (pss_cons (ps_set (i := 1) nd rfl (Or.inl rfl) (pe_op op_cat (pv 1) (pe_lst (pa_cons (pe_callB (call_isiE hn htk) (by rfl) g_isinstance (by decide +kernel) (pa_cons (pv 0) (pa_cons (pe_glob (v := .ref xNoLevels) rfl c_NoLevels.mg rfl) pa_nil))) (pa_cons (pe_callB (call_isiE hn htk) (by rfl) g_isinstance (by decide +kernel) (pa_cons (pv 0) (pa_cons (pe_glob (v := .ref xTooShort) rfl c_TooShort.mg rfl) pa_nil))) (pa_cons (pe_callB (call_isiE hn htk) (by rfl) g_isinstance (by decide +kernel) (pa_cons (pv 0) (pa_cons (pe_glob (v := .ref xNoState) rfl c_NoState.mg rfl) pa_nil))) (pa_cons (pe_callB (call_isiE hn htk) (by rfl) g_isinstance (by decide +kernel) (pa_cons (pv 0) (pa_cons (pe_glob (v := .ref xNoLevel) rfl c_NoLevel.mg rfl) pa_nil))) pa_nil)))))))
      (pss_cons (ps_set (i := 1) nd rfl (Or.inl rfl) (pe_op op_cat (pv 1) (pe_lst (pa_cons (pe_callB (call_isiE hn htk) (by rfl) g_isinstance (by decide +kernel) (pa_cons (pv 0) (pa_cons (pe_glob (v := .ref xNoCount) rfl c_NoCount.mg rfl) pa_nil))) (pa_cons (pe_callB (call_isiE hn htk) (by rfl) g_isinstance (by decide +kernel) (pa_cons (pv 0) (pa_cons (pe_glob (v := .ref xNoOrder) rfl c_NoOrder.mg rfl) pa_nil))) (pa_cons (pe_callB (call_isiE hn htk) (by rfl) g_isinstance (by decide +kernel) (pa_cons (pv 0) (pa_cons (pe_glob (v := .ref xNothingToUndo) rfl c_NothingToUndo.mg rfl) pa_nil))) (pa_cons (pe_callB (call_isiE hn htk) (by rfl) g_isinstance (by decide +kernel) (pa_cons (pv 0) (pa_cons (pe_glob (v := .ref xNoName) rfl c_NoName.mg rfl) pa_nil))) pa_nil)))))))
      (pss_one (ps_ret (pe_op op_cat (pv 1) (pe_lst (pa_cons (pe_callB (call_isiE hn htk) (by rfl) g_isinstance (by decide +kernel) (pa_cons (pv 0) (pa_cons (pe_glob (v := .ref xNoRoom) rfl c_NoRoom.mg rfl) pa_nil))) (pa_cons (pe_callB (call_isiE hn htk) (by rfl) g_isinstance (by decide +kernel) (pa_cons (pv 0) (pa_cons (pe_glob (v := .ref xNoRow) rfl c_NoRow.mg rfl) pa_nil))) (pa_cons (pe_callB (call_isiE hn htk) (by rfl) g_isinstance (by decide +kernel) (pa_cons (pv 0) (pa_cons (pe_glob (v := .ref xNoLook) rfl c_NoLook.mg rfl) pa_nil))) (pa_cons (pe_callB (call_isiE hn htk) (by rfl) g_isinstance (by decide +kernel) (pa_cons (pv 0) (pa_cons (pe_glob (v := .ref xNoText) rfl c_NoText.mg rfl) pa_nil))) pa_nil))))))))))))), ?_⟩
    refine fn_P (G := (GB K)) (N := ["e", "one"]) (x_seq (x_set (r_lst (r_cons (r_CB o_isiE (r_cons (r_var (i := 0)) (r_cons r_cls r_nil))) (r_cons (r_CB o_isiE (r_cons (r_var (i := 0)) (r_cons r_cls r_nil))) (r_cons (r_CB o_isiE (r_cons (r_var (i := 0)) (r_cons r_cls r_nil))) (r_cons (r_CB o_isiE (r_cons (r_var (i := 0)) (r_cons r_cls r_nil))) r_nil)))))) (x_seq (x_set (r_op o_cat (r_var (i := 1)) (r_lst (r_cons (r_CB o_isiE (r_cons (r_var (i := 0)) (r_cons r_cls r_nil))) (r_cons (r_CB o_isiE (r_cons (r_var (i := 0)) (r_cons r_cls r_nil))) (r_cons (r_CB o_isiE (r_cons (r_var (i := 0)) (r_cons r_cls r_nil))) (r_cons (r_CB o_isiE (r_cons (r_var (i := 0)) (r_cons r_cls r_nil))) r_nil))))))) (x_seq (x_set (r_op o_cat (r_var (i := 1)) (r_lst (r_cons (r_CB o_isiE (r_cons (r_var (i := 0)) (r_cons r_cls r_nil))) (r_cons (r_CB o_isiE (r_cons (r_var (i := 0)) (r_cons r_cls r_nil))) (r_cons (r_CB o_isiE (r_cons (r_var (i := 0)) (r_cons r_cls r_nil))) (r_cons (r_CB o_isiE (r_cons (r_var (i := 0)) (r_cons r_cls r_nil))) r_nil))))))) (x_seq (x_set (r_op o_cat (r_var (i := 1)) (r_lst (r_cons (r_CB o_isiE (r_cons (r_var (i := 0)) (r_cons r_cls r_nil))) (r_cons (r_CB o_isiE (r_cons (r_var (i := 0)) (r_cons r_cls r_nil))) (r_cons (r_CB o_isiE (r_cons (r_var (i := 0)) (r_cons r_cls r_nil))) (r_cons (r_CB o_isiE (r_cons (r_var (i := 0)) (r_cons r_cls r_nil))) r_nil))))))) (x_seq (x_set (r_op o_cat (r_var (i := 1)) (r_lst (r_cons (r_CB o_isiE (r_cons (r_var (i := 0)) (r_cons r_cls r_nil))) (r_cons (r_CB o_isiE (r_cons (r_var (i := 0)) (r_cons r_cls r_nil))) (r_cons (r_CB o_isiE (r_cons (r_var (i := 0)) (r_cons r_cls r_nil))) (r_cons (r_CB o_isiE (r_cons (r_var (i := 0)) (r_cons r_cls r_nil))) r_nil))))))) (x_ret (r_op o_cat (r_var (i := 1)) (r_lst (r_cons (r_CB o_isiE (r_cons (r_var (i := 0)) (r_cons r_cls r_nil))) (r_cons (r_CB o_isiE (r_cons (r_var (i := 0)) (r_cons r_cls r_nil))) (r_cons (r_CB o_isiE (r_cons (r_var (i := 0)) (r_cons r_cls r_nil))) (r_cons (r_CB o_isiE (r_cons (r_var (i := 0)) (r_cons r_cls r_nil))) r_nil)))))))))))) h ?_
    rintro ds P ⟨a, fs, f, rfl, ek, hf, q⟩
    refine startN (fun N => ∀ cs, N.rt (.d (.lst ((List.range 24).map fun j => .bl (f j)))) cs) (fun cs => q) fun N hN => ?_
    refine step fun B hB => ?_
    simp [and_assoc, Int.ofNat_inj, sizeLine_eq, any_eq, xSeq, xSet, xAsg, xPar, xPar3, xRet, xDrop, xIf, xBreak, xNext, xAug, xApp, xFrz, xForI, aOp, aUn, aVar, aD, aTup, aLst, aLstC, aCons, aNil, aCB, aCallP, aCallB, aSlL, aNoPart, aPart, aAndV, aOrV, aNotV, aB, aNotT, aAndT, aOrT, aIf, aLc, tYesA, oI, oI0, oU, oEq, oIxL, oIxT, oCat, oLen, oInt1, oF2, oSum, oList, oTuple, oIn, gN, gT, gTn, iL, iT, iR1, iR2, undd, seqL, toV, toVs, ρ0, retP, aFld, aMeth, aMethK, xWhile, oIsN, iEn, oIsF, aSlT, oAny, aTru, aTruN, oDivmod, oIsiT, oReprD, gL, xNever, aCh, aLcI, isNonO, asD, tyD, kitTB, iR2W, iR3, aMake, aFldC, xFldC, gFldC, gPair, gPairG, xExt, xAugM, aStar, aCnt, oOdd, iEnT, iS, objAt, oAddS, oStrI, oIxS, aJoin, aExc1, aOex]
    refine ⟨_, _, _, _, _, rfl, isCls_own _, ek, hf 0 _ rfl, _, _, _, _, _, rfl, isCls_own _, ek, hf 1 _ rfl, _, _, _, _, _, rfl, isCls_own _, ek, hf 2 _ rfl, _, _, _, _, _, rfl, isCls_own _, ek, hf 3 _ rfl, ?_⟩
    simp [and_assoc, Int.ofNat_inj, sizeLine_eq, any_eq, xSeq, xSet, xAsg, xPar, xPar3, xRet, xDrop, xIf, xBreak, xNext, xAug, xApp, xFrz, xForI, aOp, aUn, aVar, aD, aTup, aLst, aLstC, aCons, aNil, aCB, aCallP, aCallB, aSlL, aNoPart, aPart, aAndV, aOrV, aNotV, aB, aNotT, aAndT, aOrT, aIf, aLc, tYesA, oI, oI0, oU, oEq, oIxL, oIxT, oCat, oLen, oInt1, oF2, oSum, oList, oTuple, oIn, gN, gT, gTn, iL, iT, iR1, iR2, undd, seqL, toV, toVs, ρ0, retP, aFld, aMeth, aMethK, xWhile, oIsN, iEn, oIsF, aSlT, oAny, aTru, aTruN, oDivmod, oIsiT, oReprD, gL, xNever, aCh, aLcI, isNonO, asD, tyD, kitTB, iR2W, iR3, aMake, aFldC, xFldC, gFldC, gPair, gPairG, xExt, xAugM, aStar, aCnt, oOdd, iEnT, iS, objAt, oAddS, oStrI, oIxS, aJoin, aExc1, aOex]
    subst hB
    refine step fun B hB => ?_
    simp [and_assoc, Int.ofNat_inj, sizeLine_eq, any_eq, xSeq, xSet, xAsg, xPar, xPar3, xRet, xDrop, xIf, xBreak, xNext, xAug, xApp, xFrz, xForI, aOp, aUn, aVar, aD, aTup, aLst, aLstC, aCons, aNil, aCB, aCallP, aCallB, aSlL, aNoPart, aPart, aAndV, aOrV, aNotV, aB, aNotT, aAndT, aOrT, aIf, aLc, tYesA, oI, oI0, oU, oEq, oIxL, oIxT, oCat, oLen, oInt1, oF2, oSum, oList, oTuple, oIn, gN, gT, gTn, iL, iT, iR1, iR2, undd, seqL, toV, toVs, ρ0, retP, aFld, aMeth, aMethK, xWhile, oIsN, iEn, oIsF, aSlT, oAny, aTru, aTruN, oDivmod, oIsiT, oReprD, gL, xNever, aCh, aLcI, isNonO, asD, tyD, kitTB, iR2W, iR3, aMake, aFldC, xFldC, gFldC, gPair, gPairG, xExt, xAugM, aStar, aCnt, oOdd, iEnT, iS, objAt, oAddS, oStrI, oIxS, aJoin, aExc1, aOex]
    refine ⟨_, _, _, _, _, rfl, isCls_own _, ek, hf 4 _ rfl, _, _, _, _, _, rfl, isCls_own _, ek, hf 5 _ rfl, _, _, _, _, _, rfl, isCls_own _, ek, hf 6 _ rfl, _, _, _, _, _, rfl, isCls_own _, ek, hf 7 _ rfl, ?_⟩
    simp [and_assoc, Int.ofNat_inj, sizeLine_eq, any_eq, xSeq, xSet, xAsg, xPar, xPar3, xRet, xDrop, xIf, xBreak, xNext, xAug, xApp, xFrz, xForI, aOp, aUn, aVar, aD, aTup, aLst, aLstC, aCons, aNil, aCB, aCallP, aCallB, aSlL, aNoPart, aPart, aAndV, aOrV, aNotV, aB, aNotT, aAndT, aOrT, aIf, aLc, tYesA, oI, oI0, oU, oEq, oIxL, oIxT, oCat, oLen, oInt1, oF2, oSum, oList, oTuple, oIn, gN, gT, gTn, iL, iT, iR1, iR2, undd, seqL, toV, toVs, ρ0, retP, aFld, aMeth, aMethK, xWhile, oIsN, iEn, oIsF, aSlT, oAny, aTru, aTruN, oDivmod, oIsiT, oReprD, gL, xNever, aCh, aLcI, isNonO, asD, tyD, kitTB, iR2W, iR3, aMake, aFldC, xFldC, gFldC, gPair, gPairG, xExt, xAugM, aStar, aCnt, oOdd, iEnT, iS, objAt, oAddS, oStrI, oIxS, aJoin, aExc1, aOex]
    subst hB
    refine step fun B hB => ?_
    simp [and_assoc, Int.ofNat_inj, sizeLine_eq, any_eq, xSeq, xSet, xAsg, xPar, xPar3, xRet, xDrop, xIf, xBreak, xNext, xAug, xApp, xFrz, xForI, aOp, aUn, aVar, aD, aTup, aLst, aLstC, aCons, aNil, aCB, aCallP, aCallB, aSlL, aNoPart, aPart, aAndV, aOrV, aNotV, aB, aNotT, aAndT, aOrT, aIf, aLc, tYesA, oI, oI0, oU, oEq, oIxL, oIxT, oCat, oLen, oInt1, oF2, oSum, oList, oTuple, oIn, gN, gT, gTn, iL, iT, iR1, iR2, undd, seqL, toV, toVs, ρ0, retP, aFld, aMeth, aMethK, xWhile, oIsN, iEn, oIsF, aSlT, oAny, aTru, aTruN, oDivmod, oIsiT, oReprD, gL, xNever, aCh, aLcI, isNonO, asD, tyD, kitTB, iR2W, iR3, aMake, aFldC, xFldC, gFldC, gPair, gPairG, xExt, xAugM, aStar, aCnt, oOdd, iEnT, iS, objAt, oAddS, oStrI, oIxS, aJoin, aExc1, aOex]
    refine ⟨_, _, _, _, _, rfl, isCls_own _, ek, hf 8 _ rfl, _, _, _, _, _, rfl, isCls_own _, ek, hf 9 _ rfl, _, _, _, _, _, rfl, isCls_own _, ek, hf 10 _ rfl, _, _, _, _, _, rfl, isCls_own _, ek, hf 11 _ rfl, ?_⟩
    simp [and_assoc, Int.ofNat_inj, sizeLine_eq, any_eq, xSeq, xSet, xAsg, xPar, xPar3, xRet, xDrop, xIf, xBreak, xNext, xAug, xApp, xFrz, xForI, aOp, aUn, aVar, aD, aTup, aLst, aLstC, aCons, aNil, aCB, aCallP, aCallB, aSlL, aNoPart, aPart, aAndV, aOrV, aNotV, aB, aNotT, aAndT, aOrT, aIf, aLc, tYesA, oI, oI0, oU, oEq, oIxL, oIxT, oCat, oLen, oInt1, oF2, oSum, oList, oTuple, oIn, gN, gT, gTn, iL, iT, iR1, iR2, undd, seqL, toV, toVs, ρ0, retP, aFld, aMeth, aMethK, xWhile, oIsN, iEn, oIsF, aSlT, oAny, aTru, aTruN, oDivmod, oIsiT, oReprD, gL, xNever, aCh, aLcI, isNonO, asD, tyD, kitTB, iR2W, iR3, aMake, aFldC, xFldC, gFldC, gPair, gPairG, xExt, xAugM, aStar, aCnt, oOdd, iEnT, iS, objAt, oAddS, oStrI, oIxS, aJoin, aExc1, aOex]
    subst hB
    refine step fun B hB => ?_
    simp [and_assoc, Int.ofNat_inj, sizeLine_eq, any_eq, xSeq, xSet, xAsg, xPar, xPar3, xRet, xDrop, xIf, xBreak, xNext, xAug, xApp, xFrz, xForI, aOp, aUn, aVar, aD, aTup, aLst, aLstC, aCons, aNil, aCB, aCallP, aCallB, aSlL, aNoPart, aPart, aAndV, aOrV, aNotV, aB, aNotT, aAndT, aOrT, aIf, aLc, tYesA, oI, oI0, oU, oEq, oIxL, oIxT, oCat, oLen, oInt1, oF2, oSum, oList, oTuple, oIn, gN, gT, gTn, iL, iT, iR1, iR2, undd, seqL, toV, toVs, ρ0, retP, aFld, aMeth, aMethK, xWhile, oIsN, iEn, oIsF, aSlT, oAny, aTru, aTruN, oDivmod, oIsiT, oReprD, gL, xNever, aCh, aLcI, isNonO, asD, tyD, kitTB, iR2W, iR3, aMake, aFldC, xFldC, gFldC, gPair, gPairG, xExt, xAugM, aStar, aCnt, oOdd, iEnT, iS, objAt, oAddS, oStrI, oIxS, aJoin, aExc1, aOex]
    refine ⟨_, _, _, _, _, rfl, isCls_own _, ek, hf 12 _ rfl, _, _, _, _, _, rfl, isCls_own _, ek, hf 13 _ rfl, _, _, _, _, _, rfl, isCls_own _, ek, hf 14 _ rfl, _, _, _, _, _, rfl, isCls_own _, ek, hf 15 _ rfl, ?_⟩
    simp [and_assoc, Int.ofNat_inj, sizeLine_eq, any_eq, xSeq, xSet, xAsg, xPar, xPar3, xRet, xDrop, xIf, xBreak, xNext, xAug, xApp, xFrz, xForI, aOp, aUn, aVar, aD, aTup, aLst, aLstC, aCons, aNil, aCB, aCallP, aCallB, aSlL, aNoPart, aPart, aAndV, aOrV, aNotV, aB, aNotT, aAndT, aOrT, aIf, aLc, tYesA, oI, oI0, oU, oEq, oIxL, oIxT, oCat, oLen, oInt1, oF2, oSum, oList, oTuple, oIn, gN, gT, gTn, iL, iT, iR1, iR2, undd, seqL, toV, toVs, ρ0, retP, aFld, aMeth, aMethK, xWhile, oIsN, iEn, oIsF, aSlT, oAny, aTru, aTruN, oDivmod, oIsiT, oReprD, gL, xNever, aCh, aLcI, isNonO, asD, tyD, kitTB, iR2W, iR3, aMake, aFldC, xFldC, gFldC, gPair, gPairG, xExt, xAugM, aStar, aCnt, oOdd, iEnT, iS, objAt, oAddS, oStrI, oIxS, aJoin, aExc1, aOex]
    subst hB
    refine step fun B hB => ?_
    simp [and_assoc, Int.ofNat_inj, sizeLine_eq, any_eq, xSeq, xSet, xAsg, xPar, xPar3, xRet, xDrop, xIf, xBreak, xNext, xAug, xApp, xFrz, xForI, aOp, aUn, aVar, aD, aTup, aLst, aLstC, aCons, aNil, aCB, aCallP, aCallB, aSlL, aNoPart, aPart, aAndV, aOrV, aNotV, aB, aNotT, aAndT, aOrT, aIf, aLc, tYesA, oI, oI0, oU, oEq, oIxL, oIxT, oCat, oLen, oInt1, oF2, oSum, oList, oTuple, oIn, gN, gT, gTn, iL, iT, iR1, iR2, undd, seqL, toV, toVs, ρ0, retP, aFld, aMeth, aMethK, xWhile, oIsN, iEn, oIsF, aSlT, oAny, aTru, aTruN, oDivmod, oIsiT, oReprD, gL, xNever, aCh, aLcI, isNonO, asD, tyD, kitTB, iR2W, iR3, aMake, aFldC, xFldC, gFldC, gPair, gPairG, xExt, xAugM, aStar, aCnt, oOdd, iEnT, iS, objAt, oAddS, oStrI, oIxS, aJoin, aExc1, aOex]
    refine ⟨_, _, _, _, _, rfl, isCls_own _, ek, hf 16 _ rfl, _, _, _, _, _, rfl, isCls_own _, ek, hf 17 _ rfl, _, _, _, _, _, rfl, isCls_own _, ek, hf 18 _ rfl, _, _, _, _, _, rfl, isCls_own _, ek, hf 19 _ rfl, ?_⟩
    simp [and_assoc, Int.ofNat_inj, sizeLine_eq, any_eq, xSeq, xSet, xAsg, xPar, xPar3, xRet, xDrop, xIf, xBreak, xNext, xAug, xApp, xFrz, xForI, aOp, aUn, aVar, aD, aTup, aLst, aLstC, aCons, aNil, aCB, aCallP, aCallB, aSlL, aNoPart, aPart, aAndV, aOrV, aNotV, aB, aNotT, aAndT, aOrT, aIf, aLc, tYesA, oI, oI0, oU, oEq, oIxL, oIxT, oCat, oLen, oInt1, oF2, oSum, oList, oTuple, oIn, gN, gT, gTn, iL, iT, iR1, iR2, undd, seqL, toV, toVs, ρ0, retP, aFld, aMeth, aMethK, xWhile, oIsN, iEn, oIsF, aSlT, oAny, aTru, aTruN, oDivmod, oIsiT, oReprD, gL, xNever, aCh, aLcI, isNonO, asD, tyD, kitTB, iR2W, iR3, aMake, aFldC, xFldC, gFldC, gPair, gPairG, xExt, xAugM, aStar, aCnt, oOdd, iEnT, iS, objAt, oAddS, oStrI, oIxS, aJoin, aExc1, aOex]
    subst hB
    simp [and_assoc, Int.ofNat_inj, sizeLine_eq, any_eq, xSeq, xSet, xAsg, xPar, xPar3, xRet, xDrop, xIf, xBreak, xNext, xAug, xApp, xFrz, xForI, aOp, aUn, aVar, aD, aTup, aLst, aLstC, aCons, aNil, aCB, aCallP, aCallB, aSlL, aNoPart, aPart, aAndV, aOrV, aNotV, aB, aNotT, aAndT, aOrT, aIf, aLc, tYesA, oI, oI0, oU, oEq, oIxL, oIxT, oCat, oLen, oInt1, oF2, oSum, oList, oTuple, oIn, gN, gT, gTn, iL, iT, iR1, iR2, undd, seqL, toV, toVs, ρ0, retP, aFld, aMeth, aMethK, xWhile, oIsN, iEn, oIsF, aSlT, oAny, aTru, aTruN, oDivmod, oIsiT, oReprD, gL, xNever, aCh, aLcI, isNonO, asD, tyD, kitTB, iR2W, iR3, aMake, aFldC, xFldC, gFldC, gPair, gPairG, xExt, xAugM, aStar, aCnt, oOdd, iEnT, iS, objAt, oAddS, oStrI, oIxS, aJoin, aExc1, aOex]
    refine ⟨_, _, _, _, _, rfl, isCls_own _, ek, hf 20 _ rfl, _, _, _, _, _, rfl, isCls_own _, ek, hf 21 _ rfl, _, _, _, _, _, rfl, isCls_own _, ek, hf 22 _ rfl, _, _, _, _, _, rfl, isCls_own _, ek, hf 23 _ rfl, ?_⟩
    simp [and_assoc, Int.ofNat_inj, sizeLine_eq, any_eq, xSeq, xSet, xAsg, xPar, xPar3, xRet, xDrop, xIf, xBreak, xNext, xAug, xApp, xFrz, xForI, aOp, aUn, aVar, aD, aTup, aLst, aLstC, aCons, aNil, aCB, aCallP, aCallB, aSlL, aNoPart, aPart, aAndV, aOrV, aNotV, aB, aNotT, aAndT, aOrT, aIf, aLc, tYesA, oI, oI0, oU, oEq, oIxL, oIxT, oCat, oLen, oInt1, oF2, oSum, oList, oTuple, oIn, gN, gT, gTn, iL, iT, iR1, iR2, undd, seqL, toV, toVs, ρ0, retP, aFld, aMeth, aMethK, xWhile, oIsN, iEn, oIsF, aSlT, oAny, aTru, aTruN, oDivmod, oIsiT, oReprD, gL, xNever, aCh, aLcI, isNonO, asD, tyD, kitTB, iR2W, iR3, aMake, aFldC, xFldC, gFldC, gPair, gPairG, xExt, xAugM, aStar, aCnt, oOdd, iEnT, iS, objAt, oAddS, oStrI, oIxS, aJoin, aExc1, aOex]
    exact hN _
theorem ok_law_value {fa : Addr} {fd : FuncData} (F : Fun K "_law_value" "_law_value" s__law_value fa fd)  (D__law_draw : Df P w K mg base CX0 1 "_law_draw" ["bag", "many"] (cB (GB K) (pDraw K))) (g_str : mg "str" = none)  : FnOk P w K mg base CX0 (1 + 1) fa fd ["bag"] (cB (GB K) (pValue K)) := by
  obtain ⟨_, _, G__law_draw, g__law_draw, k__law_draw, b__law_draw⟩ := D__law_draw
  refine F.ok sc__law_value (fun vs H Q E h => ?_) (fun cdv A outer s H vs Q E hr h => ?_)
  · exact lenB (n := 0) (fun c ds P h => by obtain ⟨e, _⟩ := h; rw [e]; rfl) h
  · have nd := sc__law_value.nd
    have hu := hu_of hr
    refine ⟨_, (pss_cons (ps_par (by rfl) nd (i := 1) (j := 2) rfl rfl (by decide) rfl rfl (pa_cons (pe_call G__law_draw (hr.mono (by omega)) (by rfl) g__law_draw k__law_draw b__law_draw .nil pass0 (pa_cons (pv 0) (pa_cons pe_int pa_nil))) (pa_cons (pe_call G__law_draw (hr.mono (by omega)) (by rfl) g__law_draw k__law_draw b__law_draw .nil pass0 (pa_cons (pv 0) (pa_cons (pe_op op_powW pe_int pe_int) pa_nil))) pa_nil)) (by rfl))
      (pss_cons (ps_set (i := 3) nd rfl (Or.inl rfl) (pe_lst (pa_cons (pv 2) (pa_cons (pe_op op_sub (pe_un un_neg pe_int) (pv 2)) (pa_cons (pe_lst (pa_cons (pv 2) (pa_cons (pe_lst (pa_cons pe_int pa_nil)) pa_nil))) (pa_cons pe_non (pa_cons (pe_op op_add_str pe_str (pe_callTy call_str_int (by rfl) g_str (by decide +kernel) (pa_cons (pv 2) pa_nil))) (pa_cons (pe_tup (pa_cons (pv 2) (pa_cons pe_non pa_nil))) (pa_cons (pe_cmpR op_gt (pv 2) (pe_op op_powW pe_int pe_int) (nomark _)) pa_nil)))))))))
      (pss_one (ps_ret (pe_ix ix_list (pv 3) (pv 1) (fun _ _ => rfl)))))), ?_⟩
    refine fn_B (G := (GB K)) (N := ["bag", "way", "far", "some"]) (x_seq (x_par (r_cons (r_callB (r_cons (r_var (i := 0)) (r_cons r_int r_nil))) (r_cons (r_callB (r_cons (r_var (i := 0)) (r_cons (r_op o_powW r_int r_int) r_nil))) r_nil))) (x_seq (x_set (r_lst (r_cons (r_var (i := 2)) (r_cons (r_op o_sub (r_un o_neg r_int) (r_var (i := 2))) (r_cons (r_lst (r_cons (r_var (i := 2)) (r_cons (r_lst (r_cons r_int r_nil)) r_nil))) (r_cons r_non (r_cons (r_op o_addS r_str (r_CB o_strI (r_cons (r_var (i := 2)) r_nil))) (r_cons (r_tup (r_cons (r_var (i := 2)) (r_cons r_non r_nil))) (r_cons (r_op o_gt (r_var (i := 2)) (r_op o_powW r_int r_int)) r_nil))))))))) (x_ret (r_op o_ixL (r_var (i := 3)) (r_var (i := 1)))))) h ?_
    rintro n ds P ⟨rfl, hn, q⟩
    refine startN (fun N => ∀ d (n' : Nat) cs', Vl d → cs'[0]? = some (.any n') → N.rt (.d d) cs') (fun d n' cs' h e => ⟨n', e, q d n' h⟩) fun N hN => ?_
    refine step fun B hB => ?_
    simp [and_assoc, Int.ofNat_inj, sizeLine_eq, any_eq, xSeq, xSet, xAsg, xPar, xPar3, xRet, xDrop, xIf, xBreak, xNext, xAug, xApp, xFrz, xForI, aOp, aUn, aVar, aD, aTup, aLst, aLstC, aCons, aNil, aCB, aCallP, aCallB, aSlL, aNoPart, aPart, aAndV, aOrV, aNotV, aB, aNotT, aAndT, aOrT, aIf, aLc, tYesA, oI, oI0, oU, oEq, oIxL, oIxT, oCat, oLen, oInt1, oF2, oSum, oList, oTuple, oIn, gN, gT, gTn, iL, iT, iR1, iR2, undd, seqL, toV, toVs, ρ0, retP, aFld, aMeth, aMethK, xWhile, oIsN, iEn, oIsF, aSlT, oAny, aTru, aTruN, oDivmod, oIsiT, oReprD, gL, xNever, aCh, aLcI, isNonO, asD, tyD, kitTB, iR2W, iR3, aMake, aFldC, xFldC, gFldC, gPair, gPairG, xExt, xAugM, aStar, aCnt, oOdd, iEnT, iS, objAt, oAddS, oStrI, oIxS, aJoin, aExc1, aOex]
    refine ⟨_, rfl, by omega, by decide, Nat.le_trans hn (by decide), fun x hx => ⟨p40, _, rfl, by omega, by decide, Nat.le_trans (Nat.succ_le_succ hn) (by decide), fun y hy => ?_⟩⟩
    subst hB
    have y40 : y < 10 ^ 40 := by
      have : (y : Int) < 10 ^ 40 := hy
      omega
    have e3 := tl40 (i := (y : Int)) (by simpa using Nat.le_of_lt y40)
    simp [and_assoc, Int.ofNat_inj, sizeLine_eq, any_eq, xSeq, xSet, xAsg, xPar, xPar3, xRet, xDrop, xIf, xBreak, xNext, xAug, xApp, xFrz, xForI, aOp, aUn, aVar, aD, aTup, aLst, aLstC, aCons, aNil, aCB, aCallP, aCallB, aSlL, aNoPart, aPart, aAndV, aOrV, aNotV, aB, aNotT, aAndT, aOrT, aIf, aLc, tYesA, oI, oI0, oU, oEq, oIxL, oIxT, oCat, oLen, oInt1, oF2, oSum, oList, oTuple, oIn, gN, gT, gTn, iL, iT, iR1, iR2, undd, seqL, toV, toVs, ρ0, retP, aFld, aMeth, aMethK, xWhile, oIsN, iEn, oIsF, aSlT, oAny, aTru, aTruN, oDivmod, oIsiT, oReprD, gL, xNever, aCh, aLcI, isNonO, asD, tyD, kitTB, iR2W, iR3, aMake, aFldC, xFldC, gFldC, gPair, gPairG, xExt, xAugM, aStar, aCnt, oOdd, iEnT, iS, objAt, oAddS, oStrI, oIxS, aJoin, aExc1, aOex]
    have e4 : (Str.ofString "row ").length = 4 := by decide +kernel
    refine ⟨lg40 y40, by rw [e4]; have : (Str.ofString (y : Int).repr).length ≤ 42 := e3; omega, p20, ?_⟩
    have cx : x = 0 ∨ x = 1 ∨ x = 2 ∨ x = 3 ∨ x = 4 ∨ x = 5 ∨ x = 6 := by omega
    rcases cx with rfl | rfl | rfl | rfl | rfl | rfl | rfl
    · exact ⟨_, rfl, hN _ _ _ (.far y y40) rfl⟩
    · exact ⟨_, rfl, hN _ _ _ (.neg y y40) rfl⟩
    · exact ⟨_, rfl, hN _ _ _ (.lst y y40) rfl⟩
    · exact ⟨_, rfl, hN _ _ _ .non rfl⟩
    · exact ⟨_, rfl, hN _ _ _ (.str y y40) rfl⟩
    · exact ⟨_, rfl, hN _ _ _ (.tup y y40) rfl⟩
    · exact ⟨_, rfl, hN _ _ _ (.bl _) rfl⟩
theorem ok_law_words {fa : Addr} {fd : FuncData} (F : Fun K "_law_words" "_law_words" s__law_words fa fd)  (D__law_draw : Df P w K mg base CX0 1 "_law_draw" ["bag", "many"] (cB (GB K) (pDraw K))) (g_len : mg "len" = none) (g_range : mg "range" = none)  : FnOk P w K mg base CX0 (1 + 1) fa fd ["bag"] (cB (GB K) (pWords K)) := by
  obtain ⟨_, _, G__law_draw, g__law_draw, k__law_draw, b__law_draw⟩ := D__law_draw
  refine F.ok sc__law_words (fun vs H Q E h => ?_) (fun cdv A outer s H vs Q E hr h => ?_)
  · exact lenB (n := 0) (fun c ds P h => by obtain ⟨e, _⟩ := h; rw [e]; rfl) h
  · have nd := sc__law_words.nd
    have hu := hu_of hr
    refine ⟨_, (pss_cons (ps_set (i := 1) nd rfl (Or.inr rfl) pe_str)
      (pss_one (ps_ret (pe_join pe_str (pe_lc (own := [("k", 2)]) (g := gName 2) (tt := tYes) (by rfl) nd (pi_range1 (by rfl) g_range (pa_cons (pe_call G__law_draw (hr.mono (by omega)) (by rfl) g__law_draw k__law_draw b__law_draw .nil pass0 (pa_cons (pv 0) (pa_cons pe_int pa_nil))) pa_nil)) (blkOk_by (own := [("k", 2)]) (N := ["bag", "signs", "k"]) (sc := defScope s__law_words) (by decide +kernel)) (fun _ _ _ _ _ => (pg_name (i := 2) nd rfl (Or.inl rfl))) (fun _ _ _ _ _ => pts_nil) (fun _ _ _ _ _ => (pe_ix (by exact ix_str) (pv 1) (pe_call G__law_draw (hr.mono (by omega)) (by rfl) g__law_draw k__law_draw b__law_draw .nil pass0 (pa_cons (pv 0) (pa_cons (pe_callB (show CallR _ _ (rLen K) from call_len) (by rfl) g_len PySem.boot_len (pa_cons (pv 1) pa_nil)) pa_nil))) (fun _ _ => rfl)))))))), ?_⟩
    refine fn_B (G := (GB K)) (N := ["bag", "signs", "k"]) (x_seq (x_set r_str) (x_ret (r_join r_str (r_lcI (is := [2]) (i_r1 (r_cons (r_callB (r_cons (r_var (i := 0)) (r_cons r_int r_nil))) r_nil)) (g_name (i := 2) (by simp)) rt_yes (r_op o_ixS (r_var (i := 1)) (r_callB (r_cons (r_var (i := 0)) (r_cons (r_CB o_len (r_cons (r_var (i := 1)) r_nil)) r_nil)))))))) h ?_
    rintro n ds P ⟨rfl, hn, q⟩
    refine startN (fun N => ∀ z (n' : Nat) cs', n' ≤ n + 13 → cs'[0]? = some (.any n') → N.rt (.d (.str z)) cs') (fun d n' cs' h e => ⟨n', e, q d n' h⟩) fun N hN => ?_
    refine step fun B hB => ?_
    simp [and_assoc, Int.ofNat_inj, sizeLine_eq, any_eq, xSeq, xSet, xAsg, xPar, xPar3, xRet, xDrop, xIf, xBreak, xNext, xAug, xApp, xFrz, xForI, aOp, aUn, aVar, aD, aTup, aLst, aLstC, aCons, aNil, aCB, aCallP, aCallB, aSlL, aNoPart, aPart, aAndV, aOrV, aNotV, aB, aNotT, aAndT, aOrT, aIf, aLc, tYesA, oI, oI0, oU, oEq, oIxL, oIxT, oCat, oLen, oInt1, oF2, oSum, oList, oTuple, oIn, gN, gT, gTn, iL, iT, iR1, iR2, undd, seqL, toV, toVs, ρ0, retP, aFld, aMeth, aMethK, xWhile, oIsN, iEn, oIsF, aSlT, oAny, aTru, aTruN, oDivmod, oIsiT, oReprD, gL, xNever, aCh, aLcI, isNonO, asD, tyD, kitTB, iR2W, iR3, aMake, aFldC, xFldC, gFldC, gPair, gPairG, xExt, xAugM, aStar, aCnt, oOdd, iEnT, iS, objAt, oAddS, oStrI, oIxS, aJoin, aExc1, aOex]
    subst hB
    simp [and_assoc, Int.ofNat_inj, sizeLine_eq, any_eq, xSeq, xSet, xAsg, xPar, xPar3, xRet, xDrop, xIf, xBreak, xNext, xAug, xApp, xFrz, xForI, aOp, aUn, aVar, aD, aTup, aLst, aLstC, aCons, aNil, aCB, aCallP, aCallB, aSlL, aNoPart, aPart, aAndV, aOrV, aNotV, aB, aNotT, aAndT, aOrT, aIf, aLc, tYesA, oI, oI0, oU, oEq, oIxL, oIxT, oCat, oLen, oInt1, oF2, oSum, oList, oTuple, oIn, gN, gT, gTn, iL, iT, iR1, iR2, undd, seqL, toV, toVs, ρ0, retP, aFld, aMeth, aMethK, xWhile, oIsN, iEn, oIsF, aSlT, oAny, aTru, aTruN, oDivmod, oIsiT, oReprD, gL, xNever, aCh, aLcI, isNonO, asD, tyD, kitTB, iR2W, iR3, aMake, aFldC, xFldC, gFldC, gPair, gPairG, xExt, xAugM, aStar, aCnt, oOdd, iEnT, iS, objAt, oAddS, oStrI, oIxS, aJoin, aExc1, aOex]
    refine ⟨_, rfl, by omega, by decide, Nat.le_trans hn (by decide), fun x hx => ?_⟩
    refine ⟨x, rfl, by omega, by omega, fun i acc cs => ∃ (ys : List Str) (n' : Nat), acc = ys.map D.str ∧ ys.length = i ∧ (ys.map (·.length)).sum = i ∧ n' ≤ n + 1 + i ∧ cs = [.any n'], ⟨[], _, rfl, rfl, rfl, Nat.le_refl _, rfl⟩, ?_, ?_⟩
    · rintro i d acc cs k hk rfl ⟨ys, n', rfl, h1, h2, h3, rfl⟩
      have hi : i < x := by have := (List.getElem?_eq_some_iff.mp hk).1; simpa using this
      have hx12 : x < 12 := by omega
      have hn' : n ≤ 100 := hn
      simp [aWipe, and_assoc, Int.ofNat_inj, sizeLine_eq, any_eq, xSeq, xSet, xAsg, xPar, xPar3, xRet, xDrop, xIf, xBreak, xNext, xAug, xApp, xFrz, xForI, aOp, aUn, aVar, aD, aTup, aLst, aLstC, aCons, aNil, aCB, aCallP, aCallB, aSlL, aNoPart, aPart, aAndV, aOrV, aNotV, aB, aNotT, aAndT, aOrT, aIf, aLc, tYesA, oI, oI0, oU, oEq, oIxL, oIxT, oCat, oLen, oInt1, oF2, oSum, oList, oTuple, oIn, gN, gT, gTn, iL, iT, iR1, iR2, undd, seqL, toV, toVs, ρ0, retP, aFld, aMeth, aMethK, xWhile, oIsN, iEn, oIsF, aSlT, oAny, aTru, aTruN, oDivmod, oIsiT, oReprD, gL, xNever, aCh, aLcI, isNonO, asD, tyD, kitTB, iR2W, iR3, aMake, aFldC, xFldC, gFldC, gPair, gPairG, xExt, xAugM, aStar, aCnt, oOdd, iEnT, iS, objAt, oAddS, oStrI, oIxS, aJoin, aExc1, aOex]
      have l70 : (Str.ofString "abcdefghijklmnopqrstuvwxyz ABCDEFGHIJKLMNOPQRSTUVWXYZ0123456789.,;:-()").length = 70 := by decide +kernel
      have c70 : (Str.ofString "abcdefghijklmnopqrstuvwxyz ABCDEFGHIJKLMNOPQRSTUVWXYZ0123456789.,;:-()").cps.toList.length = 70 := by decide +kernel
      generalize (Str.ofString "abcdefghijklmnopqrstuvwxyz ABCDEFGHIJKLMNOPQRSTUVWXYZ0123456789.,;:-()") = S at l70 c70 ⊢
      rw [l70]
      refine ⟨by omega, _, rfl, by decide, by decide, by omega, fun y hy => ?_⟩
      have hy70 : y < S.cps.toList.length := by omega
      refine ⟨_, rfl, by omega, S.cps.toList[y], atI_nat (List.getElem?_eq_getElem _), ys ++ [⟨#[S.cps.toList[y]]⟩], ?_, ?_, ?_, by omega⟩
      · rw [List.map_append]; rfl
      · rw [List.length_append, h1]; rfl
      · rw [List.map_append, List.sum_append, h2]; rfl
    · rintro acc cs ⟨ys, n', rfl, h1, h2, h3, rfl⟩
      have hx12 : x < 12 := by omega
      refine ⟨ys, rfl, ?_, hN _ _ _ (by omega) rfl⟩
      have : (Str.ofString "").length = 0 := by decide +kernel
      rw [this, h2]
      omega
theorem ok_law_right {fa : Addr} {fd : FuncData} (F : Fun K "_law_right" "_law_right" s__law_right fa fd) {xRoundError xNoNumber xNoBase xNoDivisor xNoRest xNoFigure xNoMatch xTooWide xNoPlace xNoPeople xNoPerson xNoLater xNoCounts xNoLevels xTooShort xNoState xNoLevel xNoCount xNoOrder xNothingToUndo xNoName xNoRoom xNoRow xNoLook xNoText : Addr} (hn : PySem.W.specialIn K (.builtin "object.__class__") "__get__" = some (some (.builtin "getset_descriptor.__get__"))) (htk : PySem.W.takesIn K (.builtin "object.__class__") = some true) (xl : Paired (XC K mg (.ref xRoundError :: veT)) NM [xNoNumber, xNoBase, xNoDivisor, xNoRest, xNoFigure, xNoMatch, xTooWide, xNoPlace, xNoPeople, xNoPerson, xNoLater, xNoCounts, xNoLevels, xTooShort, xNoState, xNoLevel, xNoCount, xNoOrder, xNothingToUndo, xNoName, xNoRoom, xNoRow, xNoLook, xNoText]) (c_RoundError : XC K mg veT "RoundError" xRoundError) (q_R : PySem.W.excIn K xRoundError [.type "ValueError", .type "Exception", .type "BaseException", .type "object"] "ValueError.__new__" = true) (noR : ∀ a, ([xNoNumber, xNoBase, xNoDivisor, xNoRest, xNoFigure, xNoMatch, xTooWide, xNoPlace, xNoPeople, xNoPerson, xNoLater, xNoCounts, xNoLevels, xTooShort, xNoState, xNoLevel, xNoCount, xNoOrder, xNothingToUndo, xNoName, xNoRoom, xNoRow, xNoLook, xNoText] : List Addr)[23]? = some a → PySem.W.findIn K (.ref a) "row" = some none) (noI : ∀ i a, (i = 21 ∨ i = 22) → ([xNoNumber, xNoBase, xNoDivisor, xNoRest, xNoFigure, xNoMatch, xTooWide, xNoPlace, xNoPeople, xNoPerson, xNoLater, xNoCounts, xNoLevels, xTooShort, xNoState, xNoLevel, xNoCount, xNoOrder, xNothingToUndo, xNoName, xNoRoom, xNoRow, xNoLook, xNoText] : List Addr)[i]? = some a → PySem.W.findIn K (.ref a) "index" = some none) (D__law_made : Df P w K mg base CX0 3 "_law_made" ["k", "line", "value"] (cP (GB K) (pMade K [xNoNumber, xNoBase, xNoDivisor, xNoRest, xNoFigure, xNoMatch, xTooWide, xNoPlace, xNoPeople, xNoPerson, xNoLater, xNoCounts, xNoLevels, xTooShort, xNoState, xNoLevel, xNoCount, xNoOrder, xNothingToUndo, xNoName, xNoRoom, xNoRow, xNoLook, xNoText]))) (D__law_which : Df P w K mg base CX0 1 "_law_which" ["e"] (cP (GB K) (pWhich K [xNoNumber, xNoBase, xNoDivisor, xNoRest, xNoFigure, xNoMatch, xTooWide, xNoPlace, xNoPeople, xNoPerson, xNoLater, xNoCounts, xNoLevels, xTooShort, xNoState, xNoLevel, xNoCount, xNoOrder, xNothingToUndo, xNoName, xNoRoom, xNoRow, xNoLook, xNoText]))) (g_isinstance : mg "isinstance" = none) (g_ValueError : mg "ValueError" = none) (g_range : mg "range" = none) (g_repr : mg "repr" = none)  : FnG P w K mg base CX0 (3 + 1) fa fd ["line", "value"] (cP (GB K) (pRight K)) := by
  obtain ⟨_, _, G__law_made, g__law_made, k__law_made, b__law_made⟩ := D__law_made
  obtain ⟨_, _, G__law_which, g__law_which, k__law_which, b__law_which⟩ := D__law_which
  refine F.okG sc__law_right (fun vs H Q E h => ?_) (fun cdv A outer s H vs Q E hgd hr h => ?_)
  · exact lenP (n := 2) (fun ds P h => by obtain ⟨_, _, e, _⟩ := h; rw [e]; rfl) h
  · have nd := sc__law_right.nd
    have hu := hu_of hr
    refine ⟨_, (pss_cons (ps_set (i := 2) nd rfl (Or.inl rfl) (pe_exc1 PySem.F.excBase_ValueError q_R c_RoundError.mg c_RoundError.kp (by rfl) (pv 0)))
      (pss_cons (ps_if (PW.pt (pw_or (pt_not (pt_val (pe_callB (call_isiE hn htk) (by rfl) g_isinstance (by decide +kernel) (pa_cons (pv 2) (pa_cons (pe_bltn (v := .ty "ValueError") (by rfl) g_ValueError (by decide +kernel) rfl) pa_nil))))) (pw_or1 (pt_cmpR op_in_seq pe_bl (pe_call G__law_which (hr.mono (by omega)) (by rfl) g__law_which k__law_which b__law_which .nil pass0 (pa_cons (pv 2) pa_nil)) (by rfl))))) (pss_one (ps_ret pe_bl)) pss_nil)
      (pss_cons (ps_for PassesOwn.never rfl (pi_range1 (by rfl) g_range (pa_cons pe_int pa_nil)) (pg_name (i := 3) nd rfl (Or.inl rfl)) (pss_cons (ps_set (i := 4) nd rfl (Or.inl rfl) (pe_call G__law_made (hr.mono (by omega)) (by rfl) g__law_made k__law_made b__law_made .nil pass0 (pa_cons (pv 3) (pa_cons (pv 0) (pa_cons (pv 1) pa_nil)))))
      (pss_cons (ps_set (i := 5) nd rfl (Or.inr rfl) (pe_ifExp (pt_cmpR op_lt (pv 3) pe_int (nomark _)) (pv 3) (pe_op op_sub (pv 3) pe_int)))
      (pss_cons (ps_if (PW.pt (pw_or (pt_not (pt_val (pe_callB (call_isiE hn htk) (by rfl) g_isinstance (by decide +kernel) (pa_cons (pv 4) (pa_cons (pe_glob (v := .ref xRoundError) rfl c_RoundError.mg rfl) pa_nil))))) (pw_or1 (pt_not (pt_val (pe_callB (call_isiE hn htk) (by rfl) g_isinstance (by decide +kernel) (pa_cons (pv 4) (pa_cons (pe_bltn (v := .ty "ValueError") (by rfl) g_ValueError (by decide +kernel) rfl) pa_nil)))))))) (pss_one (ps_ret pe_bl)) pss_nil)
      (pss_cons (ps_if (pt_cmpR (op_neD hr.units) (pe_call G__law_which (hr.mono (by omega)) (by rfl) g__law_which k__law_which b__law_which .nil pass0 (pa_cons (pv 4) pa_nil)) (pe_lc (own := [("at", 6)]) (g := gName 6) (tt := tYes) (by rfl) nd (pi_range1 (by rfl) g_range (pa_cons pe_int pa_nil)) (blkOk_by (own := [("at", 6)]) (N := ["line", "value", "whole", "k", "e", "which", "at"]) (sc := defScope s__law_right) (by decide +kernel)) (fun _ _ _ _ _ => (pg_name (i := 6) nd rfl (Or.inl rfl))) (fun _ _ _ _ _ => pts_nil) (fun _ _ _ _ _ => (pe_cmpR op_eq (pv 6) (pv 5) (nomark _)))) (nomark _)) (pss_one (ps_ret pe_bl)) pss_nil)
      (pss_cons (ps_if (PW.pt (pw_and (pt_cmpR op_eq (pv 5) pe_int (nomark _)) (pw_and1 (pt_cmpR op_ne (pe_callB (call_reprX hgd hr.units) (by rfl) g_repr (by decide +kernel) (pa_cons (pe_xfO (pv 4)) pa_nil)) (pe_callB (call_reprX hgd hr.units) (by rfl) g_repr (by decide +kernel) (pa_cons (pv 1) pa_nil)) (nomark _))))) (pss_one (ps_ret pe_bl)) pss_nil)
      (pss_one (ps_if (PW.pt (pw_and (pt_cmpR op_in_seq (pv 5) (pe_tup (pa_cons pe_int (pa_cons pe_int pa_nil))) (by rfl)) (pw_and1 (pt_cmpR op_ne (pe_callB (call_reprX hgd hr.units) (by rfl) g_repr (by decide +kernel) (pa_cons (pe_xfO (pv 4)) pa_nil)) (pe_callB (call_reprX hgd hr.units) (by rfl) g_repr (by decide +kernel) (pa_cons (pv 1) pa_nil)) (nomark _))))) (pss_one (ps_ret pe_bl)) pss_nil))))))))
      (pss_one (ps_ret pe_bl))))), ?_⟩
    refine fn_P (G := (GB K)) (N := ["line", "value", "whole", "k", "e", "which", "at"]) (x_seq (x_set (r_exc1 (r_var (i := 0)))) (x_seq (x_if (r_orT (r_notT (r_tB (r_CB o_isiE (r_cons (r_var (i := 2)) (r_cons r_tyN r_nil))))) (r_test (r_op o_in r_bl (r_callP (r_cons (r_var (i := 2)) r_nil))))) (x_ret r_bl) x_next) (x_seq (x_forI (is := [3]) (i_r1 (r_cons r_int r_nil)) (g_name (i := 3) (by simp)) (x_seq (x_set (r_callP (r_cons (r_var (i := 3)) (r_cons (r_var (i := 0)) (r_cons (r_var (i := 1)) r_nil))))) (x_seq (x_set (r_if (r_test (r_op o_lt (r_var (i := 3)) r_int)) (r_var (i := 3)) (r_op o_sub (r_var (i := 3)) r_int))) (x_seq (x_if (r_orT (r_notT (r_tB (r_CB o_isiE (r_cons (r_var (i := 4)) (r_cons r_cls r_nil))))) (r_notT (r_tB (r_CB o_isiE (r_cons (r_var (i := 4)) (r_cons r_tyN r_nil)))))) (x_ret r_bl) x_next) (x_seq (x_if (r_test (r_op o_neD (r_callP (r_cons (r_var (i := 4)) r_nil)) (r_lc (is := [6]) (i_r1 (r_cons r_int r_nil)) (g_name (i := 6) (by simp)) rt_yes (r_op o_eq (r_var (i := 6)) (r_var (i := 5)))))) (x_ret r_bl) x_next) (x_seq (x_if (r_andT (r_test (r_op o_eq (r_var (i := 5)) r_int)) (r_test (r_op o_ne (r_CB o_reprX (r_cons (r_xf (r_var (i := 4))) r_nil)) (r_CB o_reprX (r_cons (r_var (i := 1)) r_nil))))) (x_ret r_bl) x_next) (x_if (r_andT (r_test (r_op o_in (r_var (i := 5)) (r_tup (r_cons r_int (r_cons r_int r_nil))))) (r_test (r_op o_ne (r_CB o_reprX (r_cons (r_xf (r_var (i := 4))) r_nil)) (r_CB o_reprX (r_cons (r_var (i := 1)) r_nil))))) (x_ret r_bl) x_next))))))) (x_ret r_bl)))) h ?_
    rintro ds P ⟨z, d, rfl, hv, q⟩
    obtain ⟨rt, hrt⟩ := vl_repr hv
    have LL : ([xNoNumber, xNoBase, xNoDivisor, xNoRest, xNoFigure, xNoMatch, xTooWide, xNoPlace, xNoPeople, xNoPerson, xNoLater, xNoCounts, xNoLevels, xTooShort, xNoState, xNoLevel, xNoCount, xNoOrder, xNothingToUndo, xNoName, xNoRoom, xNoRow, xNoLook, xNoText] : List Addr).length = 24 := rfl
    generalize [xNoNumber, xNoBase, xNoDivisor, xNoRest, xNoFigure, xNoMatch, xTooWide, xNoPlace, xNoPeople, xNoPerson, xNoLater, xNoCounts, xNoLevels, xTooShort, xNoState, xNoLevel, xNoCount, xNoOrder, xNothingToUndo, xNoName, xNoRoom, xNoRow, xNoLook, xNoText] = L at *
    refine startN (fun N => ∀ cs, N.rt (.d (.bl true)) cs) (fun cs => q) fun N hN => ?_
    have ekR : ExK K xRoundError := c_RoundError.ek rfl rfl
    refine step fun B hB => ?_
    simp [and_assoc, Int.ofNat_inj, sizeLine_eq, any_eq, xSeq, xSet, xAsg, xPar, xPar3, xRet, xDrop, xIf, xBreak, xNext, xAug, xApp, xFrz, xForI, aOp, aUn, aVar, aD, aTup, aLst, aLstC, aCons, aNil, aCB, aCallP, aCallB, aSlL, aNoPart, aPart, aAndV, aOrV, aNotV, aB, aNotT, aAndT, aOrT, aIf, aLc, tYesA, oI, oI0, oU, oEq, oIxL, oIxT, oCat, oLen, oInt1, oF2, oSum, oList, oTuple, oIn, gN, gT, gTn, iL, iT, iR1, iR2, undd, seqL, toV, toVs, ρ0, retP, aFld, aMeth, aMethK, xWhile, oIsN, iEn, oIsF, aSlT, oAny, aTru, aTruN, oDivmod, oIsiT, oReprD, gL, xNever, aCh, aLcI, isNonO, asD, tyD, kitTB, iR2W, iR3, aMake, aFldC, xFldC, gFldC, gPair, gPairG, xExt, xAugM, aStar, aCnt, oOdd, iEnT, iS, objAt, oAddS, oStrI, oIxS, aJoin, aExc1, aOex]
    subst hB
    refine step fun B hB => ?_
    simp [and_assoc, Int.ofNat_inj, sizeLine_eq, any_eq, xSeq, xSet, xAsg, xPar, xPar3, xRet, xDrop, xIf, xBreak, xNext, xAug, xApp, xFrz, xForI, aOp, aUn, aVar, aD, aTup, aLst, aLstC, aCons, aNil, aCB, aCallP, aCallB, aSlL, aNoPart, aPart, aAndV, aOrV, aNotV, aB, aNotT, aAndT, aOrT, aIf, aLc, tYesA, oI, oI0, oU, oEq, oIxL, oIxT, oCat, oLen, oInt1, oF2, oSum, oList, oTuple, oIn, gN, gT, gTn, iL, iT, iR1, iR2, undd, seqL, toV, toVs, ρ0, retP, aFld, aMeth, aMethK, xWhile, oIsN, iEn, oIsF, aSlT, oAny, aTru, aTruN, oDivmod, oIsiT, oReprD, gL, xNever, aCh, aLcI, isNonO, asD, tyD, kitTB, iR2W, iR3, aMake, aFldC, xFldC, gFldC, gPair, gPairG, xExt, xAugM, aStar, aCnt, oOdd, iEnT, iS, objAt, oAddS, oStrI, oIxS, aJoin, aExc1, aOex]
    refine ⟨_, _, _, _, _, rfl, isCls_ty _, ekR, c_RoundError.val rfl, .inr ⟨rfl, ?_⟩⟩
    refine ⟨_, _, fun _ => false, rfl, ekR, fun j b hb => kit_R xl c_RoundError j b hb, ?_⟩
    refine ⟨(List.range 24).map (fun _ => V.bl false), .inl ⟨_, rfl, rfl⟩, ?_⟩
    rw [if_neg (by decide +kernel)]
    subst hB
    refine step fun B hB => ?_
    simp [and_assoc, Int.ofNat_inj, sizeLine_eq, any_eq, xSeq, xSet, xAsg, xPar, xPar3, xRet, xDrop, xIf, xBreak, xNext, xAug, xApp, xFrz, xForI, aOp, aUn, aVar, aD, aTup, aLst, aLstC, aCons, aNil, aCB, aCallP, aCallB, aSlL, aNoPart, aPart, aAndV, aOrV, aNotV, aB, aNotT, aAndT, aOrT, aIf, aLc, tYesA, oI, oI0, oU, oEq, oIxL, oIxT, oCat, oLen, oInt1, oF2, oSum, oList, oTuple, oIn, gN, gT, gTn, iL, iT, iR1, iR2, undd, seqL, toV, toVs, ρ0, retP, aFld, aMeth, aMethK, xWhile, oIsN, iEn, oIsF, aSlT, oAny, aTru, aTruN, oDivmod, oIsiT, oReprD, gL, xNever, aCh, aLcI, isNonO, asD, tyD, kitTB, iR2W, iR3, aMake, aFldC, xFldC, gFldC, gPair, gPairG, xExt, xAugM, aStar, aCnt, oOdd, iEnT, iS, objAt, oAddS, oStrI, oIxS, aJoin, aExc1, aOex]
    refine ⟨27, rfl, by decide, fun i S => ∃ v3 v4 v5 v6, S = ⟨[some (.d (.str z)), some (.d d), some (.d (exD xRoundError [])), v3, v4, v5, v6], []⟩, ⟨_, _, _, _, rfl⟩, ?_, ?_⟩
    · rintro k x S hx ⟨v3, v4, v5, v6, rfl⟩
      rw [List.getElem?_map] at hx
      obtain ⟨k', hk1, rfl⟩ := Option.map_eq_some_iff.mp hx
      obtain ⟨hk, rfl⟩ : k < 27 ∧ k = k' := by
        obtain ⟨h1, h2⟩ := List.getElem?_eq_some_iff.mp hk1
        simp at h1 h2
        exact ⟨h1, h2⟩
      have wl : whichOf k < 24 := by unfold whichOf; split <;> omega
      obtain ⟨a, ha⟩ : ∃ a, L[whichOf k]? = some a := ⟨_, List.getElem?_eq_getElem (by omega)⟩
      have em : (madeD L k d : D (GB K)) = exD a (flds k d) := by
        unfold madeD
        rw [List.getD_eq_getElem?_getD, ha]
        rfl
      obtain ⟨nm, _, xa⟩ := Paired.at xl ha
      have ek : ExK K a := xa.ek rfl rfl
      simp only [gN]
      refine startN (fun M => ∀ v3 v4 v5 v6, M.nx ⟨[some (.d (.str z)), some (.d d), some (.d (exD xRoundError [])), v3, v4, v5, v6], []⟩) (fun v3 v4 v5 v6 => ⟨v3, v4, v5, v6, rfl⟩) fun M hM => ?_
      refine step fun B1 hB1 => ?_
      simp [and_assoc, Int.ofNat_inj, sizeLine_eq, any_eq, xSeq, xSet, xAsg, xPar, xPar3, xRet, xDrop, xIf, xBreak, xNext, xAug, xApp, xFrz, xForI, aOp, aUn, aVar, aD, aTup, aLst, aLstC, aCons, aNil, aCB, aCallP, aCallB, aSlL, aNoPart, aPart, aAndV, aOrV, aNotV, aB, aNotT, aAndT, aOrT, aIf, aLc, tYesA, oI, oI0, oU, oEq, oIxL, oIxT, oCat, oLen, oInt1, oF2, oSum, oList, oTuple, oIn, gN, gT, gTn, iL, iT, iR1, iR2, undd, seqL, toV, toVs, ρ0, retP, aFld, aMeth, aMethK, xWhile, oIsN, iEn, oIsF, aSlT, oAny, aTru, aTruN, oDivmod, oIsiT, oReprD, gL, xNever, aCh, aLcI, isNonO, asD, tyD, kitTB, iR2W, iR3, aMake, aFldC, xFldC, gFldC, gPair, gPairG, xExt, xAugM, aStar, aCnt, oOdd, iEnT, iS, objAt, oAddS, oStrI, oIxS, aJoin, aExc1, aOex]
      refine ⟨k, z, d, rfl, hk, ?_⟩
      rw [em]
      subst hB1
      refine withS fun S0 hS0 => step fun B1 hB1 => ?_
      have rest : B1 M ⟨[some (.d (.str z)), some (.d d), some (.d (exD xRoundError [])), some (.d (.int (k : Int))), some (.d (exD a (flds k d))), some (.d (.int (whichOf k : Int))), v6], []⟩ := by
        subst hB1
        clear hS0
        obtain ⟨wk, hw⟩ : ∃ wk, wk = whichOf k := ⟨_, rfl⟩
        rw [← hw] at ha wl ⊢
        refine step fun B1 hB1 => ?_
        simp [and_assoc, Int.ofNat_inj, sizeLine_eq, any_eq, xSeq, xSet, xAsg, xPar, xPar3, xRet, xDrop, xIf, xBreak, xNext, xAug, xApp, xFrz, xForI, aOp, aUn, aVar, aD, aTup, aLst, aLstC, aCons, aNil, aCB, aCallP, aCallB, aSlL, aNoPart, aPart, aAndV, aOrV, aNotV, aB, aNotT, aAndT, aOrT, aIf, aLc, tYesA, oI, oI0, oU, oEq, oIxL, oIxT, oCat, oLen, oInt1, oF2, oSum, oList, oTuple, oIn, gN, gT, gTn, iL, iT, iR1, iR2, undd, seqL, toV, toVs, ρ0, retP, aFld, aMeth, aMethK, xWhile, oIsN, iEn, oIsF, aSlT, oAny, aTru, aTruN, oDivmod, oIsiT, oReprD, gL, xNever, aCh, aLcI, isNonO, asD, tyD, kitTB, iR2W, iR3, aMake, aFldC, xFldC, gFldC, gPair, gPairG, xExt, xAugM, aStar, aCnt, oOdd, iEnT, iS, objAt, oAddS, oStrI, oIxS, aJoin, aExc1, aOex]
        refine ⟨_, _, _, _, _, rfl, isCls_own _, ek, kit_up xl c_RoundError ha, .inr ⟨rfl, ?_⟩⟩
        refine ⟨_, _, _, _, _, rfl, isCls_ty _, ek, xa.val rfl, .inr ⟨rfl, ?_⟩⟩
        subst hB1
        refine step fun B1 hB1 => ?_
        simp [and_assoc, Int.ofNat_inj, sizeLine_eq, any_eq, xSeq, xSet, xAsg, xPar, xPar3, xRet, xDrop, xIf, xBreak, xNext, xAug, xApp, xFrz, xForI, aOp, aUn, aVar, aD, aTup, aLst, aLstC, aCons, aNil, aCB, aCallP, aCallB, aSlL, aNoPart, aPart, aAndV, aOrV, aNotV, aB, aNotT, aAndT, aOrT, aIf, aLc, tYesA, oI, oI0, oU, oEq, oIxL, oIxT, oCat, oLen, oInt1, oF2, oSum, oList, oTuple, oIn, gN, gT, gTn, iL, iT, iR1, iR2, undd, seqL, toV, toVs, ρ0, retP, aFld, aMeth, aMethK, xWhile, oIsN, iEn, oIsF, aSlT, oAny, aTru, aTruN, oDivmod, oIsiT, oReprD, gL, xNever, aCh, aLcI, isNonO, asD, tyD, kitTB, iR2W, iR3, aMake, aFldC, xFldC, gFldC, gPair, gPairG, xExt, xAugM, aStar, aCnt, oOdd, iEnT, iS, objAt, oAddS, oStrI, oIxS, aJoin, aExc1, aOex]
        refine ⟨_, _, fun j => decide (j = wk), rfl, ek, fun j b hb => kit_L xl c_RoundError ha j b hb, ?_⟩
        refine ⟨24, rfl, by decide, by decide, cLoop_mapT (r := fun j => .bl (decide (j = wk))) (fun j hj kk hkk => ?_) ?_⟩
        · simp [aWipe, and_assoc, Int.ofNat_inj, sizeLine_eq, any_eq, xSeq, xSet, xAsg, xPar, xPar3, xRet, xDrop, xIf, xBreak, xNext, xAug, xApp, xFrz, xForI, aOp, aUn, aVar, aD, aTup, aLst, aLstC, aCons, aNil, aCB, aCallP, aCallB, aSlL, aNoPart, aPart, aAndV, aOrV, aNotV, aB, aNotT, aAndT, aOrT, aIf, aLc, tYesA, oI, oI0, oU, oEq, oIxL, oIxT, oCat, oLen, oInt1, oF2, oSum, oList, oTuple, oIn, gN, gT, gTn, iL, iT, iR1, iR2, undd, seqL, toV, toVs, ρ0, retP, aFld, aMeth, aMethK, xWhile, oIsN, iEn, oIsF, aSlT, oAny, aTru, aTruN, oDivmod, oIsiT, oReprD, gL, xNever, aCh, aLcI, isNonO, asD, tyD, kitTB, iR2W, iR3, aMake, aFldC, xFldC, gFldC, gPair, gPairG, xExt, xAugM, aStar, aCnt, oOdd, iEnT, iS, objAt, oAddS, oStrI, oIxS, aJoin, aExc1, aOex]
          exact ⟨rfl, hkk⟩
        rw [List.nil_append]
        have shp : ∀ w, w < 24 → SeqAt.shaped (.list ((List.range 24).map fun j => .bool (decide (j = w)))) = true := by decide +kernel
        have pdl : _root_.A.pd (.lst ((List.range 24).map fun j => (D.bl (decide (j = wk)) : D (GB K)))) = some (.list ((List.range 24).map fun j => .bool (decide (j = wk)))) := pd_lst (pds_map (fun j => rfl) _)
        refine ⟨_, _, _, _, rfl, rfl, pdl, pdl, shp wk wl, shp wk wl, .inl ⟨by rw [eqv_self pdl]; rfl, ?_⟩⟩
        subst hB1
        refine step fun B1 hB1 => ?_
        simp [and_assoc, Int.ofNat_inj, sizeLine_eq, any_eq, xSeq, xSet, xAsg, xPar, xPar3, xRet, xDrop, xIf, xBreak, xNext, xAug, xApp, xFrz, xForI, aOp, aUn, aVar, aD, aTup, aLst, aLstC, aCons, aNil, aCB, aCallP, aCallB, aSlL, aNoPart, aPart, aAndV, aOrV, aNotV, aB, aNotT, aAndT, aOrT, aIf, aLc, tYesA, oI, oI0, oU, oEq, oIxL, oIxT, oCat, oLen, oInt1, oF2, oSum, oList, oTuple, oIn, gN, gT, gTn, iL, iT, iR1, iR2, undd, seqL, toV, toVs, ρ0, retP, aFld, aMeth, aMethK, xWhile, oIsN, iEn, oIsF, aSlT, oAny, aTru, aTruN, oDivmod, oIsiT, oReprD, gL, xNever, aCh, aLcI, isNonO, asD, tyD, kitTB, iR2W, iR3, aMake, aFldC, xFldC, gFldC, gPair, gPairG, xExt, xAugM, aStar, aCnt, oOdd, iEnT, iS, objAt, oAddS, oStrI, oIxS, aJoin, aExc1, aOex]
        have next1 : B1 M ⟨[some (.d (.str z)), some (.d d), some (.d (exD xRoundError [])), some (.d (.int (k : Int))), some (.d (exD a (flds k d))), some (.d (.int (wk : Int))), v6], []⟩ := by
          subst hB1
          simp [and_assoc, Int.ofNat_inj, sizeLine_eq, any_eq, xSeq, xSet, xAsg, xPar, xPar3, xRet, xDrop, xIf, xBreak, xNext, xAug, xApp, xFrz, xForI, aOp, aUn, aVar, aD, aTup, aLst, aLstC, aCons, aNil, aCB, aCallP, aCallB, aSlL, aNoPart, aPart, aAndV, aOrV, aNotV, aB, aNotT, aAndT, aOrT, aIf, aLc, tYesA, oI, oI0, oU, oEq, oIxL, oIxT, oCat, oLen, oInt1, oF2, oSum, oList, oTuple, oIn, gN, gT, gTn, iL, iT, iR1, iR2, undd, seqL, toV, toVs, ρ0, retP, aFld, aMeth, aMethK, xWhile, oIsN, iEn, oIsF, aSlT, oAny, aTru, aTruN, oDivmod, oIsiT, oReprD, gL, xNever, aCh, aLcI, isNonO, asD, tyD, kitTB, iR2W, iR3, aMake, aFldC, xFldC, gFldC, gPair, gPairG, xExt, xAugM, aStar, aCnt, oOdd, iEnT, iS, objAt, oAddS, oStrI, oIxS, aJoin, aExc1, aOex]
          have inN : ∀ w : Nat, w < 24 → w ≠ 21 → w ≠ 22 → inV (V.int (w : Int)) [V.int 21, V.int 22] = false := by decide +kernel
          have inY : ∀ w : Nat, w = 21 ∨ w = 22 → inV (V.int (w : Int)) [V.int 21, V.int 22] = true := fun w h => by rcases h with rfl | rfl <;> decide +kernel
          by_cases c : wk = 21 ∨ wk = 22
          · have ef : flds k d = [(Str.ofString "index", d)] := by
              unfold flds
              unfold whichOf at hw
              by_cases c2 : k < 24
              · rw [if_pos c2] at hw
                rw [if_neg (by omega), if_neg (by omega)]
              · rw [if_neg c2] at hw
                rw [if_neg (by omega), if_neg (by omega)]
            rw [ef, if_pos (inY wk c)]
            exact ⟨_, rfl, a, d, rfl, ek.xf, noI wk a c ha, hrt _ _ (hrt _ _ ⟨_, rfl, _, rfl, _, rfl, _, rfl, rfl, .inl ⟨rfl, hM _ _ _ _⟩⟩)⟩
          · rw [if_neg (by rw [inN wk wl (fun z => c (.inl z)) (fun z => c (.inr z))]; decide)]
            exact hM _ _ _ _
        refine ⟨rfl, ?_⟩
        by_cases c : wk = 23
        · rw [if_pos (by omega)]
          have ef : flds k d = [(Str.ofString "row", d)] := by
            unfold flds
            unfold whichOf at hw
            by_cases c2 : k < 24
            · rw [if_pos c2] at hw
              rw [if_neg (by omega), if_pos (by omega)]
            · rw [if_neg c2] at hw
              rw [if_neg (by omega), if_pos (by omega)]
          rw [ef] at next1 ⊢
          refine ⟨_, rfl, a, d, rfl, ek.xf, noR a (c ▸ ha), hrt _ _ (hrt _ _ ⟨_, rfl, _, rfl, _, rfl, _, rfl, rfl, .inl ⟨rfl, next1⟩⟩)⟩
        · rw [if_neg (by omega)]
          exact next1
      simp [hS0, and_assoc, Int.ofNat_inj, sizeLine_eq, any_eq, xSeq, xSet, xAsg, xPar, xPar3, xRet, xDrop, xIf, xBreak, xNext, xAug, xApp, xFrz, xForI, aOp, aUn, aVar, aD, aTup, aLst, aLstC, aCons, aNil, aCB, aCallP, aCallB, aSlL, aNoPart, aPart, aAndV, aOrV, aNotV, aB, aNotT, aAndT, aOrT, aIf, aLc, tYesA, oI, oI0, oU, oEq, oIxL, oIxT, oCat, oLen, oInt1, oF2, oSum, oList, oTuple, oIn, gN, gT, gTn, iL, iT, iR1, iR2, undd, seqL, toV, toVs, ρ0, retP, aFld, aMeth, aMethK, xWhile, oIsN, iEn, oIsF, aSlT, oAny, aTru, aTruN, oDivmod, oIsiT, oReprD, gL, xNever, aCh, aLcI, isNonO, asD, tyD, kitTB, iR2W, iR3, aMake, aFldC, xFldC, gFldC, gPair, gPairG, xExt, xAugM, aStar, aCnt, oOdd, iEnT, iS, objAt, oAddS, oStrI, oIxS, aJoin, aExc1, aOex]
      by_cases c : k < 24
      · rw [if_pos (by omega)]
        rw [show whichOf k = k from if_pos c] at rest
        exact rest
      · rw [if_neg (by omega)]
        rw [show whichOf k = k - 3 from if_neg c] at rest
        rw [show (k : Int) - 3 = ((k - 3 : Nat) : Int) by omega]
        exact rest
    · rintro S ⟨v3, v4, v5, v6, rfl⟩
      subst hB
      simp [and_assoc, Int.ofNat_inj, sizeLine_eq, any_eq, xSeq, xSet, xAsg, xPar, xPar3, xRet, xDrop, xIf, xBreak, xNext, xAug, xApp, xFrz, xForI, aOp, aUn, aVar, aD, aTup, aLst, aLstC, aCons, aNil, aCB, aCallP, aCallB, aSlL, aNoPart, aPart, aAndV, aOrV, aNotV, aB, aNotT, aAndT, aOrT, aIf, aLc, tYesA, oI, oI0, oU, oEq, oIxL, oIxT, oCat, oLen, oInt1, oF2, oSum, oList, oTuple, oIn, gN, gT, gTn, iL, iT, iR1, iR2, undd, seqL, toV, toVs, ρ0, retP, aFld, aMeth, aMethK, xWhile, oIsN, iEn, oIsF, aSlT, oAny, aTru, aTruN, oDivmod, oIsiT, oReprD, gL, xNever, aCh, aLcI, isNonO, asD, tyD, kitTB, iR2W, iR3, aMake, aFldC, xFldC, gFldC, gPair, gPairG, xExt, xAugM, aStar, aCnt, oOdd, iEnT, iS, objAt, oAddS, oStrI, oIxS, aJoin, aExc1, aOex]
      exact hN _
end
end B

namespace B
open PySem L2 MK Hop A
section
variable {P : Program} {w : World} {K : PySem.W.Frag} {mg : Str → Option Value} {base : Heap}
theorem good_p {H : Hp} {p : Addr} {n : Nat} (hb : Bag H p n) : Good (G := GB K) H (fun a => if a = p then some none else none) := by
  obtain ⟨o, ho, hb⟩ := hb
  refine ⟨fun a e => ?_, fun a c e => ?_⟩
  · by_cases c : a = p
    · subst c
      obtain ⟨x, y, w, e', _⟩ := hb
      exact ⟨o, ho, by subst e'; exact True.intro⟩
    · exact absurd (if_neg c) e
  · by_cases z : a = p
    · rw [if_pos z] at e; cases e
    · rw [if_neg z] at e; cases e
theorem words_use {H : Hp} {p : Addr} {Q : VK} {E : XK} (hb : Bag H p 0) (k : ∀ (z : Str) (n' : Nat) (H' : Hp), n' ≤ 13 → Kp1 p H H' → Bag H' p n' → Q (.str z) H') : cB (GB K) (pWords K) [.ref p] H Q E := by
  have g := good_p (K := K) hb
  obtain ⟨o, ho, hb⟩ := hb
  refine ⟨p, [], 0, [], _, fun d n' => ∃ z, d = .str z ∧ n' ≤ 13, rfl, g, if_pos rfl, ⟨o, ho, hb⟩, rfl, ⟨rfl, by show 0 ≤ 100; omega, fun z n' h => ⟨z, rfl, by omega⟩⟩, fun d c' v H' T' e l g fr tp ho' vd => ?_⟩
  obtain ⟨z, rfl, hn⟩ := e
  cases (show v = .str z from vd)
  exact k z c' H' hn (fun x o e ne => l.kp x o e (if_neg ne)) ho'
theorem value_use {H : Hp} {p : Addr} {n : Nat} {Q : VK} {E : XK} (hb : Bag H p n) (hn : n ≤ 1000) (k : ∀ (d : D (GB K)) (v : V) (H' : Hp) (T' : Mt (GB K)), Vl d → Kp1 p H H' → Good H' T' → (∀ x, x ≠ p → H x ≠ none → T' x = none) → VD H' T' d v → Q v H') : cB (GB K) (pValue K) [.ref p] H Q E := by
  have g := good_p (K := K) hb
  obtain ⟨o, ho, hb⟩ := hb
  refine ⟨p, [], n, [], _, fun d _ => Vl d, rfl, g, if_pos rfl, ⟨o, ho, hb⟩, rfl, ⟨rfl, hn, fun d _ h => h⟩, fun d c' v H' T' e l g fr tp ho' vd => ?_⟩
  refine k d v H' T' e (fun x o e ne => l.kp x o e (if_neg ne)) g (fun x ne hx => ?_) vd
  cases h : T' x with
  | none => rfl
  | some m =>
    rcases l.tm x (by rw [h]; intro z; cases z) with z | z
    · exact absurd (if_neg ne) z
    · exact absurd z hx
theorem right_use {H : Hp} {T : Mt (GB K)} {z : Str} {d : D (GB K)} {v : V} {Q : VK} {E : XK} (hv : Vl d) (g : Good H T) (vd : VD H T d v) (k : ∀ H', (∀ x o, H x = some o → T x = none → H' x = some o) → Q (.bl true) H') : cP (GB K) (pRight K) [.str z, v] H Q E := by
  refine ⟨[.str z, d], T, fun d => d = .bl true, g, ⟨_, _, rfl, rfl, _, _, rfl, vd, rfl⟩, ⟨z, d, rfl, hv, rfl⟩, fun d' v' H' T' e l g' fr vd' => ?_⟩
  subst e
  cases (show v' = .bl true from vd')
  exact k H' fun x o e t => l.kp x o e t
theorem ok_law00 {fa : Addr} {fd : FuncData} (F : Fun K "law" "law" s_law fa fd)
    (D1 : Df P w K mg base CX0 1 "_law_bag" ["script", "k"] (spBag K)) (D2 : Df P w K mg base CX0 2 "_law_words" ["bag"] (cB (GB K) (pWords K))) (D3 : Df P w K mg base CX0 2 "_law_value" ["bag"] (cB (GB K) (pValue K))) (D4 : DfG P w K mg base 4 "_law_right" ["line", "value"] (cP (GB K) (pRight K)))
    (g_range : mg "range" = none) (g_max : mg "max" = none) (g_min : mg "min" = none) (g_len : mg "len" = none) : FnG P w K mg base CX0 (4 + 1) fa fd ["script"] (spLaw K) := by
  obtain ⟨_, _, G__law_bag, g__law_bag, k__law_bag, b__law_bag⟩ := D1
  obtain ⟨_, _, G__law_words, g__law_words, k__law_words, b__law_words⟩ := D2
  obtain ⟨_, _, G__law_value, g__law_value, k__law_value, b__law_value⟩ := D3
  obtain ⟨_, _, G__law_right, g__law_right, k__law_right, b__law_right⟩ := D4
  refine F.okG sc_law (fun vs H Q E h => ?_) (fun cdv A outer s H vs Q E hgd hr h => ?_)
  · obtain ⟨a, ns, rfl, _⟩ := h
    rfl
  · obtain ⟨a, ns, rfl, hS, hl, hb, q⟩ := h
    have nd := sc_law.nd
    have hu := hu_of hr
    refine ⟨_, (pss_cons (ps_for PassesOwn.never rfl (pi_range1 (by rfl) g_range (pa_cons (pe_callB (call_max2 rfl) (by rfl) g_max (by decide +kernel) (pa_cons pe_int (pa_cons (pe_callB (call_min2 rfl) (by rfl) g_min (by decide +kernel) (pa_cons pe_int (pa_cons (pe_callB call_len (by rfl) g_len PySem.boot_len (pa_cons (pv 0) pa_nil)) pa_nil))) pa_nil))) pa_nil)) (pg_name (i := 1) nd rfl (Or.inl rfl)) (pss_cons (ps_set (i := 2) nd rfl (Or.inl rfl) (pe_call G__law_bag (hr.mono (by decide)) (by rfl) g__law_bag k__law_bag b__law_bag .nil pass0 (pa_cons (pv 0) (pa_cons (pv 1) pa_nil))))
      (pss_one (ps_if (pt_not (pt_val (pe_callG G__law_right hgd (hr.mono (by omega)) (by rfl) g__law_right k__law_right b__law_right pass0 (pa_cons (pe_call G__law_words (hr.mono (by decide)) (by rfl) g__law_words k__law_words b__law_words .nil pass0 (pa_cons (pv 2) pa_nil)) (pa_cons (pe_call G__law_value (hr.mono (by decide)) (by rfl) g__law_value k__law_value b__law_value .nil pass0 (pa_cons (pv 2) pa_nil)) pa_nil))))) (pss_one (ps_ret pe_bl)) pss_nil))))
      (pss_one (ps_ret pe_bl))), ?_⟩
    refine ⟨_, rfl, _, ns.length, rfl, .inl ⟨_, hS, by rw [List.length_map]⟩, 3, (ns.length : Int), rfl, 1, _, rfl, ?_⟩
    obtain ⟨m, hm, hm6⟩ : ∃ m : Nat, (if (if ((ns.length : Nat) : Int) < 3 then ((ns.length : Nat) : Int) else 3) > (1 : Int) then (if ((ns.length : Nat) : Int) < 3 then ((ns.length : Nat) : Int) else 3) else 1) = (m : Int) ∧ m ≤ 3 := by
      refine ⟨(if (if ((ns.length : Nat) : Int) < 3 then ((ns.length : Nat) : Int) else 3) > (1 : Int) then (if ((ns.length : Nat) : Int) < 3 then ((ns.length : Nat) : Int) else 3) else 1).toNat, ?_, ?_⟩
      · split <;> split <;> omega
      · split <;> split <;> omega
    refine ⟨(m : Int), congrArg (fun z => [V.int z]) hm, by omega, by omega, for_range (lo := 0) (n := m) (fun i σ Hx => ∃ v1 v2 : Option V, σ = [some (.ref a), v1, v2] ∧ Same H Hx) ⟨none, none, rfl, fun _ _ e => e⟩ ?_ ?_⟩
    · rintro i σ Hx hi ⟨v1, v2, rfl, sx⟩
      refine ⟨_, rfl, _, rfl, a, ns, i, congrArg (fun z => [V.ref a, V.int z]) (by omega), hS.ext sx, hb, by omega, by omega, fun p o hp hbo => ?_⟩
      refine ⟨_, rfl, ?_⟩
      refine words_use (E := E0) (bag_at hbo) fun z n' H1 hn k1 b1 => ?_
      refine ⟨_, rfl, ?_⟩
      refine value_use (E := E0) b1 (by omega) fun d v H2 T2 hv k2 g2 t2 vd => ?_
      refine right_use (E := E0) hv g2 vd fun H3 k3 => ?_
      refine ⟨true, rfl, iteF ?_⟩
      refine ⟨_, _, rfl, fun y u e => ?_⟩
      have ne : y ≠ p := ne_of_none (sx _ _ e) hp
      have e1 : H1 y = some u := k1 y u (by rw [upd_ne ne]; exact sx _ _ e) ne
      exact k3 y u (k2 y u e1 ne) (t2 y ne (by rw [e1]; intro z; cases z))
    · rintro σ Hx ⟨v1, v2, rfl, sx⟩
      exact q Hx
end
end B

namespace B
open PySem L2 MK Hop A
theorem all_mk {l : PySem.W.OpenLaw} {w : World} {K : PySem.W.Frag} {h : Heap} {mg : Str → Option Value} {fa xRoundError xNoNumber xNoBase xNoDivisor xNoRest xNoFigure xNoMatch xTooWide xNoPlace xNoPeople xNoPerson xNoLater xNoCounts xNoLevels xTooShort xNoState xNoLevel xNoCount xNoOrder xNothingToUndo xNoName xNoRoom xNoRow xNoLook xNoText : Addr} (X : K.In h) (G : h.Ns mainGlobals mg) (hfa : mg "law" = some (.ref fa))
    {f0 : Addr} {od0 an0 : Option Addr} {sl0 : Array (Option Value)} {oc0 kV0 dc0 pm0 cd0 ct0 : Value}
    {f1 : Addr} {od1 an1 : Option Addr} {sl1 : Array (Option Value)} {oc1 kV1 dc1 pm1 cd1 ct1 : Value}
    {f2 : Addr} {od2 an2 : Option Addr} {sl2 : Array (Option Value)} {oc2 kV2 dc2 pm2 cd2 ct2 : Value}
    {f3 : Addr} {od3 an3 : Option Addr} {sl3 : Array (Option Value)} {oc3 kV3 dc3 pm3 cd3 ct3 : Value}
    {f4 : Addr} {od4 an4 : Option Addr} {sl4 : Array (Option Value)} {oc4 kV4 dc4 pm4 cd4 ct4 : Value}
    {f5 : Addr} {od5 an5 : Option Addr} {sl5 : Array (Option Value)} {oc5 kV5 dc5 pm5 cd5 ct5 : Value}
    {f6 : Addr} {od6 an6 : Option Addr} {sl6 : Array (Option Value)} {oc6 kV6 dc6 pm6 cd6 ct6 : Value}
    {f7 : Addr} {od7 an7 : Option Addr} {sl7 : Array (Option Value)} {oc7 kV7 dc7 pm7 cd7 ct7 : Value}
    {f8 : Addr} {od8 an8 : Option Addr} {sl8 : Array (Option Value)} {oc8 kV8 dc8 pm8 cd8 ct8 : Value}
    {f9 : Addr} {od9 an9 : Option Addr} {sl9 : Array (Option Value)} {oc9 kV9 dc9 pm9 cd9 ct9 : Value}
    {f10 : Addr} {od10 an10 : Option Addr} {sl10 : Array (Option Value)} {oc10 kV10 dc10 pm10 cd10 ct10 : Value}
    {qRoundError : Str} {NRoundError : Addr} {bsRoundError subRoundError : List Value} {snRoundError : List Str} {abRoundError : Bool} {colRoundError : Option Bool} {ddRoundError : Option Addr} {k0RoundError k1RoundError k2RoundError k3RoundError k5RoundError : Option Value}
    {qNoNumber : Str} {NNoNumber : Addr} {bsNoNumber subNoNumber : List Value} {snNoNumber : List Str} {abNoNumber : Bool} {colNoNumber : Option Bool} {ddNoNumber : Option Addr} {k0NoNumber k1NoNumber k2NoNumber k3NoNumber k5NoNumber : Option Value}
    {qNoBase : Str} {NNoBase : Addr} {bsNoBase subNoBase : List Value} {snNoBase : List Str} {abNoBase : Bool} {colNoBase : Option Bool} {ddNoBase : Option Addr} {k0NoBase k1NoBase k2NoBase k3NoBase k5NoBase : Option Value}
    {qNoDivisor : Str} {NNoDivisor : Addr} {bsNoDivisor subNoDivisor : List Value} {snNoDivisor : List Str} {abNoDivisor : Bool} {colNoDivisor : Option Bool} {ddNoDivisor : Option Addr} {k0NoDivisor k1NoDivisor k2NoDivisor k3NoDivisor k5NoDivisor : Option Value}
    {qNoRest : Str} {NNoRest : Addr} {bsNoRest subNoRest : List Value} {snNoRest : List Str} {abNoRest : Bool} {colNoRest : Option Bool} {ddNoRest : Option Addr} {k0NoRest k1NoRest k2NoRest k3NoRest k5NoRest : Option Value}
    {qNoFigure : Str} {NNoFigure : Addr} {bsNoFigure subNoFigure : List Value} {snNoFigure : List Str} {abNoFigure : Bool} {colNoFigure : Option Bool} {ddNoFigure : Option Addr} {k0NoFigure k1NoFigure k2NoFigure k3NoFigure k5NoFigure : Option Value}
    {qNoMatch : Str} {NNoMatch : Addr} {bsNoMatch subNoMatch : List Value} {snNoMatch : List Str} {abNoMatch : Bool} {colNoMatch : Option Bool} {ddNoMatch : Option Addr} {k0NoMatch k1NoMatch k2NoMatch k3NoMatch k5NoMatch : Option Value}
    {qTooWide : Str} {NTooWide : Addr} {bsTooWide subTooWide : List Value} {snTooWide : List Str} {abTooWide : Bool} {colTooWide : Option Bool} {ddTooWide : Option Addr} {k0TooWide k1TooWide k2TooWide k3TooWide k5TooWide : Option Value}
    {qNoPlace : Str} {NNoPlace : Addr} {bsNoPlace subNoPlace : List Value} {snNoPlace : List Str} {abNoPlace : Bool} {colNoPlace : Option Bool} {ddNoPlace : Option Addr} {k0NoPlace k1NoPlace k2NoPlace k3NoPlace k5NoPlace : Option Value}
    {qNoPeople : Str} {NNoPeople : Addr} {bsNoPeople subNoPeople : List Value} {snNoPeople : List Str} {abNoPeople : Bool} {colNoPeople : Option Bool} {ddNoPeople : Option Addr} {k0NoPeople k1NoPeople k2NoPeople k3NoPeople k5NoPeople : Option Value}
    {qNoPerson : Str} {NNoPerson : Addr} {bsNoPerson subNoPerson : List Value} {snNoPerson : List Str} {abNoPerson : Bool} {colNoPerson : Option Bool} {ddNoPerson : Option Addr} {k0NoPerson k1NoPerson k2NoPerson k3NoPerson k5NoPerson : Option Value}
    {qNoLater : Str} {NNoLater : Addr} {bsNoLater subNoLater : List Value} {snNoLater : List Str} {abNoLater : Bool} {colNoLater : Option Bool} {ddNoLater : Option Addr} {k0NoLater k1NoLater k2NoLater k3NoLater k5NoLater : Option Value}
    {qNoCounts : Str} {NNoCounts : Addr} {bsNoCounts subNoCounts : List Value} {snNoCounts : List Str} {abNoCounts : Bool} {colNoCounts : Option Bool} {ddNoCounts : Option Addr} {k0NoCounts k1NoCounts k2NoCounts k3NoCounts k5NoCounts : Option Value}
    {qNoLevels : Str} {NNoLevels : Addr} {bsNoLevels subNoLevels : List Value} {snNoLevels : List Str} {abNoLevels : Bool} {colNoLevels : Option Bool} {ddNoLevels : Option Addr} {k0NoLevels k1NoLevels k2NoLevels k3NoLevels k5NoLevels : Option Value}
    {qTooShort : Str} {NTooShort : Addr} {bsTooShort subTooShort : List Value} {snTooShort : List Str} {abTooShort : Bool} {colTooShort : Option Bool} {ddTooShort : Option Addr} {k0TooShort k1TooShort k2TooShort k3TooShort k5TooShort : Option Value}
    {qNoState : Str} {NNoState : Addr} {bsNoState subNoState : List Value} {snNoState : List Str} {abNoState : Bool} {colNoState : Option Bool} {ddNoState : Option Addr} {k0NoState k1NoState k2NoState k3NoState k5NoState : Option Value}
    {qNoLevel : Str} {NNoLevel : Addr} {bsNoLevel subNoLevel : List Value} {snNoLevel : List Str} {abNoLevel : Bool} {colNoLevel : Option Bool} {ddNoLevel : Option Addr} {k0NoLevel k1NoLevel k2NoLevel k3NoLevel k5NoLevel : Option Value}
    {qNoCount : Str} {NNoCount : Addr} {bsNoCount subNoCount : List Value} {snNoCount : List Str} {abNoCount : Bool} {colNoCount : Option Bool} {ddNoCount : Option Addr} {k0NoCount k1NoCount k2NoCount k3NoCount k5NoCount : Option Value}
    {qNoOrder : Str} {NNoOrder : Addr} {bsNoOrder subNoOrder : List Value} {snNoOrder : List Str} {abNoOrder : Bool} {colNoOrder : Option Bool} {ddNoOrder : Option Addr} {k0NoOrder k1NoOrder k2NoOrder k3NoOrder k5NoOrder : Option Value}
    {qNothingToUndo : Str} {NNothingToUndo : Addr} {bsNothingToUndo subNothingToUndo : List Value} {snNothingToUndo : List Str} {abNothingToUndo : Bool} {colNothingToUndo : Option Bool} {ddNothingToUndo : Option Addr} {k0NothingToUndo k1NothingToUndo k2NothingToUndo k3NothingToUndo k5NothingToUndo : Option Value}
    {qNoName : Str} {NNoName : Addr} {bsNoName subNoName : List Value} {snNoName : List Str} {abNoName : Bool} {colNoName : Option Bool} {ddNoName : Option Addr} {k0NoName k1NoName k2NoName k3NoName k5NoName : Option Value}
    {qNoRoom : Str} {NNoRoom : Addr} {bsNoRoom subNoRoom : List Value} {snNoRoom : List Str} {abNoRoom : Bool} {colNoRoom : Option Bool} {ddNoRoom : Option Addr} {k0NoRoom k1NoRoom k2NoRoom k3NoRoom k5NoRoom : Option Value}
    {qNoRow : Str} {NNoRow : Addr} {bsNoRow subNoRow : List Value} {snNoRow : List Str} {abNoRow : Bool} {colNoRow : Option Bool} {ddNoRow : Option Addr} {k0NoRow k1NoRow k2NoRow k3NoRow k5NoRow : Option Value}
    {qNoLook : Str} {NNoLook : Addr} {bsNoLook subNoLook : List Value} {snNoLook : List Str} {abNoLook : Bool} {colNoLook : Option Bool} {ddNoLook : Option Addr} {k0NoLook k1NoLook k2NoLook k3NoLook k5NoLook : Option Value}
    {qNoText : Str} {NNoText : Addr} {bsNoText subNoText : List Value} {snNoText : List Str} {abNoText : Bool} {colNoText : Option Bool} {ddNoText : Option Addr} {k0NoText k1NoText k2NoText k3NoText k5NoText : Option Value}
    (aKRoundError : PySem.W.nsIn K mainGlobals "RoundError" = some (some (.ref xRoundError)))
    (aKNoNumber : PySem.W.nsIn K mainGlobals "NoNumber" = some (some (.ref xNoNumber)))
    (aKNoBase : PySem.W.nsIn K mainGlobals "NoBase" = some (some (.ref xNoBase)))
    (aKNoDivisor : PySem.W.nsIn K mainGlobals "NoDivisor" = some (some (.ref xNoDivisor)))
    (aKNoRest : PySem.W.nsIn K mainGlobals "NoRest" = some (some (.ref xNoRest)))
    (aKNoFigure : PySem.W.nsIn K mainGlobals "NoFigure" = some (some (.ref xNoFigure)))
    (aKNoMatch : PySem.W.nsIn K mainGlobals "NoMatch" = some (some (.ref xNoMatch)))
    (aKTooWide : PySem.W.nsIn K mainGlobals "TooWide" = some (some (.ref xTooWide)))
    (aKNoPlace : PySem.W.nsIn K mainGlobals "NoPlace" = some (some (.ref xNoPlace)))
    (aKNoPeople : PySem.W.nsIn K mainGlobals "NoPeople" = some (some (.ref xNoPeople)))
    (aKNoPerson : PySem.W.nsIn K mainGlobals "NoPerson" = some (some (.ref xNoPerson)))
    (aKNoLater : PySem.W.nsIn K mainGlobals "NoLater" = some (some (.ref xNoLater)))
    (aKNoCounts : PySem.W.nsIn K mainGlobals "NoCounts" = some (some (.ref xNoCounts)))
    (aKNoLevels : PySem.W.nsIn K mainGlobals "NoLevels" = some (some (.ref xNoLevels)))
    (aKTooShort : PySem.W.nsIn K mainGlobals "TooShort" = some (some (.ref xTooShort)))
    (aKNoState : PySem.W.nsIn K mainGlobals "NoState" = some (some (.ref xNoState)))
    (aKNoLevel : PySem.W.nsIn K mainGlobals "NoLevel" = some (some (.ref xNoLevel)))
    (aKNoCount : PySem.W.nsIn K mainGlobals "NoCount" = some (some (.ref xNoCount)))
    (aKNoOrder : PySem.W.nsIn K mainGlobals "NoOrder" = some (some (.ref xNoOrder)))
    (aKNothingToUndo : PySem.W.nsIn K mainGlobals "NothingToUndo" = some (some (.ref xNothingToUndo)))
    (aKNoName : PySem.W.nsIn K mainGlobals "NoName" = some (some (.ref xNoName)))
    (aKNoRoom : PySem.W.nsIn K mainGlobals "NoRoom" = some (some (.ref xNoRoom)))
    (aKNoRow : PySem.W.nsIn K mainGlobals "NoRow" = some (some (.ref xNoRow)))
    (aKNoLook : PySem.W.nsIn K mainGlobals "NoLook" = some (some (.ref xNoLook)))
    (aKNoText : PySem.W.nsIn K mainGlobals "NoText" = some (some (.ref xNoText)))
    (a0 : PySem.W.nsIn K mainGlobals "_law_bag" = some (some (.ref f0)))
    (l0 : K.lookup f0 = some ⟨oc0, od0, .func (PySem.W.fnOf "_law_bag" "_law_bag" (defArgs s__law_bag) (defBody s__law_bag) (defScope s__law_bag) .none kV0 dc0 pm0 an0 cd0 ct0), sl0⟩)
    (c0 : PySem.W.codeIn K cd0 "_law_bag" = true)
    (k0 : PySem.W.keepIn K (.ref f0) = true)
    (a1 : PySem.W.nsIn K mainGlobals "_law_draw" = some (some (.ref f1)))
    (l1 : K.lookup f1 = some ⟨oc1, od1, .func (PySem.W.fnOf "_law_draw" "_law_draw" (defArgs s__law_draw) (defBody s__law_draw) (defScope s__law_draw) .none kV1 dc1 pm1 an1 cd1 ct1), sl1⟩)
    (c1 : PySem.W.codeIn K cd1 "_law_draw" = true)
    (k1 : PySem.W.keepIn K (.ref f1) = true)
    (a2 : PySem.W.nsIn K mainGlobals "_law_made" = some (some (.ref f2)))
    (l2 : K.lookup f2 = some ⟨oc2, od2, .func (PySem.W.fnOf "_law_made" "_law_made" (defArgs s__law_made) (defBody s__law_made) (defScope s__law_made) .none kV2 dc2 pm2 an2 cd2 ct2), sl2⟩)
    (c2 : PySem.W.codeIn K cd2 "_law_made" = true)
    (k2 : PySem.W.keepIn K (.ref f2) = true)
    (a3 : PySem.W.nsIn K mainGlobals "_law_which" = some (some (.ref f3)))
    (l3 : K.lookup f3 = some ⟨oc3, od3, .func (PySem.W.fnOf "_law_which" "_law_which" (defArgs s__law_which) (defBody s__law_which) (defScope s__law_which) .none kV3 dc3 pm3 an3 cd3 ct3), sl3⟩)
    (c3 : PySem.W.codeIn K cd3 "_law_which" = true)
    (k3 : PySem.W.keepIn K (.ref f3) = true)
    (a4 : PySem.W.nsIn K mainGlobals "_law_value" = some (some (.ref f4)))
    (l4 : K.lookup f4 = some ⟨oc4, od4, .func (PySem.W.fnOf "_law_value" "_law_value" (defArgs s__law_value) (defBody s__law_value) (defScope s__law_value) .none kV4 dc4 pm4 an4 cd4 ct4), sl4⟩)
    (c4 : PySem.W.codeIn K cd4 "_law_value" = true)
    (k4 : PySem.W.keepIn K (.ref f4) = true)
    (a5 : PySem.W.nsIn K mainGlobals "_law_words" = some (some (.ref f5)))
    (l5 : K.lookup f5 = some ⟨oc5, od5, .func (PySem.W.fnOf "_law_words" "_law_words" (defArgs s__law_words) (defBody s__law_words) (defScope s__law_words) .none kV5 dc5 pm5 an5 cd5 ct5), sl5⟩)
    (c5 : PySem.W.codeIn K cd5 "_law_words" = true)
    (k5 : PySem.W.keepIn K (.ref f5) = true)
    (a6 : PySem.W.nsIn K mainGlobals "_law_right" = some (some (.ref f6)))
    (l6 : K.lookup f6 = some ⟨oc6, od6, .func (PySem.W.fnOf "_law_right" "_law_right" (defArgs s__law_right) (defBody s__law_right) (defScope s__law_right) .none kV6 dc6 pm6 an6 cd6 ct6), sl6⟩)
    (c6 : PySem.W.codeIn K cd6 "_law_right" = true)
    (k6 : PySem.W.keepIn K (.ref f6) = true)
    (a7 : PySem.W.nsIn K mainGlobals "law" = some (some (.ref f7)))
    (l7 : K.lookup f7 = some ⟨oc7, od7, .func (PySem.W.fnOf "law" "law" (defArgs s_law) (defBody s_law) (defScope s_law) .none kV7 dc7 pm7 an7 cd7 ct7), sl7⟩)
    (c7 : PySem.W.codeIn K cd7 "law" = true)
    (k7 : PySem.W.keepIn K (.ref f7) = true)
    (a8 : PySem.W.findIn K (.ref xNoRow) "__init__" = some (some (.ref f8)))
    (i8 : PySem.W.isFn K (.ref f8) = true)
    (l8 : K.lookup f8 = some ⟨oc8, od8, .func (PySem.W.fnOf "__init__" "NoRow.__init__" (defArgs s_NoRow___init__) (defBody s_NoRow___init__) (defScope s_NoRow___init__) .none kV8 dc8 pm8 an8 cd8 ct8), sl8⟩)
    (c8 : PySem.W.codeIn K cd8 "NoRow.__init__" = true)
    (k8 : PySem.W.keepIn K (.ref f8) = true)
    (a9 : PySem.W.findIn K (.ref xNoLook) "__init__" = some (some (.ref f9)))
    (i9 : PySem.W.isFn K (.ref f9) = true)
    (l9 : K.lookup f9 = some ⟨oc9, od9, .func (PySem.W.fnOf "__init__" "NoLook.__init__" (defArgs s_NoLook___init__) (defBody s_NoLook___init__) (defScope s_NoLook___init__) .none kV9 dc9 pm9 an9 cd9 ct9), sl9⟩)
    (c9 : PySem.W.codeIn K cd9 "NoLook.__init__" = true)
    (k9 : PySem.W.keepIn K (.ref f9) = true)
    (a10 : PySem.W.findIn K (.ref xNoText) "__init__" = some (some (.ref f10)))
    (i10 : PySem.W.isFn K (.ref f10) = true)
    (l10 : K.lookup f10 = some ⟨oc10, od10, .func (PySem.W.fnOf "__init__" "NoText.__init__" (defArgs s_NoText___init__) (defBody s_NoText___init__) (defScope s_NoText___init__) .none kV10 dc10 pm10 an10 cd10 ct10), sl10⟩)
    (c10 : PySem.W.codeIn K cd10 "NoText.__init__" = true)
    (k10 : PySem.W.keepIn K (.ref f10) = true)
    (z_len : PySem.W.nsIn K mainGlobals "len" = some none)
    (z_range : PySem.W.nsIn K mainGlobals "range" = some none)
    (z_int : PySem.W.nsIn K mainGlobals "int" = some none)
    (z_abs : PySem.W.nsIn K mainGlobals "abs" = some none)
    (z_max : PySem.W.nsIn K mainGlobals "max" = some none)
    (z_min : PySem.W.nsIn K mainGlobals "min" = some none)
    (z_isinstance : PySem.W.nsIn K mainGlobals "isinstance" = some none)
    (z_repr : PySem.W.nsIn K mainGlobals "repr" = some none)
    (z_str : PySem.W.nsIn K mainGlobals "str" = some none)
    (z_ValueError : PySem.W.nsIn K mainGlobals "ValueError" = some none)
    (hn : PySem.W.specialIn K (.builtin "object.__class__") "__get__" = some (some (.builtin "getset_descriptor.__get__")))
    (htk : PySem.W.takesIn K (.builtin "object.__class__") = some true)
    (lKRoundError : K.lookup xRoundError = some (excClassObj "RoundError" qRoundError xRoundError NRoundError bsRoundError [.type "ValueError", .type "Exception", .type "BaseException", .type "object"] true snRoundError subRoundError abRoundError colRoundError ddRoundError k0RoundError k1RoundError k2RoundError k3RoundError k5RoundError "ValueError.__new__"))
    (kpRoundError : PySem.W.keepIn K (.ref xRoundError) = true)
    (gaRoundError : PySem.W.findIn K (.ref xRoundError) "__getattribute__" = some (some (.builtin "BaseException.__getattribute__")))
    (ggRoundError : PySem.W.findIn K (.ref xRoundError) "__getattr__" = some none)
    (haRoundError : PySem.W.findIn K (.ref xRoundError) "__class__" = some (some (.builtin "object.__class__")))
    (qeRoundError : PySem.W.excIn K xRoundError [.type "ValueError", .type "Exception", .type "BaseException", .type "object"] "ValueError.__new__" = true)
    (lKNoNumber : K.lookup xNoNumber = some (excClassObj "NoNumber" qNoNumber xNoNumber NNoNumber bsNoNumber [.ref xRoundError, .type "ValueError", .type "Exception", .type "BaseException", .type "object"] true snNoNumber subNoNumber abNoNumber colNoNumber ddNoNumber k0NoNumber k1NoNumber k2NoNumber k3NoNumber k5NoNumber "ValueError.__new__"))
    (kpNoNumber : PySem.W.keepIn K (.ref xNoNumber) = true)
    (gaNoNumber : PySem.W.findIn K (.ref xNoNumber) "__getattribute__" = some (some (.builtin "BaseException.__getattribute__")))
    (ggNoNumber : PySem.W.findIn K (.ref xNoNumber) "__getattr__" = some none)
    (haNoNumber : PySem.W.findIn K (.ref xNoNumber) "__class__" = some (some (.builtin "object.__class__")))
    (qeNoNumber : PySem.W.excIn K xNoNumber [.type "ValueError", .type "Exception", .type "BaseException", .type "object"] "ValueError.__new__" = true)
    (lKNoBase : K.lookup xNoBase = some (excClassObj "NoBase" qNoBase xNoBase NNoBase bsNoBase [.ref xRoundError, .type "ValueError", .type "Exception", .type "BaseException", .type "object"] true snNoBase subNoBase abNoBase colNoBase ddNoBase k0NoBase k1NoBase k2NoBase k3NoBase k5NoBase "ValueError.__new__"))
    (kpNoBase : PySem.W.keepIn K (.ref xNoBase) = true)
    (gaNoBase : PySem.W.findIn K (.ref xNoBase) "__getattribute__" = some (some (.builtin "BaseException.__getattribute__")))
    (ggNoBase : PySem.W.findIn K (.ref xNoBase) "__getattr__" = some none)
    (haNoBase : PySem.W.findIn K (.ref xNoBase) "__class__" = some (some (.builtin "object.__class__")))
    (qeNoBase : PySem.W.excIn K xNoBase [.type "ValueError", .type "Exception", .type "BaseException", .type "object"] "ValueError.__new__" = true)
    (lKNoDivisor : K.lookup xNoDivisor = some (excClassObj "NoDivisor" qNoDivisor xNoDivisor NNoDivisor bsNoDivisor [.ref xRoundError, .type "ValueError", .type "Exception", .type "BaseException", .type "object"] true snNoDivisor subNoDivisor abNoDivisor colNoDivisor ddNoDivisor k0NoDivisor k1NoDivisor k2NoDivisor k3NoDivisor k5NoDivisor "ValueError.__new__"))
    (kpNoDivisor : PySem.W.keepIn K (.ref xNoDivisor) = true)
    (gaNoDivisor : PySem.W.findIn K (.ref xNoDivisor) "__getattribute__" = some (some (.builtin "BaseException.__getattribute__")))
    (ggNoDivisor : PySem.W.findIn K (.ref xNoDivisor) "__getattr__" = some none)
    (haNoDivisor : PySem.W.findIn K (.ref xNoDivisor) "__class__" = some (some (.builtin "object.__class__")))
    (qeNoDivisor : PySem.W.excIn K xNoDivisor [.type "ValueError", .type "Exception", .type "BaseException", .type "object"] "ValueError.__new__" = true)
    (lKNoRest : K.lookup xNoRest = some (excClassObj "NoRest" qNoRest xNoRest NNoRest bsNoRest [.ref xRoundError, .type "ValueError", .type "Exception", .type "BaseException", .type "object"] true snNoRest subNoRest abNoRest colNoRest ddNoRest k0NoRest k1NoRest k2NoRest k3NoRest k5NoRest "ValueError.__new__"))
    (kpNoRest : PySem.W.keepIn K (.ref xNoRest) = true)
    (gaNoRest : PySem.W.findIn K (.ref xNoRest) "__getattribute__" = some (some (.builtin "BaseException.__getattribute__")))
    (ggNoRest : PySem.W.findIn K (.ref xNoRest) "__getattr__" = some none)
    (haNoRest : PySem.W.findIn K (.ref xNoRest) "__class__" = some (some (.builtin "object.__class__")))
    (qeNoRest : PySem.W.excIn K xNoRest [.type "ValueError", .type "Exception", .type "BaseException", .type "object"] "ValueError.__new__" = true)
    (lKNoFigure : K.lookup xNoFigure = some (excClassObj "NoFigure" qNoFigure xNoFigure NNoFigure bsNoFigure [.ref xRoundError, .type "ValueError", .type "Exception", .type "BaseException", .type "object"] true snNoFigure subNoFigure abNoFigure colNoFigure ddNoFigure k0NoFigure k1NoFigure k2NoFigure k3NoFigure k5NoFigure "ValueError.__new__"))
    (kpNoFigure : PySem.W.keepIn K (.ref xNoFigure) = true)
    (gaNoFigure : PySem.W.findIn K (.ref xNoFigure) "__getattribute__" = some (some (.builtin "BaseException.__getattribute__")))
    (ggNoFigure : PySem.W.findIn K (.ref xNoFigure) "__getattr__" = some none)
    (haNoFigure : PySem.W.findIn K (.ref xNoFigure) "__class__" = some (some (.builtin "object.__class__")))
    (qeNoFigure : PySem.W.excIn K xNoFigure [.type "ValueError", .type "Exception", .type "BaseException", .type "object"] "ValueError.__new__" = true)
    (lKNoMatch : K.lookup xNoMatch = some (excClassObj "NoMatch" qNoMatch xNoMatch NNoMatch bsNoMatch [.ref xRoundError, .type "ValueError", .type "Exception", .type "BaseException", .type "object"] true snNoMatch subNoMatch abNoMatch colNoMatch ddNoMatch k0NoMatch k1NoMatch k2NoMatch k3NoMatch k5NoMatch "ValueError.__new__"))
    (kpNoMatch : PySem.W.keepIn K (.ref xNoMatch) = true)
    (gaNoMatch : PySem.W.findIn K (.ref xNoMatch) "__getattribute__" = some (some (.builtin "BaseException.__getattribute__")))
    (ggNoMatch : PySem.W.findIn K (.ref xNoMatch) "__getattr__" = some none)
    (haNoMatch : PySem.W.findIn K (.ref xNoMatch) "__class__" = some (some (.builtin "object.__class__")))
    (qeNoMatch : PySem.W.excIn K xNoMatch [.type "ValueError", .type "Exception", .type "BaseException", .type "object"] "ValueError.__new__" = true)
    (lKTooWide : K.lookup xTooWide = some (excClassObj "TooWide" qTooWide xTooWide NTooWide bsTooWide [.ref xRoundError, .type "ValueError", .type "Exception", .type "BaseException", .type "object"] true snTooWide subTooWide abTooWide colTooWide ddTooWide k0TooWide k1TooWide k2TooWide k3TooWide k5TooWide "ValueError.__new__"))
    (kpTooWide : PySem.W.keepIn K (.ref xTooWide) = true)
    (gaTooWide : PySem.W.findIn K (.ref xTooWide) "__getattribute__" = some (some (.builtin "BaseException.__getattribute__")))
    (ggTooWide : PySem.W.findIn K (.ref xTooWide) "__getattr__" = some none)
    (haTooWide : PySem.W.findIn K (.ref xTooWide) "__class__" = some (some (.builtin "object.__class__")))
    (qeTooWide : PySem.W.excIn K xTooWide [.type "ValueError", .type "Exception", .type "BaseException", .type "object"] "ValueError.__new__" = true)
    (lKNoPlace : K.lookup xNoPlace = some (excClassObj "NoPlace" qNoPlace xNoPlace NNoPlace bsNoPlace [.ref xRoundError, .type "ValueError", .type "Exception", .type "BaseException", .type "object"] true snNoPlace subNoPlace abNoPlace colNoPlace ddNoPlace k0NoPlace k1NoPlace k2NoPlace k3NoPlace k5NoPlace "ValueError.__new__"))
    (kpNoPlace : PySem.W.keepIn K (.ref xNoPlace) = true)
    (gaNoPlace : PySem.W.findIn K (.ref xNoPlace) "__getattribute__" = some (some (.builtin "BaseException.__getattribute__")))
    (ggNoPlace : PySem.W.findIn K (.ref xNoPlace) "__getattr__" = some none)
    (haNoPlace : PySem.W.findIn K (.ref xNoPlace) "__class__" = some (some (.builtin "object.__class__")))
    (qeNoPlace : PySem.W.excIn K xNoPlace [.type "ValueError", .type "Exception", .type "BaseException", .type "object"] "ValueError.__new__" = true)
    (lKNoPeople : K.lookup xNoPeople = some (excClassObj "NoPeople" qNoPeople xNoPeople NNoPeople bsNoPeople [.ref xRoundError, .type "ValueError", .type "Exception", .type "BaseException", .type "object"] true snNoPeople subNoPeople abNoPeople colNoPeople ddNoPeople k0NoPeople k1NoPeople k2NoPeople k3NoPeople k5NoPeople "ValueError.__new__"))
    (kpNoPeople : PySem.W.keepIn K (.ref xNoPeople) = true)
    (gaNoPeople : PySem.W.findIn K (.ref xNoPeople) "__getattribute__" = some (some (.builtin "BaseException.__getattribute__")))
    (ggNoPeople : PySem.W.findIn K (.ref xNoPeople) "__getattr__" = some none)
    (haNoPeople : PySem.W.findIn K (.ref xNoPeople) "__class__" = some (some (.builtin "object.__class__")))
    (qeNoPeople : PySem.W.excIn K xNoPeople [.type "ValueError", .type "Exception", .type "BaseException", .type "object"] "ValueError.__new__" = true)
    (lKNoPerson : K.lookup xNoPerson = some (excClassObj "NoPerson" qNoPerson xNoPerson NNoPerson bsNoPerson [.ref xRoundError, .type "ValueError", .type "Exception", .type "BaseException", .type "object"] true snNoPerson subNoPerson abNoPerson colNoPerson ddNoPerson k0NoPerson k1NoPerson k2NoPerson k3NoPerson k5NoPerson "ValueError.__new__"))
    (kpNoPerson : PySem.W.keepIn K (.ref xNoPerson) = true)
    (gaNoPerson : PySem.W.findIn K (.ref xNoPerson) "__getattribute__" = some (some (.builtin "BaseException.__getattribute__")))
    (ggNoPerson : PySem.W.findIn K (.ref xNoPerson) "__getattr__" = some none)
    (haNoPerson : PySem.W.findIn K (.ref xNoPerson) "__class__" = some (some (.builtin "object.__class__")))
    (qeNoPerson : PySem.W.excIn K xNoPerson [.type "ValueError", .type "Exception", .type "BaseException", .type "object"] "ValueError.__new__" = true)
    (lKNoLater : K.lookup xNoLater = some (excClassObj "NoLater" qNoLater xNoLater NNoLater bsNoLater [.ref xRoundError, .type "ValueError", .type "Exception", .type "BaseException", .type "object"] true snNoLater subNoLater abNoLater colNoLater ddNoLater k0NoLater k1NoLater k2NoLater k3NoLater k5NoLater "ValueError.__new__"))
    (kpNoLater : PySem.W.keepIn K (.ref xNoLater) = true)
    (gaNoLater : PySem.W.findIn K (.ref xNoLater) "__getattribute__" = some (some (.builtin "BaseException.__getattribute__")))
    (ggNoLater : PySem.W.findIn K (.ref xNoLater) "__getattr__" = some none)
    (haNoLater : PySem.W.findIn K (.ref xNoLater) "__class__" = some (some (.builtin "object.__class__")))
    (qeNoLater : PySem.W.excIn K xNoLater [.type "ValueError", .type "Exception", .type "BaseException", .type "object"] "ValueError.__new__" = true)
    (lKNoCounts : K.lookup xNoCounts = some (excClassObj "NoCounts" qNoCounts xNoCounts NNoCounts bsNoCounts [.ref xRoundError, .type "ValueError", .type "Exception", .type "BaseException", .type "object"] true snNoCounts subNoCounts abNoCounts colNoCounts ddNoCounts k0NoCounts k1NoCounts k2NoCounts k3NoCounts k5NoCounts "ValueError.__new__"))
    (kpNoCounts : PySem.W.keepIn K (.ref xNoCounts) = true)
    (gaNoCounts : PySem.W.findIn K (.ref xNoCounts) "__getattribute__" = some (some (.builtin "BaseException.__getattribute__")))
    (ggNoCounts : PySem.W.findIn K (.ref xNoCounts) "__getattr__" = some none)
    (haNoCounts : PySem.W.findIn K (.ref xNoCounts) "__class__" = some (some (.builtin "object.__class__")))
    (qeNoCounts : PySem.W.excIn K xNoCounts [.type "ValueError", .type "Exception", .type "BaseException", .type "object"] "ValueError.__new__" = true)
    (lKNoLevels : K.lookup xNoLevels = some (excClassObj "NoLevels" qNoLevels xNoLevels NNoLevels bsNoLevels [.ref xRoundError, .type "ValueError", .type "Exception", .type "BaseException", .type "object"] true snNoLevels subNoLevels abNoLevels colNoLevels ddNoLevels k0NoLevels k1NoLevels k2NoLevels k3NoLevels k5NoLevels "ValueError.__new__"))
    (kpNoLevels : PySem.W.keepIn K (.ref xNoLevels) = true)
    (gaNoLevels : PySem.W.findIn K (.ref xNoLevels) "__getattribute__" = some (some (.builtin "BaseException.__getattribute__")))
    (ggNoLevels : PySem.W.findIn K (.ref xNoLevels) "__getattr__" = some none)
    (haNoLevels : PySem.W.findIn K (.ref xNoLevels) "__class__" = some (some (.builtin "object.__class__")))
    (qeNoLevels : PySem.W.excIn K xNoLevels [.type "ValueError", .type "Exception", .type "BaseException", .type "object"] "ValueError.__new__" = true)
    (lKTooShort : K.lookup xTooShort = some (excClassObj "TooShort" qTooShort xTooShort NTooShort bsTooShort [.ref xRoundError, .type "ValueError", .type "Exception", .type "BaseException", .type "object"] true snTooShort subTooShort abTooShort colTooShort ddTooShort k0TooShort k1TooShort k2TooShort k3TooShort k5TooShort "ValueError.__new__"))
    (kpTooShort : PySem.W.keepIn K (.ref xTooShort) = true)
    (gaTooShort : PySem.W.findIn K (.ref xTooShort) "__getattribute__" = some (some (.builtin "BaseException.__getattribute__")))
    (ggTooShort : PySem.W.findIn K (.ref xTooShort) "__getattr__" = some none)
    (haTooShort : PySem.W.findIn K (.ref xTooShort) "__class__" = some (some (.builtin "object.__class__")))
    (qeTooShort : PySem.W.excIn K xTooShort [.type "ValueError", .type "Exception", .type "BaseException", .type "object"] "ValueError.__new__" = true)
    (lKNoState : K.lookup xNoState = some (excClassObj "NoState" qNoState xNoState NNoState bsNoState [.ref xRoundError, .type "ValueError", .type "Exception", .type "BaseException", .type "object"] true snNoState subNoState abNoState colNoState ddNoState k0NoState k1NoState k2NoState k3NoState k5NoState "ValueError.__new__"))
    (kpNoState : PySem.W.keepIn K (.ref xNoState) = true)
    (gaNoState : PySem.W.findIn K (.ref xNoState) "__getattribute__" = some (some (.builtin "BaseException.__getattribute__")))
    (ggNoState : PySem.W.findIn K (.ref xNoState) "__getattr__" = some none)
    (haNoState : PySem.W.findIn K (.ref xNoState) "__class__" = some (some (.builtin "object.__class__")))
    (qeNoState : PySem.W.excIn K xNoState [.type "ValueError", .type "Exception", .type "BaseException", .type "object"] "ValueError.__new__" = true)
    (lKNoLevel : K.lookup xNoLevel = some (excClassObj "NoLevel" qNoLevel xNoLevel NNoLevel bsNoLevel [.ref xRoundError, .type "ValueError", .type "Exception", .type "BaseException", .type "object"] true snNoLevel subNoLevel abNoLevel colNoLevel ddNoLevel k0NoLevel k1NoLevel k2NoLevel k3NoLevel k5NoLevel "ValueError.__new__"))
    (kpNoLevel : PySem.W.keepIn K (.ref xNoLevel) = true)
    (gaNoLevel : PySem.W.findIn K (.ref xNoLevel) "__getattribute__" = some (some (.builtin "BaseException.__getattribute__")))
    (ggNoLevel : PySem.W.findIn K (.ref xNoLevel) "__getattr__" = some none)
    (haNoLevel : PySem.W.findIn K (.ref xNoLevel) "__class__" = some (some (.builtin "object.__class__")))
    (qeNoLevel : PySem.W.excIn K xNoLevel [.type "ValueError", .type "Exception", .type "BaseException", .type "object"] "ValueError.__new__" = true)
    (lKNoCount : K.lookup xNoCount = some (excClassObj "NoCount" qNoCount xNoCount NNoCount bsNoCount [.ref xRoundError, .type "ValueError", .type "Exception", .type "BaseException", .type "object"] true snNoCount subNoCount abNoCount colNoCount ddNoCount k0NoCount k1NoCount k2NoCount k3NoCount k5NoCount "ValueError.__new__"))
    (kpNoCount : PySem.W.keepIn K (.ref xNoCount) = true)
    (gaNoCount : PySem.W.findIn K (.ref xNoCount) "__getattribute__" = some (some (.builtin "BaseException.__getattribute__")))
    (ggNoCount : PySem.W.findIn K (.ref xNoCount) "__getattr__" = some none)
    (haNoCount : PySem.W.findIn K (.ref xNoCount) "__class__" = some (some (.builtin "object.__class__")))
    (qeNoCount : PySem.W.excIn K xNoCount [.type "ValueError", .type "Exception", .type "BaseException", .type "object"] "ValueError.__new__" = true)
    (lKNoOrder : K.lookup xNoOrder = some (excClassObj "NoOrder" qNoOrder xNoOrder NNoOrder bsNoOrder [.ref xRoundError, .type "ValueError", .type "Exception", .type "BaseException", .type "object"] true snNoOrder subNoOrder abNoOrder colNoOrder ddNoOrder k0NoOrder k1NoOrder k2NoOrder k3NoOrder k5NoOrder "ValueError.__new__"))
    (kpNoOrder : PySem.W.keepIn K (.ref xNoOrder) = true)
    (gaNoOrder : PySem.W.findIn K (.ref xNoOrder) "__getattribute__" = some (some (.builtin "BaseException.__getattribute__")))
    (ggNoOrder : PySem.W.findIn K (.ref xNoOrder) "__getattr__" = some none)
    (haNoOrder : PySem.W.findIn K (.ref xNoOrder) "__class__" = some (some (.builtin "object.__class__")))
    (qeNoOrder : PySem.W.excIn K xNoOrder [.type "ValueError", .type "Exception", .type "BaseException", .type "object"] "ValueError.__new__" = true)
    (lKNothingToUndo : K.lookup xNothingToUndo = some (excClassObj "NothingToUndo" qNothingToUndo xNothingToUndo NNothingToUndo bsNothingToUndo [.ref xRoundError, .type "ValueError", .type "Exception", .type "BaseException", .type "object"] true snNothingToUndo subNothingToUndo abNothingToUndo colNothingToUndo ddNothingToUndo k0NothingToUndo k1NothingToUndo k2NothingToUndo k3NothingToUndo k5NothingToUndo "ValueError.__new__"))
    (kpNothingToUndo : PySem.W.keepIn K (.ref xNothingToUndo) = true)
    (gaNothingToUndo : PySem.W.findIn K (.ref xNothingToUndo) "__getattribute__" = some (some (.builtin "BaseException.__getattribute__")))
    (ggNothingToUndo : PySem.W.findIn K (.ref xNothingToUndo) "__getattr__" = some none)
    (haNothingToUndo : PySem.W.findIn K (.ref xNothingToUndo) "__class__" = some (some (.builtin "object.__class__")))
    (qeNothingToUndo : PySem.W.excIn K xNothingToUndo [.type "ValueError", .type "Exception", .type "BaseException", .type "object"] "ValueError.__new__" = true)
    (lKNoName : K.lookup xNoName = some (excClassObj "NoName" qNoName xNoName NNoName bsNoName [.ref xRoundError, .type "ValueError", .type "Exception", .type "BaseException", .type "object"] true snNoName subNoName abNoName colNoName ddNoName k0NoName k1NoName k2NoName k3NoName k5NoName "ValueError.__new__"))
    (kpNoName : PySem.W.keepIn K (.ref xNoName) = true)
    (gaNoName : PySem.W.findIn K (.ref xNoName) "__getattribute__" = some (some (.builtin "BaseException.__getattribute__")))
    (ggNoName : PySem.W.findIn K (.ref xNoName) "__getattr__" = some none)
    (haNoName : PySem.W.findIn K (.ref xNoName) "__class__" = some (some (.builtin "object.__class__")))
    (qeNoName : PySem.W.excIn K xNoName [.type "ValueError", .type "Exception", .type "BaseException", .type "object"] "ValueError.__new__" = true)
    (lKNoRoom : K.lookup xNoRoom = some (excClassObj "NoRoom" qNoRoom xNoRoom NNoRoom bsNoRoom [.ref xRoundError, .type "ValueError", .type "Exception", .type "BaseException", .type "object"] true snNoRoom subNoRoom abNoRoom colNoRoom ddNoRoom k0NoRoom k1NoRoom k2NoRoom k3NoRoom k5NoRoom "ValueError.__new__"))
    (kpNoRoom : PySem.W.keepIn K (.ref xNoRoom) = true)
    (gaNoRoom : PySem.W.findIn K (.ref xNoRoom) "__getattribute__" = some (some (.builtin "BaseException.__getattribute__")))
    (ggNoRoom : PySem.W.findIn K (.ref xNoRoom) "__getattr__" = some none)
    (haNoRoom : PySem.W.findIn K (.ref xNoRoom) "__class__" = some (some (.builtin "object.__class__")))
    (qeNoRoom : PySem.W.excIn K xNoRoom [.type "ValueError", .type "Exception", .type "BaseException", .type "object"] "ValueError.__new__" = true)
    (lKNoRow : K.lookup xNoRow = some (excClassObj "NoRow" qNoRow xNoRow NNoRow bsNoRow [.ref xRoundError, .type "ValueError", .type "Exception", .type "BaseException", .type "object"] true snNoRow subNoRow abNoRow colNoRow ddNoRow k0NoRow k1NoRow k2NoRow k3NoRow k5NoRow "ValueError.__new__"))
    (kpNoRow : PySem.W.keepIn K (.ref xNoRow) = true)
    (gaNoRow : PySem.W.findIn K (.ref xNoRow) "__getattribute__" = some (some (.builtin "BaseException.__getattribute__")))
    (ggNoRow : PySem.W.findIn K (.ref xNoRow) "__getattr__" = some none)
    (haNoRow : PySem.W.findIn K (.ref xNoRow) "__class__" = some (some (.builtin "object.__class__")))
    (saNoRow : PySem.W.findIn K (.ref xNoRow) "__setattr__" = some (some (.builtin "object.__setattr__")))
    (noNoRow : PySem.W.findIn K (.ref xNoRow) "index" = some none)
    (lKNoLook : K.lookup xNoLook = some (excClassObj "NoLook" qNoLook xNoLook NNoLook bsNoLook [.ref xRoundError, .type "ValueError", .type "Exception", .type "BaseException", .type "object"] true snNoLook subNoLook abNoLook colNoLook ddNoLook k0NoLook k1NoLook k2NoLook k3NoLook k5NoLook "ValueError.__new__"))
    (kpNoLook : PySem.W.keepIn K (.ref xNoLook) = true)
    (gaNoLook : PySem.W.findIn K (.ref xNoLook) "__getattribute__" = some (some (.builtin "BaseException.__getattribute__")))
    (ggNoLook : PySem.W.findIn K (.ref xNoLook) "__getattr__" = some none)
    (haNoLook : PySem.W.findIn K (.ref xNoLook) "__class__" = some (some (.builtin "object.__class__")))
    (saNoLook : PySem.W.findIn K (.ref xNoLook) "__setattr__" = some (some (.builtin "object.__setattr__")))
    (noNoLook : PySem.W.findIn K (.ref xNoLook) "index" = some none)
    (lKNoText : K.lookup xNoText = some (excClassObj "NoText" qNoText xNoText NNoText bsNoText [.ref xRoundError, .type "ValueError", .type "Exception", .type "BaseException", .type "object"] true snNoText subNoText abNoText colNoText ddNoText k0NoText k1NoText k2NoText k3NoText k5NoText "ValueError.__new__"))
    (kpNoText : PySem.W.keepIn K (.ref xNoText) = true)
    (gaNoText : PySem.W.findIn K (.ref xNoText) "__getattribute__" = some (some (.builtin "BaseException.__getattribute__")))
    (ggNoText : PySem.W.findIn K (.ref xNoText) "__getattr__" = some none)
    (haNoText : PySem.W.findIn K (.ref xNoText) "__class__" = some (some (.builtin "object.__class__")))
    (saNoText : PySem.W.findIn K (.ref xNoText) "__setattr__" = some (some (.builtin "object.__setattr__")))
    (noNoText : PySem.W.findIn K (.ref xNoText) "row" = some none) :
    ∃ fd : FuncData, (∀ (s : Shared) (v : Value), BindsTo s fd ⟨[v], []⟩ [("script", v)]) ∧ ∀ base : Heap, K.In base → base.Ns mainGlobals mg → FnG l.prog w K mg base CX0 5 fa fd ["script"] (spLaw K) := by
  refine ⟨PySem.W.fnOf "law" "law" (defArgs s_law) (defBody s_law) (defScope s_law) .none kV7 dc7 pm7 an7 cd7 ct7, fun s v => .of_eq rfl, fun base _ _ => ?_⟩
  have e := hfa.symm.trans (PySem.W.mg_of X G a7)
  cases e
  have g_len : mg "len" = none := PySem.W.mg_none_of X G z_len
  have g_range : mg "range" = none := PySem.W.mg_none_of X G z_range
  have g_int : mg "int" = none := PySem.W.mg_none_of X G z_int
  have g_abs : mg "abs" = none := PySem.W.mg_none_of X G z_abs
  have g_max : mg "max" = none := PySem.W.mg_none_of X G z_max
  have g_min : mg "min" = none := PySem.W.mg_none_of X G z_min
  have g_isinstance : mg "isinstance" = none := PySem.W.mg_none_of X G z_isinstance
  have g_repr : mg "repr" = none := PySem.W.mg_none_of X G z_repr
  have g_str : mg "str" = none := PySem.W.mg_none_of X G z_str
  have g_ValueError : mg "ValueError" = none := PySem.W.mg_none_of X G z_ValueError
  have F0 := fun_mk (st := s__law_bag) l0 c0 k0
  have b0 := F0.binds (ps := ["script", "k"]) fun _ _ _ _ _ _ us hl => match us, hl with | [_, _], _ => rfl
  have F1 := fun_mk (st := s__law_draw) l1 c1 k1
  have b1 := F1.binds (ps := ["bag", "many"]) fun _ _ _ _ _ _ us hl => match us, hl with | [_, _], _ => rfl
  have F2 := fun_mk (st := s__law_made) l2 c2 k2
  have b2 := F2.binds (ps := ["k", "line", "value"]) fun _ _ _ _ _ _ us hl => match us, hl with | [_, _, _], _ => rfl
  have F3 := fun_mk (st := s__law_which) l3 c3 k3
  have b3 := F3.binds (ps := ["e"]) fun _ _ _ _ _ _ us hl => match us, hl with | [_], _ => rfl
  have F4 := fun_mk (st := s__law_value) l4 c4 k4
  have b4 := F4.binds (ps := ["bag"]) fun _ _ _ _ _ _ us hl => match us, hl with | [_], _ => rfl
  have F5 := fun_mk (st := s__law_words) l5 c5 k5
  have b5 := F5.binds (ps := ["bag"]) fun _ _ _ _ _ _ us hl => match us, hl with | [_], _ => rfl
  have F6 := fun_mk (st := s__law_right) l6 c6 k6
  have b6 := F6.binds (ps := ["line", "value"]) fun _ _ _ _ _ _ us hl => match us, hl with | [_, _], _ => rfl
  have F7 := fun_mk (st := s_law) l7 c7 k7
  have b7 := F7.binds (ps := ["script"]) fun _ _ _ _ _ _ us hl => match us, hl with | [_], _ => rfl
  have F8 := fun_mk (st := s_NoRow___init__) l8 c8 k8
  have b8 := F8.binds (ps := ["self", "index"]) fun _ _ _ _ _ _ us hl => match us, hl with | [_, _], _ => rfl
  have F9 := fun_mk (st := s_NoLook___init__) l9 c9 k9
  have b9 := F9.binds (ps := ["self", "index"]) fun _ _ _ _ _ _ us hl => match us, hl with | [_, _], _ => rfl
  have F10 := fun_mk (st := s_NoText___init__) l10 c10 k10
  have b10 := F10.binds (ps := ["self", "row"]) fun _ _ _ _ _ _ us hl => match us, hl with | [_, _], _ => rfl
  have TD : TxtD mg := ⟨g_len, g_abs, g_max, g_int⟩
  have c_RoundError : XC K mg (veT) "RoundError" xRoundError := ⟨⟨_, _, _, _, _, _, _, _, _, _, _, _, _, lKRoundError⟩, PySem.W.mg_of X G aKRoundError, kpRoundError, gaRoundError, ggRoundError, haRoundError⟩
  have c_NoNumber : XC K mg (.ref xRoundError :: veT) "NoNumber" xNoNumber := ⟨⟨_, _, _, _, _, _, _, _, _, _, _, _, _, lKNoNumber⟩, PySem.W.mg_of X G aKNoNumber, kpNoNumber, gaNoNumber, ggNoNumber, haNoNumber⟩
  have c_NoBase : XC K mg (.ref xRoundError :: veT) "NoBase" xNoBase := ⟨⟨_, _, _, _, _, _, _, _, _, _, _, _, _, lKNoBase⟩, PySem.W.mg_of X G aKNoBase, kpNoBase, gaNoBase, ggNoBase, haNoBase⟩
  have c_NoDivisor : XC K mg (.ref xRoundError :: veT) "NoDivisor" xNoDivisor := ⟨⟨_, _, _, _, _, _, _, _, _, _, _, _, _, lKNoDivisor⟩, PySem.W.mg_of X G aKNoDivisor, kpNoDivisor, gaNoDivisor, ggNoDivisor, haNoDivisor⟩
  have c_NoRest : XC K mg (.ref xRoundError :: veT) "NoRest" xNoRest := ⟨⟨_, _, _, _, _, _, _, _, _, _, _, _, _, lKNoRest⟩, PySem.W.mg_of X G aKNoRest, kpNoRest, gaNoRest, ggNoRest, haNoRest⟩
  have c_NoFigure : XC K mg (.ref xRoundError :: veT) "NoFigure" xNoFigure := ⟨⟨_, _, _, _, _, _, _, _, _, _, _, _, _, lKNoFigure⟩, PySem.W.mg_of X G aKNoFigure, kpNoFigure, gaNoFigure, ggNoFigure, haNoFigure⟩
  have c_NoMatch : XC K mg (.ref xRoundError :: veT) "NoMatch" xNoMatch := ⟨⟨_, _, _, _, _, _, _, _, _, _, _, _, _, lKNoMatch⟩, PySem.W.mg_of X G aKNoMatch, kpNoMatch, gaNoMatch, ggNoMatch, haNoMatch⟩
  have c_TooWide : XC K mg (.ref xRoundError :: veT) "TooWide" xTooWide := ⟨⟨_, _, _, _, _, _, _, _, _, _, _, _, _, lKTooWide⟩, PySem.W.mg_of X G aKTooWide, kpTooWide, gaTooWide, ggTooWide, haTooWide⟩
  have c_NoPlace : XC K mg (.ref xRoundError :: veT) "NoPlace" xNoPlace := ⟨⟨_, _, _, _, _, _, _, _, _, _, _, _, _, lKNoPlace⟩, PySem.W.mg_of X G aKNoPlace, kpNoPlace, gaNoPlace, ggNoPlace, haNoPlace⟩
  have c_NoPeople : XC K mg (.ref xRoundError :: veT) "NoPeople" xNoPeople := ⟨⟨_, _, _, _, _, _, _, _, _, _, _, _, _, lKNoPeople⟩, PySem.W.mg_of X G aKNoPeople, kpNoPeople, gaNoPeople, ggNoPeople, haNoPeople⟩
  have c_NoPerson : XC K mg (.ref xRoundError :: veT) "NoPerson" xNoPerson := ⟨⟨_, _, _, _, _, _, _, _, _, _, _, _, _, lKNoPerson⟩, PySem.W.mg_of X G aKNoPerson, kpNoPerson, gaNoPerson, ggNoPerson, haNoPerson⟩
  have c_NoLater : XC K mg (.ref xRoundError :: veT) "NoLater" xNoLater := ⟨⟨_, _, _, _, _, _, _, _, _, _, _, _, _, lKNoLater⟩, PySem.W.mg_of X G aKNoLater, kpNoLater, gaNoLater, ggNoLater, haNoLater⟩
  have c_NoCounts : XC K mg (.ref xRoundError :: veT) "NoCounts" xNoCounts := ⟨⟨_, _, _, _, _, _, _, _, _, _, _, _, _, lKNoCounts⟩, PySem.W.mg_of X G aKNoCounts, kpNoCounts, gaNoCounts, ggNoCounts, haNoCounts⟩
  have c_NoLevels : XC K mg (.ref xRoundError :: veT) "NoLevels" xNoLevels := ⟨⟨_, _, _, _, _, _, _, _, _, _, _, _, _, lKNoLevels⟩, PySem.W.mg_of X G aKNoLevels, kpNoLevels, gaNoLevels, ggNoLevels, haNoLevels⟩
  have c_TooShort : XC K mg (.ref xRoundError :: veT) "TooShort" xTooShort := ⟨⟨_, _, _, _, _, _, _, _, _, _, _, _, _, lKTooShort⟩, PySem.W.mg_of X G aKTooShort, kpTooShort, gaTooShort, ggTooShort, haTooShort⟩
  have c_NoState : XC K mg (.ref xRoundError :: veT) "NoState" xNoState := ⟨⟨_, _, _, _, _, _, _, _, _, _, _, _, _, lKNoState⟩, PySem.W.mg_of X G aKNoState, kpNoState, gaNoState, ggNoState, haNoState⟩
  have c_NoLevel : XC K mg (.ref xRoundError :: veT) "NoLevel" xNoLevel := ⟨⟨_, _, _, _, _, _, _, _, _, _, _, _, _, lKNoLevel⟩, PySem.W.mg_of X G aKNoLevel, kpNoLevel, gaNoLevel, ggNoLevel, haNoLevel⟩
  have c_NoCount : XC K mg (.ref xRoundError :: veT) "NoCount" xNoCount := ⟨⟨_, _, _, _, _, _, _, _, _, _, _, _, _, lKNoCount⟩, PySem.W.mg_of X G aKNoCount, kpNoCount, gaNoCount, ggNoCount, haNoCount⟩
  have c_NoOrder : XC K mg (.ref xRoundError :: veT) "NoOrder" xNoOrder := ⟨⟨_, _, _, _, _, _, _, _, _, _, _, _, _, lKNoOrder⟩, PySem.W.mg_of X G aKNoOrder, kpNoOrder, gaNoOrder, ggNoOrder, haNoOrder⟩
  have c_NothingToUndo : XC K mg (.ref xRoundError :: veT) "NothingToUndo" xNothingToUndo := ⟨⟨_, _, _, _, _, _, _, _, _, _, _, _, _, lKNothingToUndo⟩, PySem.W.mg_of X G aKNothingToUndo, kpNothingToUndo, gaNothingToUndo, ggNothingToUndo, haNothingToUndo⟩
  have c_NoName : XC K mg (.ref xRoundError :: veT) "NoName" xNoName := ⟨⟨_, _, _, _, _, _, _, _, _, _, _, _, _, lKNoName⟩, PySem.W.mg_of X G aKNoName, kpNoName, gaNoName, ggNoName, haNoName⟩
  have c_NoRoom : XC K mg (.ref xRoundError :: veT) "NoRoom" xNoRoom := ⟨⟨_, _, _, _, _, _, _, _, _, _, _, _, _, lKNoRoom⟩, PySem.W.mg_of X G aKNoRoom, kpNoRoom, gaNoRoom, ggNoRoom, haNoRoom⟩
  have c_NoRow : XC K mg (.ref xRoundError :: veT) "NoRow" xNoRow := ⟨⟨_, _, _, _, _, _, _, _, _, _, _, _, _, lKNoRow⟩, PySem.W.mg_of X G aKNoRow, kpNoRow, gaNoRow, ggNoRow, haNoRow⟩
  have c_NoLook : XC K mg (.ref xRoundError :: veT) "NoLook" xNoLook := ⟨⟨_, _, _, _, _, _, _, _, _, _, _, _, _, lKNoLook⟩, PySem.W.mg_of X G aKNoLook, kpNoLook, gaNoLook, ggNoLook, haNoLook⟩
  have c_NoText : XC K mg (.ref xRoundError :: veT) "NoText" xNoText := ⟨⟨_, _, _, _, _, _, _, _, _, _, _, _, _, lKNoText⟩, PySem.W.mg_of X G aKNoText, kpNoText, gaNoText, ggNoText, haNoText⟩
  have i_NoRow : XI l.prog w K mg base (.ref xRoundError :: veT) "NoRow" "index" xNoRow f8 _ := ⟨c_NoRow, by show PySem.HandSPX.refsVE veT = true; decide +kernel, saNoRow, noNoRow, a8, beq_iff_eq.mp i8, ok_NoRow_init F8, b8, F8.kbn1 fun _ _ _ _ _ _ u ws hl => match ws, hl with | [_], _ => rfl⟩
  have i_NoLook : XI l.prog w K mg base (.ref xRoundError :: veT) "NoLook" "index" xNoLook f9 _ := ⟨c_NoLook, by show PySem.HandSPX.refsVE veT = true; decide +kernel, saNoLook, noNoLook, a9, beq_iff_eq.mp i9, ok_NoLook_init F9, b9, F9.kbn1 fun _ _ _ _ _ _ u ws hl => match ws, hl with | [_], _ => rfl⟩
  have i_NoText : XI l.prog w K mg base (.ref xRoundError :: veT) "NoText" "row" xNoText f10 _ := ⟨c_NoText, by show PySem.HandSPX.refsVE veT = true; decide +kernel, saNoText, noNoText, a10, beq_iff_eq.mp i10, ok_NoText_init F10, b10, F10.kbn1 fun _ _ _ _ _ _ u ws hl => match ws, hl with | [_], _ => rfl⟩
  have xl : Paired (XC K mg (.ref xRoundError :: veT)) NM [xNoNumber, xNoBase, xNoDivisor, xNoRest, xNoFigure, xNoMatch, xTooWide, xNoPlace, xNoPeople, xNoPerson, xNoLater, xNoCounts, xNoLevels, xTooShort, xNoState, xNoLevel, xNoCount, xNoOrder, xNothingToUndo, xNoName, xNoRoom, xNoRow, xNoLook, xNoText] := .cons c_NoNumber ( .cons c_NoBase ( .cons c_NoDivisor ( .cons c_NoRest ( .cons c_NoFigure ( .cons c_NoMatch ( .cons c_TooWide ( .cons c_NoPlace ( .cons c_NoPeople ( .cons c_NoPerson ( .cons c_NoLater ( .cons c_NoCounts ( .cons c_NoLevels ( .cons c_TooShort ( .cons c_NoState ( .cons c_NoLevel ( .cons c_NoCount ( .cons c_NoOrder ( .cons c_NothingToUndo ( .cons c_NoName ( .cons c_NoRoom ( .cons c_NoRow ( .cons c_NoLook ( .cons c_NoText (.nil))))))))))))))))))))))))
  have D__law_bag : Df l.prog w K mg base CX0 1 "_law_bag" ["script", "k"] (spBag K) := ⟨_, _, ok_bag F0 TD, PySem.W.mg_of X G a0, k0, b0⟩
  have D__law_draw : Df l.prog w K mg base CX0 1 "_law_draw" ["bag", "many"] spDraw := ⟨_, _, ok_draw F1 TD, PySem.W.mg_of X G a1, k1, b1⟩
  have A__law_draw : Df l.prog w K mg base CX0 1 "_law_draw" ["bag", "many"] (cB (GB K) (pDraw K)) := let ⟨_, _, F, g, k, b⟩ := D__law_draw; ⟨_, _, F.imp draw_imp, g, k, b⟩
  have A__law_made : Df l.prog w K mg base CX0 3 "_law_made" ["k", "line", "value"] (cP (GB K) (pMade K [xNoNumber, xNoBase, xNoDivisor, xNoRest, xNoFigure, xNoMatch, xTooWide, xNoPlace, xNoPeople, xNoPerson, xNoLater, xNoCounts, xNoLevels, xTooShort, xNoState, xNoLevel, xNoCount, xNoOrder, xNothingToUndo, xNoName, xNoRoom, xNoRow, xNoLook, xNoText])) := ⟨_, _, ok_law_made F2 c_NoNumber qeNoNumber c_NoBase qeNoBase c_NoDivisor qeNoDivisor c_NoRest qeNoRest c_NoFigure qeNoFigure c_NoMatch qeNoMatch c_TooWide qeTooWide c_NoPlace qeNoPlace c_NoPeople qeNoPeople c_NoPerson qeNoPerson c_NoLater qeNoLater c_NoCounts qeNoCounts c_NoLevels qeNoLevels c_TooShort qeTooShort c_NoState qeNoState c_NoLevel qeNoLevel c_NoCount qeNoCount c_NoOrder qeNoOrder c_NothingToUndo qeNothingToUndo c_NoName qeNoName c_NoRoom qeNoRoom i_NoRow i_NoLook i_NoText, PySem.W.mg_of X G a2, k2, b2⟩
  have A__law_which : Df l.prog w K mg base CX0 1 "_law_which" ["e"] (cP (GB K) (pWhich K [xNoNumber, xNoBase, xNoDivisor, xNoRest, xNoFigure, xNoMatch, xTooWide, xNoPlace, xNoPeople, xNoPerson, xNoLater, xNoCounts, xNoLevels, xTooShort, xNoState, xNoLevel, xNoCount, xNoOrder, xNothingToUndo, xNoName, xNoRoom, xNoRow, xNoLook, xNoText])) := ⟨_, _, ok_law_which F3 hn htk c_NoNumber c_NoBase c_NoDivisor c_NoRest c_NoFigure c_NoMatch c_TooWide c_NoPlace c_NoPeople c_NoPerson c_NoLater c_NoCounts c_NoLevels c_TooShort c_NoState c_NoLevel c_NoCount c_NoOrder c_NothingToUndo c_NoName c_NoRoom c_NoRow c_NoLook c_NoText g_isinstance, PySem.W.mg_of X G a3, k3, b3⟩
  have A__law_value : Df l.prog w K mg base CX0 2 "_law_value" ["bag"] (cB (GB K) (pValue K)) := ⟨_, _, ok_law_value F4 A__law_draw g_str, PySem.W.mg_of X G a4, k4, b4⟩
  have A__law_words : Df l.prog w K mg base CX0 2 "_law_words" ["bag"] (cB (GB K) (pWords K)) := ⟨_, _, ok_law_words F5 A__law_draw g_len g_range, PySem.W.mg_of X G a5, k5, b5⟩
  have A__law_right : DfG l.prog w K mg base 4 "_law_right" ["line", "value"] (cP (GB K) (pRight K)) := ⟨_, _, ok_law_right F6 hn htk xl c_RoundError qeRoundError (fun a h => by cases h; exact noNoText) (fun i a h1 h2 => by rcases h1 with rfl | rfl <;> cases h2; exact noNoRow; exact noNoLook) A__law_made A__law_which g_isinstance g_ValueError g_range g_repr, PySem.W.mg_of X G a6, k6, b6⟩
  exact ok_law00 F7 D__law_bag A__law_words A__law_value A__law_right g_range g_max g_min g_len
theorem walk {l : PySem.W.OpenLaw} {q : Program} {loose : List Str} {XP : (Str → Option Value) → Heap → Prop} {YP : World → Heap → Prop} {d : DefRec} {K : Params → PySem.W.Frag} (hn : l.most = some 63) (hdf : d.params.defaults = [])
    (hY : ∀ (w : World) (h : Heap), YP w h → (K w.params).In h)
    (F : ∀ (w : World) (mg : Str → Option Value) (fa : Addr) (h : Heap), (K w.params).In h → h.Ns mainGlobals mg → mg d.name = some (.ref fa) →
      ∃ fd : FuncData, (∀ (s : Shared) (u : Value), BindsTo s fd ⟨[u], []⟩ [("script", u)]) ∧ ∀ base : Heap, (K w.params).In base → base.Ns mainGlobals mg → FnG l.prog w (K w.params) mg base CX0 5 fa fd ["script"] (spLaw (K w.params))) :
    PySem.W.WalkO q loose XP YP l.row.toRowW d [] (fun f vs => PySem.call f vs) :=
  L2.walk_G (n := 63) (k := 5) (x := "script") (sp := fun w => spLaw (K w.params)) hn (by decide) hdf ⟨rfl, by decide, by decide⟩ hY F (fun _ _ a ns hl hb _ hS => ⟨a, ns, rfl, hS, hl, hb, fun _ => rfl⟩)
end B

open PySem PySem.W PyProof.Rows
set_option maxRecDepth 100000 in
set_option maxHeartbeats 0 in
open_top head for PySem.Challenge.rw_buzzround_k00_errors

open PySem PySem.W PyProof.Rows
set_option maxRecDepth 100000 in
set_option maxHeartbeats 0 in
theorem PySem.Challenge.cw_buzzround_k00_errors_holds : PySem.Challenge.rw_buzzround_k00_errors.Holds :=
  head (by
  k_fill
  refine B.walk (l := PySem.Challenge.rw_buzzround_k00_errors) rfl rfl (fun w h Y => PySem.W.kIn_of Y) ?F
  case F =>
    intro w mg fa h KX G hmg
    refine' B.all_mk KX G hmg ?aKRoundError ?aKNoNumber ?aKNoBase ?aKNoDivisor ?aKNoRest ?aKNoFigure ?aKNoMatch ?aKTooWide ?aKNoPlace ?aKNoPeople ?aKNoPerson ?aKNoLater ?aKNoCounts ?aKNoLevels ?aKTooShort ?aKNoState ?aKNoLevel ?aKNoCount ?aKNoOrder ?aKNothingToUndo ?aKNoName ?aKNoRoom ?aKNoRow ?aKNoLook ?aKNoText ?a0 ?l0 ?c0 ?k0 ?a1 ?l1 ?c1 ?k1 ?a2 ?l2 ?c2 ?k2 ?a3 ?l3 ?c3 ?k3 ?a4 ?l4 ?c4 ?k4 ?a5 ?l5 ?c5 ?k5 ?a6 ?l6 ?c6 ?k6 ?a7 ?l7 ?c7 ?k7 ?a8 ?i8 ?l8 ?c8 ?k8 ?a9 ?i9 ?l9 ?c9 ?k9 ?a10 ?i10 ?l10 ?c10 ?k10 ?z_len ?z_range ?z_int ?z_abs ?z_max ?z_min ?z_isinstance ?z_repr ?z_str ?z_ValueError ?hn ?htk ?lKRoundError ?kpRoundError ?gaRoundError ?ggRoundError ?haRoundError ?qeRoundError ?lKNoNumber ?kpNoNumber ?gaNoNumber ?ggNoNumber ?haNoNumber ?qeNoNumber ?lKNoBase ?kpNoBase ?gaNoBase ?ggNoBase ?haNoBase ?qeNoBase ?lKNoDivisor ?kpNoDivisor ?gaNoDivisor ?ggNoDivisor ?haNoDivisor ?qeNoDivisor ?lKNoRest ?kpNoRest ?gaNoRest ?ggNoRest ?haNoRest ?qeNoRest ?lKNoFigure ?kpNoFigure ?gaNoFigure ?ggNoFigure ?haNoFigure ?qeNoFigure ?lKNoMatch ?kpNoMatch ?gaNoMatch ?ggNoMatch ?haNoMatch ?qeNoMatch ?lKTooWide ?kpTooWide ?gaTooWide ?ggTooWide ?haTooWide ?qeTooWide ?lKNoPlace ?kpNoPlace ?gaNoPlace ?ggNoPlace ?haNoPlace ?qeNoPlace ?lKNoPeople ?kpNoPeople ?gaNoPeople ?ggNoPeople ?haNoPeople ?qeNoPeople ?lKNoPerson ?kpNoPerson ?gaNoPerson ?ggNoPerson ?haNoPerson ?qeNoPerson ?lKNoLater ?kpNoLater ?gaNoLater ?ggNoLater ?haNoLater ?qeNoLater ?lKNoCounts ?kpNoCounts ?gaNoCounts ?ggNoCounts ?haNoCounts ?qeNoCounts ?lKNoLevels ?kpNoLevels ?gaNoLevels ?ggNoLevels ?haNoLevels ?qeNoLevels ?lKTooShort ?kpTooShort ?gaTooShort ?ggTooShort ?haTooShort ?qeTooShort ?lKNoState ?kpNoState ?gaNoState ?ggNoState ?haNoState ?qeNoState ?lKNoLevel ?kpNoLevel ?gaNoLevel ?ggNoLevel ?haNoLevel ?qeNoLevel ?lKNoCount ?kpNoCount ?gaNoCount ?ggNoCount ?haNoCount ?qeNoCount ?lKNoOrder ?kpNoOrder ?gaNoOrder ?ggNoOrder ?haNoOrder ?qeNoOrder ?lKNothingToUndo ?kpNothingToUndo ?gaNothingToUndo ?ggNothingToUndo ?haNothingToUndo ?qeNothingToUndo ?lKNoName ?kpNoName ?gaNoName ?ggNoName ?haNoName ?qeNoName ?lKNoRoom ?kpNoRoom ?gaNoRoom ?ggNoRoom ?haNoRoom ?qeNoRoom ?lKNoRow ?kpNoRow ?gaNoRow ?ggNoRow ?haNoRow ?saNoRow ?noNoRow ?lKNoLook ?kpNoLook ?gaNoLook ?ggNoLook ?haNoLook ?saNoLook ?noNoLook ?lKNoText ?kpNoText ?gaNoText ?ggNoText ?haNoText ?saNoText ?noNoText
    (case aKRoundError => k_is)
    (case aKNoNumber => k_is)
    (case aKNoBase => k_is)
    (case aKNoDivisor => k_is)
    (case aKNoRest => k_is)
    (case aKNoFigure => k_is)
    (case aKNoMatch => k_is)
    (case aKTooWide => k_is)
    (case aKNoPlace => k_is)
    (case aKNoPeople => k_is)
    (case aKNoPerson => k_is)
    (case aKNoLater => k_is)
    (case aKNoCounts => k_is)
    (case aKNoLevels => k_is)
    (case aKTooShort => k_is)
    (case aKNoState => k_is)
    (case aKNoLevel => k_is)
    (case aKNoCount => k_is)
    (case aKNoOrder => k_is)
    (case aKNothingToUndo => k_is)
    (case aKNoName => k_is)
    (case aKNoRoom => k_is)
    (case aKNoRow => k_is)
    (case aKNoLook => k_is)
    (case aKNoText => k_is)
    (case a0 => k_is)
    (case l0 => k_is)
    (case c0 => k_is)
    (case k0 => k_is)
    (case a1 => k_is)
    (case l1 => k_is)
    (case c1 => k_is)
    (case k1 => k_is)
    (case a2 => k_is)
    (case l2 => k_is)
    (case c2 => k_is)
    (case k2 => k_is)
    (case a3 => k_is)
    (case l3 => k_is)
    (case c3 => k_is)
    (case k3 => k_is)
    (case a4 => k_is)
    (case l4 => k_is)
    (case c4 => k_is)
    (case k4 => k_is)
    (case a5 => k_is)
    (case l5 => k_is)
    (case c5 => k_is)
    (case k5 => k_is)
    (case a6 => k_is)
    (case l6 => k_is)
    (case c6 => k_is)
    (case k6 => k_is)
    (case a7 => k_is)
    (case l7 => k_is)
    (case c7 => k_is)
    (case k7 => k_is)
    (case a8 => k_is)
    (case i8 => k_is)
    (case l8 => k_is)
    (case c8 => k_is)
    (case k8 => k_is)
    (case a9 => k_is)
    (case i9 => k_is)
    (case l9 => k_is)
    (case c9 => k_is)
    (case k9 => k_is)
    (case a10 => k_is)
    (case i10 => k_is)
    (case l10 => k_is)
    (case c10 => k_is)
    (case k10 => k_is)
    (case z_len => k_is)
    (case z_range => k_is)
    (case z_int => k_is)
    (case z_abs => k_is)
    (case z_max => k_is)
    (case z_min => k_is)
    (case z_isinstance => k_is)
    (case z_repr => k_is)
    (case z_str => k_is)
    (case z_ValueError => k_is)
    (case hn => k_is)
    (case htk => k_is)
    (case lKRoundError => k_is)
    (case kpRoundError => k_is)
    (case gaRoundError => k_is)
    (case ggRoundError => k_is)
    (case haRoundError => k_is)
    (case qeRoundError => k_exc)
    (case lKNoNumber => k_is)
    (case kpNoNumber => k_is)
    (case gaNoNumber => k_is)
    (case ggNoNumber => k_is)
    (case haNoNumber => k_is)
    (case qeNoNumber => k_exc)
    (case lKNoBase => k_is)
    (case kpNoBase => k_is)
    (case gaNoBase => k_is)
    (case ggNoBase => k_is)
    (case haNoBase => k_is)
    (case qeNoBase => k_exc)
    (case lKNoDivisor => k_is)
    (case kpNoDivisor => k_is)
    (case gaNoDivisor => k_is)
    (case ggNoDivisor => k_is)
    (case haNoDivisor => k_is)
    (case qeNoDivisor => k_exc)
    (case lKNoRest => k_is)
    (case kpNoRest => k_is)
    (case gaNoRest => k_is)
    (case ggNoRest => k_is)
    (case haNoRest => k_is)
    (case qeNoRest => k_exc)
    (case lKNoFigure => k_is)
    (case kpNoFigure => k_is)
    (case gaNoFigure => k_is)
    (case ggNoFigure => k_is)
    (case haNoFigure => k_is)
    (case qeNoFigure => k_exc)
    (case lKNoMatch => k_is)
    (case kpNoMatch => k_is)
    (case gaNoMatch => k_is)
    (case ggNoMatch => k_is)
    (case haNoMatch => k_is)
    (case qeNoMatch => k_exc)
    (case lKTooWide => k_is)
    (case kpTooWide => k_is)
    (case gaTooWide => k_is)
    (case ggTooWide => k_is)
    (case haTooWide => k_is)
    (case qeTooWide => k_exc)
    (case lKNoPlace => k_is)
    (case kpNoPlace => k_is)
    (case gaNoPlace => k_is)
    (case ggNoPlace => k_is)
    (case haNoPlace => k_is)
    (case qeNoPlace => k_exc)
    (case lKNoPeople => k_is)
    (case kpNoPeople => k_is)
    (case gaNoPeople => k_is)
    (case ggNoPeople => k_is)
    (case haNoPeople => k_is)
    (case qeNoPeople => k_exc)
    (case lKNoPerson => k_is)
    (case kpNoPerson => k_is)
    (case gaNoPerson => k_is)
    (case ggNoPerson => k_is)
    (case haNoPerson => k_is)
    (case qeNoPerson => k_exc)
    (case lKNoLater => k_is)
    (case kpNoLater => k_is)
    (case gaNoLater => k_is)
    (case ggNoLater => k_is)
    (case haNoLater => k_is)
    (case qeNoLater => k_exc)
    (case lKNoCounts => k_is)
    (case kpNoCounts => k_is)
    (case gaNoCounts => k_is)
    (case ggNoCounts => k_is)
    (case haNoCounts => k_is)
    (case qeNoCounts => k_exc)
    (case lKNoLevels => k_is)
    (case kpNoLevels => k_is)
    (case gaNoLevels => k_is)
    (case ggNoLevels => k_is)
    (case haNoLevels => k_is)
    (case qeNoLevels => k_exc)
    (case lKTooShort => k_is)
    (case kpTooShort => k_is)
    (case gaTooShort => k_is)
    (case ggTooShort => k_is)
    (case haTooShort => k_is)
    (case qeTooShort => k_exc)
    (case lKNoState => k_is)
    (case kpNoState => k_is)
    (case gaNoState => k_is)
    (case ggNoState => k_is)
    (case haNoState => k_is)
    (case qeNoState => k_exc)
    (case lKNoLevel => k_is)
    (case kpNoLevel => k_is)
    (case gaNoLevel => k_is)
    (case ggNoLevel => k_is)
    (case haNoLevel => k_is)
    (case qeNoLevel => k_exc)
    (case lKNoCount => k_is)
    (case kpNoCount => k_is)
    (case gaNoCount => k_is)
    (case ggNoCount => k_is)
    (case haNoCount => k_is)
    (case qeNoCount => k_exc)
    (case lKNoOrder => k_is)
    (case kpNoOrder => k_is)
    (case gaNoOrder => k_is)
    (case ggNoOrder => k_is)
    (case haNoOrder => k_is)
    (case qeNoOrder => k_exc)
    (case lKNothingToUndo => k_is)
    (case kpNothingToUndo => k_is)
    (case gaNothingToUndo => k_is)
    (case ggNothingToUndo => k_is)
    (case haNothingToUndo => k_is)
    (case qeNothingToUndo => k_exc)
    (case lKNoName => k_is)
    (case kpNoName => k_is)
    (case gaNoName => k_is)
    (case ggNoName => k_is)
    (case haNoName => k_is)
    (case qeNoName => k_exc)
    (case lKNoRoom => k_is)
    (case kpNoRoom => k_is)
    (case gaNoRoom => k_is)
    (case ggNoRoom => k_is)
    (case haNoRoom => k_is)
    (case qeNoRoom => k_exc)
    (case lKNoRow => k_is)
    (case kpNoRow => k_is)
    (case gaNoRow => k_is)
    (case ggNoRow => k_is)
    (case haNoRow => k_is)
    (case saNoRow => k_is)
    (case noNoRow => k_is)
    (case lKNoLook => k_is)
    (case kpNoLook => k_is)
    (case gaNoLook => k_is)
    (case ggNoLook => k_is)
    (case haNoLook => k_is)
    (case saNoLook => k_is)
    (case noNoLook => k_is)
    (case lKNoText => k_is)
    (case kpNoText => k_is)
    (case gaNoText => k_is)
    (case ggNoText => k_is)
    (case haNoText => k_is)
    (case saNoText => k_is)
    (case noNoText => k_is))

#print axioms PySem.Challenge.cw_buzzround_k00_errors_holds
