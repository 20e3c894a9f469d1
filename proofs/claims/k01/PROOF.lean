import PyProof.Rows.All
import Wide.All
import OpenK.AllK
import Wide.FinOn
import HandS.ForMost
import HandS.ForExc
import HandS.Gcd
import HandS.Wide
import HandS.IsInst
import HandS.TryMany
import HandS.Flow
import HandS.Defaults
import HandS.Lambda
import KE.KRevIter
import KE.KDictList
import Flt.RightSqrt
import HandS.Style
import HandS.Deep
import HandS.More
import HandS.AnyAll
import HandS.DictComp
import HandS.Keys
import KE.KDictCopyH
import KE.SortKeyHeap
import KE.KLam
import HandS.Codes
import HandS.StrMore
import HandS.WideBits
import HandS.TupLe
import HandS.EndOwn
import KE.KNestM
import PySem.Challenge.RW_mitrehouse_k01_texts_of_ratios
set_option Elab.async false
set_option linter.all false
set_option maxRecDepth 100000
set_option maxHeartbeats 1000000
set_option maxHeartbeats 2000000
/-! Abstract stores over the hand layer: slots hold data (PyData) or lists of one's own that may still change. -/
namespace M3
open PySem PySem.Spec PyProof.Rows L2

/-! ### data -/
def kD : Key → PyData
  | .inl i => .int i
  | .inr s => .str s
mutual
inductive Dd (K : PySem.W.Frag) (H : Hp) : V → PyData → Prop
  | non : Dd K H .non .none
  | bl (b : Bool) : Dd K H (.bl b) (.bool b)
  | int (i : Int) : Dd K H (.int i) (.int i)
  | str (x : Str) : Dd K H (.str x) (.str x)
  | lst {a : Addr} {xs : List V} {ds : List PyData} (h : SqL K H a xs) (r : Da K H xs ds) : Dd K H (.ref a) (.list ds)
  | tup {a : Addr} {xs : List V} {ds : List PyData} (h : SqT K H a xs) (r : Da K H xs ds) : Dd K H (.ref a) (.tuple ds)
  | dK {a : Addr} {xs : List (Key × V)} {ds : List (PyData × PyData)} (h : H a = some (.dK xs)) (r : Dk K H xs ds) : Dd K H (.ref a) (.dict ds)
  | dT {a : Addr} {xs : List (List Key × V)} {ds : List (PyData × PyData)} (h : H a = some (.dT xs)) (r : Dt K H xs ds) : Dd K H (.ref a) (.dict ds)
inductive Da (K : PySem.W.Frag) (H : Hp) : List V → List PyData → Prop
  | nil : Da K H [] []
  | cons {v : V} {vs : List V} {d : PyData} {ds : List PyData} (h : Dd K H v d) (r : Da K H vs ds) : Da K H (v :: vs) (d :: ds)
inductive Dk (K : PySem.W.Frag) (H : Hp) : List (Key × V) → List (PyData × PyData) → Prop
  | nil : Dk K H [] []
  | cons {k : Key} {v : V} {vs : List (Key × V)} {d : PyData} {ds : List (PyData × PyData)} (h : Dd K H v d) (r : Dk K H vs ds) : Dk K H ((k, v) :: vs) ((kD k, d) :: ds)
inductive Dt (K : PySem.W.Frag) (H : Hp) : List (List Key × V) → List (PyData × PyData) → Prop
  | nil : Dt K H [] []
  | cons {k : List Key} {v : V} {vs : List (List Key × V)} {d : PyData} {ds : List (PyData × PyData)} (h : Dd K H v d) (r : Dt K H vs ds) : Dt K H ((k, v) :: vs) ((.tuple (k.map kD), d) :: ds)
end

/-! ### what is kept: all, but tables of code objects may grow -/
/-- the tables that are asked for (tb), those that tell of lambdas alone, with the name that these bear (lm) -/
class NmC where
  lm : Addr → Str → Prop
  tb : Addr → Prop
variable [NmC]
def IsTb (o : HO) : Prop := ∃ ps : Array Value, o = .tbl ps ∧ TriplesOk ps.toList
/-- what a table tells bears the name q -/
def Tells (H : Hp) (ps : Array Value) (q : Str) : Prop := ∀ (pos : Pos) (cv : Value), codeAmong pos ps.toList = some cv → ∃ c, cv = .ref c ∧ H c = some (LamX.CodeO c q)
def Tb (H : Hp) (P : Addr) : Prop := ∃ ps : Array Value, H P = some (.tbl ps) ∧ TriplesOk ps.toList ∧ ∀ q, NmC.lm P q → Tells H ps q
def Same (H H' : Hp) : Prop := ∀ b o, H b = some o → H' b = some o ∨ (IsTb o ∧ Tb H' b)
theorem nt_co {c : Addr} {q : Str} : ¬ IsTb (LamX.CodeO c q) := fun ⟨ps, e, _⟩ => LamX.codeO_ne ps e
theorem Tb.is {H : Hp} {P : Addr} (t : Tb H P) : ∃ o, H P = some o ∧ IsTb o := by
  obtain ⟨ps, h, t, _⟩ := t
  exact ⟨_, h, ps, rfl, t⟩
section
variable {H H' H1 H2 : Hp} {b a : Addr} {o : HO}
theorem Same.of (e : ∀ b o, H b = some o → H' b = some o) : Same H H' := fun b o h => .inl (e b o h)
theorem Same.refl (H : Hp) : Same H H := .of fun _ _ h => h
theorem Same.at (e : Same H H') (h : H b = some o) (n : ¬ IsTb o) : H' b = some o := (e b o h).elim (fun z => z) fun z => absurd z.1 n
theorem Tells.same {ps : Array Value} {q : Str} (t : Tells H ps q) (e : Same H H') : Tells H' ps q := fun pos cv h => by
  obtain ⟨c, e1, e2⟩ := t pos cv h
  exact ⟨c, e1, e.at e2 nt_co⟩
theorem Same.tb (e : Same H H') (h : Tb H b) : Tb H' b := by
  obtain ⟨ps, h, t, k⟩ := h
  exact (e b _ h).elim (fun z => ⟨ps, z, t, fun q hq => (k q hq).same e⟩) fun z => z.2
theorem Same.trans (e : Same H H1) (f : Same H1 H2) : Same H H2 := fun b o h => by
  rcases e b o h with z | ⟨t, z⟩
  · exact f b o z
  · exact .inr ⟨t, f.tb z⟩
theorem nt_lst {xs : List V} : ¬ IsTb (.lst xs) := fun ⟨_, e, _⟩ => nomatch e
theorem nt_tup {xs : List V} : ¬ IsTb (.tup xs) := fun ⟨_, e, _⟩ => nomatch e
theorem nt_dK {xs : List (Key × V)} : ¬ IsTb (.dK xs) := fun ⟨_, e, _⟩ => nomatch e
theorem nt_dT {xs : List (List Key × V)} : ¬ IsTb (.dT xs) := fun ⟨_, e, _⟩ => nomatch e
theorem nt_frz {ob : Obj} {u : HO} : ¬ IsTb (.frz ob u) := fun ⟨_, e, _⟩ => nomatch e
theorem Same.seq {K : PySem.W.Frag} {xs : List V} (e : Same H H') (h : SqL K H a xs) : SqL K H' a xs := by
  rcases h with (h | ⟨o, h⟩) | h
  · exact .inl (.inl (e.at h nt_lst))
  · exact .inl (.inr ⟨o, e.at h nt_frz⟩)
  · exact .inr h
theorem Same.tup {K : PySem.W.Frag} {xs : List V} (e : Same H H') (h : SqT K H a xs) : SqT K H' a xs := by
  rcases h with (h | ⟨o, h⟩) | h
  · exact .inl (.inl (e.at h nt_tup))
  · exact .inl (.inr ⟨o, e.at h nt_frz⟩)
  · exact .inr h
end
def TK (K : PySem.W.Frag) (P : Addr) : Prop := NmC.tb P
/-- they are there, and hidden objects are lists -/
structure TabI (K : PySem.W.Frag) (m : Addr → Prop) (H : Hp) : Prop where
  ls : ∀ a o, m a → H a = some o → ∃ xs, o = .lst xs
  has : ∀ P, TK K P → Tb H P
theorem TabI.no {K : PySem.W.Frag} {m : Addr → Prop} {H : Hp} (t : TabI K m H) (a : Addr) (o : HO) (h : m a) (e : H a = some o) : ¬ IsTb o := by
  obtain ⟨xs, rfl⟩ := t.ls a o h e
  exact nt_lst
theorem TabI.same {K : PySem.W.Frag} {m : Addr → Prop} {H H' : Hp} (t : TabI K m H) (got : ∀ a, m a → H a ≠ none) (e : Same H H') : TabI K m H' :=
  ⟨fun a o h h' => by
    cases q : H a with
    | none => exact absurd q (got a h)
    | some u =>
      obtain ⟨xs, rfl⟩ := t.ls a u h q
      have z := e.at q nt_lst
      rw [h'] at z
      exact ⟨xs, Option.some.inj z⟩, fun P h => e.tb (t.has P h)⟩

section
variable {K : PySem.W.Frag} {H H' : Hp}
mutual
theorem Dd.mono (e : Same H H') : ∀ {v : V} {d : PyData}, Dd K H v d → Dd K H' v d
  | _, _, .non => .non
  | _, _, .bl b => .bl b
  | _, _, .int i => .int i
  | _, _, .str x => .str x
  | _, _, .lst h r => .lst (Same.seq e h) (Da.mono e r)
  | _, _, .tup h r => .tup (Same.tup e h) (Da.mono e r)
  | _, _, .dK h r => .dK (e.at h nt_dK) (Dk.mono e r)
  | _, _, .dT h r => .dT (e.at h nt_dT) (Dt.mono e r)
theorem Da.mono (e : Same H H') : ∀ {v : List V} {d : List PyData}, Da K H v d → Da K H' v d
  | _, _, .nil => .nil
  | _, _, .cons h r => .cons (Dd.mono e h) (Da.mono e r)
theorem Dk.mono (e : Same H H') : ∀ {v : List (Key × V)} {d : List (PyData × PyData)}, Dk K H v d → Dk K H' v d
  | _, _, .nil => .nil
  | _, _, .cons h r => .cons (Dd.mono e h) (Dk.mono e r)
theorem Dt.mono (e : Same H H') : ∀ {v : List (List Key × V)} {d : List (PyData × PyData)}, Dt K H v d → Dt K H' v d
  | _, _, .nil => .nil
  | _, _, .cons h r => .cons (Dd.mono e h) (Dt.mono e r)
end
theorem Da.length : ∀ {vs : List V} {ds : List PyData}, Da K H vs ds → vs.length = ds.length
  | _, _, .nil => rfl
  | _, _, .cons _ r => congrArg (· + 1) r.length
theorem Da.get : ∀ {vs : List V} {ds : List PyData} {i : Nat} {d : PyData}, Da K H vs ds → ds[i]? = some d → ∃ v, vs[i]? = some v ∧ Dd K H v d
  | _, _, _, _, .nil, h => by simp at h
  | _, _, 0, _, .cons h r, e => by
    simp only [List.getElem?_cons_zero, Option.some.injEq] at e
    subst e
    exact ⟨_, rfl, h⟩
  | _, _, i + 1, _, .cons h r, e => by
    obtain ⟨v, h1, h2⟩ := Da.get (i := i) r (by simpa using e)
    exact ⟨v, by simpa using h1, h2⟩
theorem Da.get' : ∀ {vs : List V} {ds : List PyData} {i : Nat} {v : V}, Da K H vs ds → vs[i]? = some v → ∃ d, ds[i]? = some d ∧ Dd K H v d
  | _, _, _, _, .nil, h => by simp at h
  | _, _, 0, _, .cons h r, e => by
    simp only [List.getElem?_cons_zero, Option.some.injEq] at e
    subst e
    exact ⟨_, rfl, h⟩
  | _, _, i + 1, _, .cons h r, e => by
    obtain ⟨v, h1, h2⟩ := Da.get' (i := i) r (by simpa using e)
    exact ⟨v, by simpa using h1, h2⟩
theorem Da.append : ∀ {vs ws : List V} {ds es : List PyData}, Da K H vs ds → Da K H ws es → Da K H (vs ++ ws) (ds ++ es)
  | _, _, _, _, .nil, s => s
  | _, _, _, _, .cons h r, s => .cons h (Da.append r s)
theorem Da.dropLast : ∀ {vs : List V} {ds : List PyData}, Da K H vs ds → Da K H vs.dropLast ds.dropLast
  | _, _, .nil => .nil
  | _, _, .cons h .nil => .nil
  | _, _, .cons h (.cons h2 r) => .cons h (Da.dropLast (.cons h2 r))
theorem Da.ints : ∀ {vs : List V} {ns : List Int}, Da K H vs (ns.map PyData.int) → vs = ns.map V.int
  | _, [], .nil => rfl
  | _, n :: ns, .cons (.int _) r => congrArg (V.int n :: ·) (Da.ints r)
theorem Da.of_ints : ∀ (ns : List Int), Da K H (ns.map V.int) (ns.map PyData.int)
  | [] => .nil
  | n :: ns => .cons (.int n) (Da.of_ints ns)

/-- no dict within -/
theorem no_dict : ∀ (d : PyData), d.hasDict = d.hasDict := fun _ => rfl
end

/-! ### what is hidden -/
open Classical in
noncomputable def hide (m : Addr → Prop) (H : Hp) : Hp := fun a => if m a then none else H a
theorem hide_of {m : Addr → Prop} {H : Hp} {a : Addr} (h : ¬ m a) : hide m H a = H a := by
  unfold hide
  rw [if_neg h]
theorem hide_in {m : Addr → Prop} {H : Hp} {a : Addr} {o : HO} (h : hide m H a = some o) : ¬ m a ∧ H a = some o := by
  unfold hide at h
  by_cases c : m a
  · rw [if_pos c] at h
    cases h
  · rw [if_neg c] at h
    exact ⟨c, h⟩
theorem hide_some {m : Addr → Prop} {H : Hp} {a : Addr} {o : HO} (c : ¬ m a) (h : H a = some o) : hide m H a = some o := by
  rw [hide_of c]
  exact h
theorem hide_same {m : Addr → Prop} {H : Hp} : Same (hide m H) H := .of fun _ _ h => (hide_in h).2
theorem Tb.hide {m : Addr → Prop} {H : Hp} {P : Addr} (t : Tb H P) (l : ∀ a o, m a → H a = some o → ∃ xs, o = .lst xs) : Tb (hide m H) P := by
  obtain ⟨ps, h, t, k⟩ := t
  refine ⟨ps, hide_some (fun z => ?_) h, t, fun q hq pos cv hc => ?_⟩
  · obtain ⟨xs, e⟩ := l P _ z h
    cases e
  · obtain ⟨c, e1, e2⟩ := k q hq pos cv hc
    refine ⟨c, e1, hide_some (fun z => ?_) e2⟩
    obtain ⟨xs, e⟩ := l c _ z e2
    unfold LamX.CodeO at e
    cases e
theorem hide_mono {m : Addr → Prop} {H H' : Hp} (l : ∀ a o, m a → H' a = some o → ∃ xs, o = .lst xs) (e : Same H H') : Same (hide m H) (hide m H') := fun a o h => by
  obtain ⟨c, h⟩ := hide_in h
  rcases e _ _ h with z | ⟨t, z⟩
  · exact .inl (hide_some c z)
  · exact .inr ⟨t, z.hide l⟩

/-! ### abstract stores -/
inductive Sl where
  | no
  | dat (d : PyData)
  | ml (p : Addr) (ds : List PyData)
abbrev Sto := List Sl
/-- addresses of the lists that may still change -/
def own (δ : Sto) (a : Addr) : Prop := ∃ (i : Nat) (ds : List PyData), δ[i]? = some (.ml a ds)
def hid (m : Addr → Prop) (δ : Sto) : Addr → Prop := fun a => m a ∨ own δ a

structure Env3 (K : PySem.W.Frag) (m : Addr → Prop) (H : Hp) (σ : L2.St) (δ : Sto) : Prop where
  len : σ.length = δ.length
  dat : ∀ (i : Nat) (d : PyData), δ[i]? = some (.dat d) → ∃ v, σ[i]? = some (some v) ∧ Dd K (hide (hid m δ) H) v d
  ml : ∀ (i : Nat) (p : Addr) (ds : List PyData), δ[i]? = some (.ml p ds) → σ[i]? = some (some (.ref p)) ∧ ¬ m p ∧ ∃ xs, H p = some (.lst xs) ∧ Da K (hide (hid m δ) H) xs ds
  one : ∀ (i j : Nat) (p : Addr) (ds es : List PyData), δ[i]? = some (.ml p ds) → δ[j]? = some (.ml p es) → i = j
  got : ∀ a, m a → H a ≠ none
  tab : TabI K m H

/-- from one state to a later one -/
structure Gw (m : Addr → Prop) (δ : Sto) (H : Hp) (δ' : Sto) (H' : Hp) : Prop where
  same : Same (hide (hid m δ) H) (hide (hid m δ') H')
  keep : ∀ a, m a → H' a = H a
theorem Gw.refl {m : Addr → Prop} {δ : Sto} {H : Hp} : Gw m δ H δ H := ⟨Same.refl _, fun _ _ => rfl⟩
theorem Gw.trans {m : Addr → Prop} {δ δ1 δ2 : Sto} {H H1 H2 : Hp} (a : Gw m δ H δ1 H1) (b : Gw m δ1 H1 δ2 H2) : Gw m δ H δ2 H2 :=
  ⟨a.same.trans b.same, fun x h => (b.keep x h).trans (a.keep x h)⟩
theorem Env3.lists {K : PySem.W.Frag} {m : Addr → Prop} {H : Hp} {σ : L2.St} {δ : Sto} (I : Env3 K m H σ δ) : ∀ a o, hid m δ a → H a = some o → ∃ xs, o = .lst xs := fun a o h e => by
  rcases h with h | ⟨i, ds, h⟩
  · exact I.tab.ls a o h e
  · obtain ⟨_, _, xs, q, _⟩ := I.ml i a ds h
    rw [e] at q
    exact ⟨xs, Option.some.inj q⟩
theorem Env3.lists' {K : PySem.W.Frag} {m : Addr → Prop} {H H' : Hp} {σ : L2.St} {δ : Sto} (I : Env3 K m H σ δ) (e : Same H H') : ∀ a o, hid m δ a → H' a = some o → ∃ xs, o = .lst xs := fun a o h e' => by
  have got : H a ≠ none := by
    rcases h with h | ⟨i, ds, h⟩
    · exact I.got a h
    · obtain ⟨_, _, xs, q, _⟩ := I.ml i a ds h
      rw [q]
      exact fun z => nomatch z
  cases q : H a with
  | none => exact absurd q got
  | some u =>
    obtain ⟨xs, rfl⟩ := I.lists a u h q
    have z := e.at q nt_lst
    rw [e'] at z
    exact ⟨xs, Option.some.inj z⟩
theorem Gw.of_same {K : PySem.W.Frag} {m : Addr → Prop} {δ : Sto} {H H' : Hp} {σ : L2.St} (I : Env3 K m H σ δ) (e : Same H H') : Gw m δ H δ H' :=
  ⟨hide_mono (I.lists' e) e, fun a h => by
    cases q : H a with
    | none => exact absurd q (I.got a h)
    | some o => exact e.at q (I.tab.no a o h q)⟩
theorem Env3.same {K : PySem.W.Frag} {m : Addr → Prop} {H H' : Hp} {σ : L2.St} {δ : Sto} (I : Env3 K m H σ δ) (e : Same H H') : Env3 K m H' σ δ where
  len := I.len
  dat := fun i d h => by
    obtain ⟨v, h1, h2⟩ := I.dat i d h
    exact ⟨v, h1, h2.mono (hide_mono (I.lists' e) e)⟩
  ml := fun i p ds h => by
    obtain ⟨h1, h2, xs, h3, h4⟩ := I.ml i p ds h
    exact ⟨h1, h2, xs, e.at h3 nt_lst, h4.mono (hide_mono (I.lists' e) e)⟩
  one := I.one
  got := fun a h => by
    cases q : H a with
    | none => exact absurd q (I.got a h)
    | some o =>
      rw [e.at q (I.tab.no a o h q)]
      exact fun z => by cases z
  tab := I.tab.same I.got e

/-! ### values as they are seen -/
inductive Vw where
  | d (x : PyData)
  | m (i : Nat)
  | v (x : V)
def VwOk (K : PySem.W.Frag) (m : Addr → Prop) (H : Hp) (δ : Sto) (v : V) : Vw → Prop
  | .d x => Dd K (hide (hid m δ) H) v x
  | .m i => ∃ p ds, δ[i]? = some (.ml p ds) ∧ v = .ref p
  | .v x => v = x
/-- the lists that may change stay where they are while an expression runs -/
def Stay (δ δ' : Sto) : Prop := ∀ (i : Nat) (p : Addr) (ds : List PyData), δ[i]? = some (.ml p ds) → ∃ es, δ'[i]? = some (.ml p es)
theorem Stay.refl (δ : Sto) : Stay δ δ := fun i p ds h => ⟨ds, h⟩
theorem Stay.trans {a b c : Sto} (h : Stay a b) (k : Stay b c) : Stay a c := fun i p ds e => by
  obtain ⟨es, e1⟩ := h i p ds e
  exact k i p es e1
theorem VwOk.go {K : PySem.W.Frag} {m : Addr → Prop} {H H' : Hp} {δ δ' : Sto} {v : V} {w : Vw} (h : VwOk K m H δ v w) (g : Gw m δ H δ' H') (s : Stay δ δ') : VwOk K m H' δ' v w := by
  cases w with
  | d x => exact Dd.mono g.same h
  | m i =>
    obtain ⟨p, ds, h1, h2⟩ := h
    obtain ⟨es, h3⟩ := s i p ds h1
    exact ⟨p, es, h3, h2⟩
  | v x => exact h
inductive VwAll (K : PySem.W.Frag) (m : Addr → Prop) (H : Hp) (δ : Sto) : List V → List Vw → Prop
  | nil : VwAll K m H δ [] []
  | cons {v : V} {w : Vw} {vs : List V} {ws : List Vw} (h : VwOk K m H δ v w) (r : VwAll K m H δ vs ws) : VwAll K m H δ (v :: vs) (w :: ws)
theorem VwAll.go {K : PySem.W.Frag} {m : Addr → Prop} {H H' : Hp} {δ δ' : Sto} (g : Gw m δ H δ' H') (s : Stay δ δ') : ∀ {vs : List V} {ws : List Vw}, VwAll K m H δ vs ws → VwAll K m H' δ' vs ws
  | _, _, .nil => .nil
  | _, _, .cons h r => .cons (h.go g s) (r.go g s)

/-! ### what an expression, a test, arguments, a statement do to a store -/
abbrev XP := Value → Sto → Prop
def EX (K : PySem.W.Frag) (W : WX) (te : TE) (δ : Sto) (post : Vw → Sto → Prop) (ex : XP) : Prop :=
  ∀ (m : Addr → Prop) (H : Hp) (σ : L2.St), Env3 K m H σ δ → ∀ Q : VK,
    (∀ v w H' δ', Gw m δ H δ' H' → Stay δ δ' → Env3 K m H' σ δ' → VwOk K m H' δ' v w → post w δ' → Q v H') →
    (∀ C H' δ', Gw m δ H δ' H' → Env3 K m H' σ δ' → ex C δ' → W C none σ H') → te σ H Q
def TX (K : PySem.W.Frag) (W : WX) (tt : TT) (δ : Sto) (post : Bool → Sto → Prop) (ex : XP) : Prop :=
  ∀ (m : Addr → Prop) (H : Hp) (σ : L2.St), Env3 K m H σ δ → ∀ Q : Bool → Hp → Prop,
    (∀ b H' δ', Gw m δ H δ' H' → Stay δ δ' → Env3 K m H' σ δ' → post b δ' → Q b H') →
    (∀ C H' δ', Gw m δ H δ' H' → Env3 K m H' σ δ' → ex C δ' → W C none σ H') → tt σ H Q
def AX (K : PySem.W.Frag) (W : WX) (ta : TA) (δ : Sto) (post : List Vw → Sto → Prop) (ex : XP) : Prop :=
  ∀ (m : Addr → Prop) (H : Hp) (σ : L2.St), Env3 K m H σ δ → ∀ Q : List V → Hp → Prop,
    (∀ vs ws H' δ', Gw m δ H δ' H' → Stay δ δ' → Env3 K m H' σ δ' → VwAll K m H' δ' vs ws → post ws δ' → Q vs H') →
    (∀ C H' δ', Gw m δ H δ' H' → Env3 K m H' σ δ' → ex C δ' → W C none σ H') → ta σ H Q
structure Ends3 where
  nx : Sto → Prop
  rt : Vw → Sto → Prop
  bk : Sto → Prop
  ct : Sto → Prop
  ex : XP
abbrev Ends3.nxt (R : Ends3) (n : Sto → Prop) : Ends3 := ⟨n, R.rt, R.bk, R.ct, R.ex⟩
abbrev Ends3.loop (R : Ends3) (n : Sto → Prop) : Ends3 := ⟨n, R.rt, R.nx, n, R.ex⟩
abbrev Ends3.catch (R : Ends3) (e : XP) : Ends3 := ⟨R.nx, R.rt, R.bk, R.ct, e⟩
/-- the ends of a def's body: post of what is handed back, exn of what is raised -/
abbrev RD (post : PyData → Prop) (exn : Value → Prop) : Ends3 := ⟨fun _ => post .none, fun w _ => ∃ d, w = .d d ∧ post d, fun _ => False, fun _ => False, fun C _ => exn C⟩
/-- .. of a def that changes its first argument, the list at p -/
abbrev RM (p : Addr) (post : PyData → List PyData → Prop) : Ends3 := ⟨fun δ' => ∃ fs, δ'[0]? = some (.ml p fs) ∧ post .none fs, fun w δ' => ∃ d fs, w = .d d ∧ δ'[0]? = some (.ml p fs) ∧ post d fs, fun _ => False, fun _ => False, fun _ _ => False⟩
def SX (K : PySem.W.Frag) (W : WX) (t : TS) (δ : Sto) (R : Ends3) : Prop :=
  ∀ (m : Addr → Prop) (H : Hp) (σ : L2.St), Env3 K m H σ δ → ∀ D : Ends,
    (∀ σ' H' δ', Gw m δ H δ' H' → Env3 K m H' σ' δ' → R.nx δ' → D.nx σ' H') →
    (∀ v w σ' H' δ', Gw m δ H δ' H' → Env3 K m H' σ' δ' → VwOk K m H' δ' v w → R.rt w δ' → D.rt v H') →
    (∀ σ' H' δ', Gw m δ H δ' H' → Env3 K m H' σ' δ' → R.bk δ' → D.bk σ' H') →
    (∀ σ' H' δ', Gw m δ H δ' H' → Env3 K m H' σ' δ' → R.ct δ' → D.ct σ' H') →
    (∀ C σ' H' δ', Gw m δ H δ' H' → Env3 K m H' σ' δ' → R.ex C δ' → W C none σ' H') → t D σ H
end M3
namespace M3
open PySem PySem.Spec PyProof.Rows L2
variable [NmC]

section
variable {K : PySem.W.Frag} {W : WX} {δ : Sto} {ex : XP} {post : Vw → Sto → Prop} {ta tb tc te : TE} {tt tu : TT} {R : Ends3} {t u : TS}

/-! ### consequence -/
theorem EX.imp {p q : Vw → Sto → Prop} {e f : XP} (h : EX K W te δ p e) (a : ∀ w δ', p w δ' → q w δ') (b : ∀ C δ', e C δ' → f C δ') : EX K W te δ q f :=
  fun m H σ I Q k k2 => h m H σ I Q (fun v w H' δ' g s J o pp => k v w H' δ' g s J o (a _ _ pp)) (fun C H' δ' g J ee => k2 C H' δ' g J (b _ _ ee))
theorem TX.imp {p q : Bool → Sto → Prop} {e f : XP} (h : TX K W tt δ p e) (a : ∀ w δ', p w δ' → q w δ') (b : ∀ C δ', e C δ' → f C δ') : TX K W tt δ q f :=
  fun m H σ I Q k k2 => h m H σ I Q (fun v H' δ' g s J pp => k v H' δ' g s J (a _ _ pp)) (fun C H' δ' g J ee => k2 C H' δ' g J (b _ _ ee))
/-- the store behind a part is what it was, its value known -/
theorem SX.imp {R' : Ends3} (h : SX K W t δ R) (a : ∀ δ', R.nx δ' → R'.nx δ') (b : ∀ w δ', R.rt w δ' → R'.rt w δ') (c : ∀ δ', R.bk δ' → R'.bk δ') (d : ∀ δ', R.ct δ' → R'.ct δ') (e : ∀ C δ', R.ex C δ' → R'.ex C δ') : SX K W t δ R' :=
  fun m H σ I D k1 k2 k3 k4 k5 => h m H σ I D (fun σ' H' δ' g J p => k1 σ' H' δ' g J (a _ p)) (fun v w σ' H' δ' g J o p => k2 v w σ' H' δ' g J o (b _ _ p)) (fun σ' H' δ' g J p => k3 σ' H' δ' g J (c _ p)) (fun σ' H' δ' g J p => k4 σ' H' δ' g J (d _ p)) (fun C σ' H' δ' g J p => k5 C σ' H' δ' g J (e _ _ p))

/-! ### names, written values -/
theorem ex_var {i : Nat} {d : PyData} (h : δ[i]? = some (.dat d)) (q : post (.d d) δ) : EX K W (tVar i) δ post ex := fun m H σ I Q k _ => by
  obtain ⟨v, h1, h2⟩ := I.dat i d h
  exact ⟨v, h1, k v (.d d) H δ .refl (.refl δ) I h2 q⟩
theorem ex_mvar {i : Nat} {p : Addr} {ds : List PyData} (h : δ[i]? = some (.ml p ds)) (q : post (.m i) δ) : EX K W (tVar i) δ post ex := fun m H σ I Q k _ => by
  obtain ⟨h1, h2, _⟩ := I.ml i p ds h
  exact ⟨.ref p, h1, k (.ref p) (.m i) H δ .refl (.refl δ) I ⟨p, ds, h, rfl⟩ q⟩
theorem ex_c {v : V} {d : PyData} (h : ∀ H, Dd K H v d) (q : post (.d d) δ) : EX K W (tC v) δ post ex := fun m H σ I Q k _ => k v (.d d) H δ .refl (.refl δ) I (h _) q
theorem ex_int {n : Int} (q : post (.d (.int n)) δ) : EX K W (tC (.int n)) δ post ex := ex_c (fun _ => .int n) q
theorem ex_str {n : Str} (q : post (.d (.str n)) δ) : EX K W (tC (.str n)) δ post ex := ex_c (fun _ => .str n) q
theorem ex_bl {n : Bool} (q : post (.d (.bool n)) δ) : EX K W (tC (.bl n)) δ post ex := ex_c (fun _ => .bl n) q
theorem ex_non (q : post (.d .none) δ) : EX K W (tC .non) δ post ex := ex_c (fun _ => .non) q

/-! ### operations on values -/
def RX (K : PySem.W.Frag) (r : R2) (w1 w2 : Vw) (δ : Sto) (post : Vw → Sto → Prop) : Prop :=
  ∀ (m : Addr → Prop) (H : Hp) (σ : L2.St) (v1 v2 : V), Env3 K m H σ δ → VwOk K m H δ v1 w1 → VwOk K m H δ v2 w2 → ∀ Q : VK,
    (∀ v w H', Same H H' → VwOk K m H' δ v w → post w δ → Q v H') → r v1 v2 H Q
def UX (K : PySem.W.Frag) (r : V → Hp → VK → Prop) (w1 : Vw) (δ : Sto) (post : Vw → Sto → Prop) : Prop :=
  ∀ (m : Addr → Prop) (H : Hp) (σ : L2.St) (v1 : V), Env3 K m H σ δ → VwOk K m H δ v1 w1 → ∀ Q : VK,
    (∀ v w H', Same H H' → VwOk K m H' δ v w → post w δ → Q v H') → r v1 H Q
theorem ex_op {r : R2} (h : EX K W ta δ (fun w1 δ1 => EX K W tb δ1 (fun w2 δ2 => RX K r w1 w2 δ2 post) ex) ex) : EX K W (tOp r ta tb) δ post ex :=
  fun m H σ I Q k k2 => h m H σ I _ (fun v1 w1 H1 δ1 g1 s1 I1 o1 hb => hb m H1 σ I1 _ (fun v2 w2 H2 δ2 g2 s2 I2 o2 hr =>
    hr m H2 σ v1 v2 I2 (o1.go g2 s2) o2 Q fun v w H3 e o p => k v w H3 δ2 ((g1.trans g2).trans (.of_same I2 e)) (s1.trans s2) (I2.same e) o p)
    (fun C H' δ' g J e => k2 C H' δ' (g1.trans g) J e)) k2
theorem ex_un {r : V → Hp → VK → Prop} (h : EX K W ta δ (fun w1 δ1 => UX K r w1 δ1 post) ex) : EX K W (tUn r ta) δ post ex :=
  fun m H σ I Q k k2 => h m H σ I _ (fun v1 w1 H1 δ1 g1 s1 I1 o1 hr =>
    hr m H1 σ v1 I1 o1 Q fun v w H3 e o p => k v w H3 δ1 (g1.trans (.of_same I1 e)) s1 (I1.same e) o p) k2
theorem dd_int {H : Hp} {v : V} {i : Int} (h : Dd K H v (.int i)) : v = .int i := by cases h; rfl
theorem dd_bool {H : Hp} {v : V} {i : Bool} (h : Dd K H v (.bool i)) : v = .bl i := by cases h; rfl
theorem dd_str {H : Hp} {v : V} {i : Str} (h : Dd K H v (.str i)) : v = .str i := by cases h; rfl
theorem dd_none {H : Hp} {v : V} (h : Dd K H v .none) : v = .non := by cases h; rfl
theorem rx_ii {f : Int → Int → Int} {i j : Int} (q : post (.d (.int (f i j))) δ) : RX K (rI0 fun a b => .int (f a b)) (.d (.int i)) (.d (.int j)) δ post :=
  fun m H σ v1 v2 I h1 h2 Q k => ⟨i, j, dd_int h1, dd_int h2, k _ (.d (.int (f i j))) H (.refl H) (.int _) q⟩
theorem rx_ib {f : Int → Int → Bool} {i j : Int} (q : post (.d (.bool (f i j))) δ) : RX K (rI0 fun a b => .bl (f a b)) (.d (.int i)) (.d (.int j)) δ post :=
  fun m H σ v1 v2 I h1 h2 Q k => ⟨i, j, dd_int h1, dd_int h2, k _ (.d (.bool (f i j))) H (.refl H) (.bl _) q⟩
theorem rx_Ci {C : Int → Int → Prop} {f : Int → Int → Int} {i j : Int} (c : C i j) (q : post (.d (.int (f i j))) δ) : RX K (rI C fun a b => .int (f a b)) (.d (.int i)) (.d (.int j)) δ post :=
  fun m H σ v1 v2 I h1 h2 Q k => ⟨i, j, dd_int h1, dd_int h2, c, k _ (.d (.int (f i j))) H (.refl H) (.int _) q⟩
theorem ux_i {f : Int → Int} {i : Int} (q : post (.d (.int (f i))) δ) : UX K (rU fun a => .int (f a)) (.d (.int i)) δ post :=
  fun m H σ v1 I h1 Q k => ⟨i, dd_int h1, k _ (.d (.int (f i))) H (.refl H) (.int _) q⟩
theorem dd_tup {H : Hp} {v : V} {ds : List PyData} (h : Dd K H v (.tuple ds)) : ∃ a xs, v = .ref a ∧ SqT K H a xs ∧ Da K H xs ds := by
  cases h with
  | tup h r => exact ⟨_, _, rfl, h, r⟩
theorem dd_lst {H : Hp} {v : V} {ds : List PyData} (h : Dd K H v (.list ds)) : ∃ a xs, v = .ref a ∧ SqL K H a xs ∧ Da K H xs ds := by
  cases h with
  | lst h r => exact ⟨_, _, rfl, h, r⟩
theorem da_at {H : Hp} {xs : List V} {ds : List PyData} {i : Int} {d : PyData} (r : Da K H xs ds) (h : atI ds i = some d) : ∃ v, atI xs i = some v ∧ Dd K H v d := by
  have hl := r.length
  unfold atI at h ⊢
  rw [hl]
  cases e : ixN ds.length i with
  | none =>
    rw [e] at h
    cases h
  | some j =>
    rw [e] at h
    exact r.get h
theorem rx_ixT {ds : List PyData} {i : Int} {d : PyData} (h : atI ds i = some d) (q : post (.d d) δ) : RX K (rIxT K) (.d (.tuple ds)) (.d (.int i)) δ post := fun m H σ v1 v2 I h1 h2 Q k => by
  obtain ⟨a, xs, e, s, r⟩ := dd_tup h1
  obtain ⟨v, ha, hd⟩ := da_at r h
  exact ⟨a, xs, i, v, e, dd_int h2, Same.tup hide_same s, ha, k v (.d d) H (.refl H) hd q⟩
theorem rx_ixL {ds : List PyData} {i : Int} {d : PyData} (h : atI ds i = some d) (q : post (.d d) δ) : RX K (rIxL K) (.d (.list ds)) (.d (.int i)) δ post := fun m H σ v1 v2 I h1 h2 Q k => by
  obtain ⟨a, xs, e, s, r⟩ := dd_lst h1
  obtain ⟨v, ha, hd⟩ := da_at r h
  exact ⟨a, xs, i, v, e, dd_int h2, Same.seq hide_same s, ha, k v (.d d) H (.refl H) hd q⟩
theorem rx_ixM {n : Nat} {p : Addr} {ds : List PyData} {i : Int} {d : PyData} (hn : δ[n]? = some (.ml p ds)) (h : atI ds i = some d) (q : post (.d d) δ) : RX K (rIxL K) (.m n) (.d (.int i)) δ post := fun m H σ v1 v2 I h1 h2 Q k => by
  obtain ⟨p', ds', e1, rfl⟩ := h1
  rw [hn] at e1
  cases e1
  obtain ⟨_, _, xs, hp, r⟩ := I.ml n p ds hn
  obtain ⟨v, ha, hd⟩ := da_at r h
  exact ⟨p, xs, i, v, rfl, dd_int h2, .inl (.inl hp), ha, k v (.d d) H (.refl H) hd q⟩

/-! ### tests, and, or, if -/
theorem tx_test (h : EX K W te δ (fun w δ' => ∃ b, w = .d (.bool b) ∧ p b δ') ex) : TX K W (tTest te) δ p ex :=
  fun m H σ I Q k k2 => h m H σ I _ (fun v w H' δ' g s J o ⟨b, e, q⟩ => by
    subst e
    exact ⟨b, dd_bool o, k b H' δ' g s J q⟩) k2
theorem tx_B (h : EX K W te δ (fun w δ' => ∃ b, w = .d (.bool b) ∧ p b δ') ex) : TX K W (tB te) δ p ex :=
  fun m H σ I Q k k2 => h m H σ I _ (fun v w H' δ' g s J o ⟨b, e, q⟩ => by
    subst e
    exact ⟨b, dd_bool o, k b H' δ' g s J q⟩) k2
theorem tx_and {p : Bool → Sto → Prop} (h : TX K W tt δ (fun b δ' => (b = true → TX K W tu δ' p ex) ∧ (b = false → p false δ')) ex) : TX K W (tAnd tt tu) δ p ex :=
  fun m H σ I Q k k2 => h m H σ I _ (fun b H' δ' g s J ⟨q1, q2⟩ => by
    cases b with
    | true => exact iteT (q1 rfl m H' σ J Q (fun b H2 δ2 g2 s2 J2 q => k b H2 δ2 (g.trans g2) (s.trans s2) J2 q) (fun C H2 δ2 g2 J2 e => k2 C H2 δ2 (g.trans g2) J2 e))
    | false => exact iteF (k false H' δ' g s J (q2 rfl))) k2
theorem tx_or {p : Bool → Sto → Prop} (h : TX K W tt δ (fun b δ' => (b = true → p true δ') ∧ (b = false → TX K W tu δ' p ex)) ex) : TX K W (tOr tt tu) δ p ex :=
  fun m H σ I Q k k2 => h m H σ I _ (fun b H' δ' g s J ⟨q1, q2⟩ => by
    cases b with
    | true => exact iteT (k true H' δ' g s J (q1 rfl))
    | false => exact iteF (q2 rfl m H' σ J Q (fun b H2 δ2 g2 s2 J2 q => k b H2 δ2 (g.trans g2) (s.trans s2) J2 q) (fun C H2 δ2 g2 J2 e => k2 C H2 δ2 (g.trans g2) J2 e))) k2
theorem tx_not {p : Bool → Sto → Prop} (h : TX K W tt δ (fun b δ' => p (!b) δ') ex) : TX K W (tNot tt) δ p ex :=
  fun m H σ I Q k k2 => h m H σ I _ (fun b H' δ' g s J q => k (!b) H' δ' g s J q) k2
theorem ex_andV (h : EX K W ta δ (fun w δ' => ∃ b, w = .d (.bool b) ∧ (b = true → EX K W tb δ' post ex) ∧ (b = false → post (.d (.bool false)) δ')) ex) : EX K W (tAndV ta tb) δ post ex :=
  fun m H σ I Q k k2 => h m H σ I _ (fun v w H' δ' g s J o ⟨b, e, q1, q2⟩ => by
    subst e
    refine ⟨b, dd_bool o, ?_⟩
    cases b with
    | true => exact iteT (q1 rfl m H' σ J Q (fun v w H2 δ2 g2 s2 J2 o2 q => k v w H2 δ2 (g.trans g2) (s.trans s2) J2 o2 q) (fun C H2 δ2 g2 J2 e => k2 C H2 δ2 (g.trans g2) J2 e))
    | false => exact iteF (k _ (.d (.bool false)) H' δ' g s J (.bl false) (q2 rfl))) k2
theorem ex_orV (h : EX K W ta δ (fun w δ' => ∃ b, w = .d (.bool b) ∧ (b = false → EX K W tb δ' post ex) ∧ (b = true → post (.d (.bool true)) δ')) ex) : EX K W (tOrV ta tb) δ post ex :=
  fun m H σ I Q k k2 => h m H σ I _ (fun v w H' δ' g s J o ⟨b, e, q1, q2⟩ => by
    subst e
    refine ⟨b, dd_bool o, ?_⟩
    cases b with
    | false => exact iteF (q1 rfl m H' σ J Q (fun v w H2 δ2 g2 s2 J2 o2 q => k v w H2 δ2 (g.trans g2) (s.trans s2) J2 o2 q) (fun C H2 δ2 g2 J2 e => k2 C H2 δ2 (g.trans g2) J2 e))
    | true => exact iteT (k _ (.d (.bool true)) H' δ' g s J (.bl true) (q2 rfl))) k2
theorem ex_notV (h : EX K W ta δ (fun w δ' => ∃ b, w = .d (.bool b) ∧ post (.d (.bool (!b))) δ') ex) : EX K W (tNotV ta) δ post ex :=
  fun m H σ I Q k k2 => h m H σ I _ (fun v w H' δ' g s J o ⟨b, e, q⟩ => by
    subst e
    exact ⟨b, dd_bool o, k _ (.d (.bool (!b))) H' δ' g s J (.bl _) q⟩) k2
theorem ex_if (h : TX K W tt δ (fun b δ' => (b = true → EX K W ta δ' post ex) ∧ (b = false → EX K W tb δ' post ex)) ex) : EX K W (tIf tt ta tb) δ post ex :=
  fun m H σ I Q k k2 => h m H σ I _ (fun b H' δ' g s J ⟨q1, q2⟩ => by
    cases b with
    | true => exact iteT (q1 rfl m H' σ J Q (fun v w H2 δ2 g2 s2 J2 o2 q => k v w H2 δ2 (g.trans g2) (s.trans s2) J2 o2 q) (fun C H2 δ2 g2 J2 e => k2 C H2 δ2 (g.trans g2) J2 e))
    | false => exact iteF (q2 rfl m H' σ J Q (fun v w H2 δ2 g2 s2 J2 o2 q => k v w H2 δ2 (g.trans g2) (s.trans s2) J2 o2 q) (fun C H2 δ2 g2 J2 e => k2 C H2 δ2 (g.trans g2) J2 e))) k2

/-! ### arguments, displays -/
theorem ax_nil {p : List Vw → Sto → Prop} (q : p [] δ) : AX K W tNil δ p ex := fun m H σ I Q k _ => k [] [] H δ .refl (.refl δ) I .nil q
theorem ax_cons {p : List Vw → Sto → Prop} {tr : TA} (h : EX K W ta δ (fun w δ1 => AX K W tr δ1 (fun ws δ2 => p (w :: ws) δ2) ex) ex) : AX K W (tCons ta tr) δ p ex :=
  fun m H σ I Q k k2 => h m H σ I _ (fun v w H1 δ1 g1 s1 I1 o1 hr => hr m H1 σ I1 _ (fun vs ws H2 δ2 g2 s2 I2 o2 q => k (v :: vs) (w :: ws) H2 δ2 (g1.trans g2) (s1.trans s2) I2 (.cons (o1.go g2 s2) o2) q)
    (fun C H' δ' g J e => k2 C H' δ' (g1.trans g) J e)) k2
theorem not_hid {m : Addr → Prop} {H : Hp} {σ : L2.St} {p : Addr} (I : Env3 K m H σ δ) (h : H p = none) : ¬ hid m δ p := fun z => by
  rcases z with z | ⟨i, ds, z⟩
  · exact I.got p z h
  · obtain ⟨_, _, xs, e, _⟩ := I.ml i p ds z
    rw [h] at e
    cases e
theorem da_of {m : Addr → Prop} {H : Hp} : ∀ {vs : List V} {ds : List PyData}, VwAll K m H δ vs (ds.map .d) → Da K (hide (hid m δ) H) vs ds
  | _, [], .nil => .nil
  | _, _ :: _, .cons h r => .cons h (da_of r)
theorem same_upd {H : Hp} {p : Addr} {o : HO} (h : H p = none) : Same H (upd H p o) := .of fun b x e => by
  rw [upd_ne (ne_of_none e h)]
  exact e
theorem vw_len {m : Addr → Prop} {H : Hp} : ∀ {vs : List V} {ws : List Vw}, VwAll K m H δ vs ws → vs.length = ws.length
  | _, _, .nil => rfl
  | _, _, .cons _ r => congrArg (· + 1) (vw_len r)
theorem ex_tup {t : TA} (h : AX K W t δ (fun ws δ' => ∃ ds : List PyData, ws = ds.map .d ∧ ds.length ≤ 100000 ∧ post (.d (.tuple ds)) δ') ex) : EX K W (tTup t) δ post ex :=
  fun m H σ I Q k k2 => h m H σ I _ (fun vs ws H1 δ1 g1 s1 I1 o1 ⟨ds, e, hl, q⟩ => by
    subst e
    have r := da_of o1
    refine ⟨by rw [r.length]; exact Nat.le_trans hl (by decide), fun p hp => ?_⟩
    have sm := same_upd (o := .tup vs) hp
    refine k (.ref p) (.d (.tuple ds)) _ δ1 (g1.trans (.of_same I1 sm)) s1 (I1.same sm) ?_ q
    exact .tup (.inl (.inl (hide_some (not_hid I1 hp) upd_same))) (r.mono (hide_mono (I1.lists' sm) sm))) k2

/-! ### a fresh list: nobody else has it -/
open Classical in
noncomputable def erase (p : Addr) (H : Hp) : Hp := fun a => if a = p then none else H a
theorem erase_same {p : Addr} {H : Hp} : Same (erase p H) H := .of fun a o h => by
  unfold erase at h
  by_cases c : a = p
  · rw [if_pos c] at h
    cases h
  · rw [if_neg c] at h
    exact h
theorem erase_ne {p a : Addr} {H : Hp} (c : a ≠ p) : erase p H a = H a := by
  unfold erase
  rw [if_neg c]
theorem erase_at {p : Addr} {H : Hp} : erase p H p = none := by
  unfold erase
  rw [if_pos rfl]
theorem erase_upd {p : Addr} {H : Hp} {o : HO} (h : H p = none) : erase p (upd H p o) = H := by
  funext a
  by_cases c : a = p
  · rw [c, erase_at, h]
  · rw [erase_ne c, upd_ne c]
def FX (K : PySem.W.Frag) (W : WX) (te : TE) (δ : Sto) (post : List PyData → Sto → Prop) (ex : XP) : Prop :=
  ∀ (m : Addr → Prop) (H : Hp) (σ : L2.St), Env3 K m H σ δ → ∀ Q : VK,
    (∀ p xs ds H' δ', Gw m δ H δ' (erase p H') → Stay δ δ' → Env3 K m (erase p H') σ δ' → H' p = some (.lst xs) → Da K (hide (hid m δ') (erase p H')) xs ds → post ds δ' → Q (.ref p) H') →
    (∀ C H' δ', Gw m δ H δ' H' → Env3 K m H' σ δ' → ex C δ' → W C none σ H') → te σ H Q
theorem gw_erase {m : Addr → Prop} {δ' : Sto} {H H' : Hp} {p : Addr} {σ : L2.St} (g : Gw m δ H δ' (erase p H')) (I : Env3 K m (erase p H') σ δ') : Gw m δ H δ' H' := g.trans (.of_same I erase_same)
theorem ex_F {p : List PyData → Sto → Prop} (h : FX K W te δ p ex) (q : ∀ ds δ', p ds δ' → post (.d (.list ds)) δ') : EX K W te δ post ex :=
  fun m H σ I Q k k2 => h m H σ I Q (fun p xs ds H' δ' g s J e r pp => by
    refine k (.ref p) (.d (.list ds)) H' δ' (gw_erase g J) s (J.same erase_same) ?_ (q _ _ pp)
    exact .lst (.inl (.inl (hide_some (not_hid J erase_at) e))) (r.mono (hide_mono (J.lists' erase_same) erase_same))) k2
theorem fx_lst {t : TA} {p : List PyData → Sto → Prop} (h : AX K W t δ (fun ws δ' => ∃ ds : List PyData, ws = ds.map .d ∧ ds.length ≤ 100000 ∧ p ds δ') ex) : FX K W (tLst t) δ p ex :=
  fun m H σ I Q k k2 => h m H σ I _ (fun vs ws H1 δ1 g1 s1 I1 o1 ⟨ds, e, hl, q⟩ => by
    subst e
    have r := da_of o1
    refine ⟨by rw [r.length]; exact Nat.le_trans hl (by decide), fun p hp => ?_⟩
    have ee := erase_upd (o := .lst vs) hp
    refine k p vs ds _ δ1 (by rw [ee]; exact g1) s1 (by rw [ee]; exact I1) upd_same (by rw [ee]; exact r) q) k2
end
end M3
namespace M3
open PySem PySem.Spec PyProof.Rows L2
variable [NmC]

section
variable {K : PySem.W.Frag} {W : WX} {δ : Sto} {ex : XP} {post : Vw → Sto → Prop} {ta tb tc te : TE} {tt tu : TT} {R : Ends3} {t u : TS}

/-! ### slots are set -/
theorem hid_set {m : Addr → Prop} {i : Nat} {s : Sl} {a : Addr} (hs : ∀ p ds, s ≠ .ml p ds) (h : hid m (δ.set i s) a) : hid m δ a := by
  rcases h with h | ⟨j, ds, h⟩
  · exact .inl h
  · refine .inr ⟨j, ds, ?_⟩
    by_cases c : i = j
    · subst c
      rw [List.getElem?_set] at h
      simp only [if_true] at h
      split at h
      · exact absurd (Option.some.inj h) (hs _ _)
      · cases h
    · rw [List.getElem?_set_ne c] at h
      exact h
theorem hide_set {m : Addr → Prop} {H : Hp} {i : Nat} {s : Sl} (hs : ∀ p ds, s ≠ .ml p ds) : Same (hide (hid m δ) H) (hide (hid m (δ.set i s)) H) := .of fun a o h => by
  obtain ⟨c, e⟩ := hide_in h
  exact hide_some (fun z => c (hid_set hs z)) e
theorem set_get {α : Type} {l : List α} {i j : Nat} {x y : α} (h : (l.set i x)[j]? = some y) : (i = j ∧ x = y ∧ i < l.length) ∨ (i ≠ j ∧ l[j]? = some y) := by
  by_cases c : i = j
  · subst c
    rw [List.getElem?_set] at h
    simp only [if_true] at h
    split at h
    · exact .inl ⟨rfl, Option.some.inj h, ‹_›⟩
    · cases h
  · rw [List.getElem?_set_ne c] at h
    exact .inr ⟨c, h⟩
theorem Env3.set_dat {m : Addr → Prop} {H : Hp} {σ : L2.St} {i : Nat} {v : V} {d : PyData} (I : Env3 K m H σ δ) (h : Dd K (hide (hid m δ) H) v d) : Env3 K m H (σ.set i (some v)) (δ.set i (.dat d)) where
  len := by rw [List.length_set, List.length_set, I.len]
  dat := fun j e hj => by
    have hm := hide_set (m := m) (δ := δ) (H := H) (i := i) (s := .dat d) (fun _ _ z => nomatch z)
    rcases set_get hj with ⟨rfl, e1, hi⟩ | ⟨ne, hj⟩
    · cases e1
      exact ⟨v, by rw [List.getElem?_set_self (by rw [I.len]; exact hi)], h.mono hm⟩
    · obtain ⟨u, h1, h2⟩ := I.dat j e hj
      exact ⟨u, by rw [List.getElem?_set_ne ne]; exact h1, h2.mono hm⟩
  ml := fun j p ds hj => by
    have hm := hide_set (m := m) (δ := δ) (H := H) (i := i) (s := .dat d) (fun _ _ z => nomatch z)
    rcases set_get hj with ⟨_, e1, _⟩ | ⟨ne, hj⟩
    · cases e1
    · obtain ⟨h1, h2, xs, h3, h4⟩ := I.ml j p ds hj
      exact ⟨by rw [List.getElem?_set_ne ne]; exact h1, h2, xs, h3, h4.mono hm⟩
  one := fun j k p ds es hj hk => by
    rcases set_get hj with ⟨_, e1, _⟩ | ⟨ne, hj⟩
    · cases e1
    · rcases set_get hk with ⟨_, e1, _⟩ | ⟨ne2, hk⟩
      · cases e1
      · exact I.one j k p ds es hj hk
  got := I.got
  tab := I.tab
theorem Gw.set_dat {m : Addr → Prop} {H : Hp} {i : Nat} {d : PyData} : Gw m δ H (δ.set i (.dat d)) H := ⟨hide_set (fun _ _ z => nomatch z), fun _ _ => rfl⟩
/-- a list of one's own turns into data: it will not change any more -/
theorem Env3.freeze {m : Addr → Prop} {H : Hp} {σ : L2.St} {i : Nat} {p : Addr} {ds : List PyData} (I : Env3 K m H σ δ) (h : δ[i]? = some (.ml p ds)) : Env3 K m H σ (δ.set i (.dat (.list ds))) := by
  obtain ⟨h1, h2, xs, h3, h4⟩ := I.ml i p ds h
  have hσ : σ.set i (some (.ref p)) = σ := by
    obtain ⟨hl, e⟩ := List.getElem?_eq_some_iff.mp h1
    rw [← e]
    exact List.set_getElem_self hl
  have hm := hide_set (m := m) (δ := δ) (H := H) (i := i) (s := .dat (.list ds)) (fun _ _ z => nomatch z)
  have hi : i < δ.length := (List.getElem?_eq_some_iff.mp h).1
  have np : ¬ hid m (δ.set i (.dat (.list ds))) p := fun z => by
    rcases z with z | ⟨j, es, z⟩
    · exact h2 z
    · rcases set_get z with ⟨_, e1, _⟩ | ⟨ne, z⟩
      · cases e1
      · exact ne (I.one i j p ds es h z)
  refine ⟨by rw [List.length_set, I.len], fun j e hj => ?_, fun j q es hj => ?_, fun j k q es fs hj hk => ?_, I.got, I.tab⟩
  · rcases set_get hj with ⟨rfl, e1, _⟩ | ⟨ne, hj⟩
    · cases e1
      exact ⟨_, h1, .lst (.inl (.inl (hide_some np h3))) (h4.mono hm)⟩
    · obtain ⟨u, g1, g2⟩ := I.dat j e hj
      exact ⟨u, g1, g2.mono hm⟩
  · rcases set_get hj with ⟨_, e1, _⟩ | ⟨ne, hj⟩
    · cases e1
    · obtain ⟨g1, g2, ys, g3, g4⟩ := I.ml j q es hj
      exact ⟨g1, g2, ys, g3, g4.mono hm⟩
  · rcases set_get hj with ⟨_, e1, _⟩ | ⟨ne, hj⟩
    · cases e1
    · rcases set_get hk with ⟨_, e1, _⟩ | ⟨ne2, hk⟩
      · cases e1
      · exact I.one j k q es fs hj hk
theorem Gw.freeze {m : Addr → Prop} {H : Hp} {i : Nat} {d : PyData} : Gw m δ H (δ.set i (.dat d)) H := Gw.set_dat
theorem Tb.erase {H : Hp} {p P : Addr} {xs : List V} (t : Tb H P) (h : H p = some (.lst xs)) : Tb (erase p H) P := by
  obtain ⟨ps, t1, t2, t3⟩ := t
  have up : ∀ b u, H b = some u → ¬ (∃ xs, u = .lst xs) → M3.erase p H b = some u := fun b u q nl => by
    rw [erase_ne fun z => by
      rw [z, h] at q
      exact nl ⟨xs, (Option.some.inj q).symm⟩]
    exact q
  refine ⟨ps, up _ _ t1 (fun ⟨xs, z⟩ => nomatch z), t2, fun q hq pos cv hc => ?_⟩
  obtain ⟨c, e1, e2⟩ := t3 q hq pos cv hc
  exact ⟨c, e1, up _ _ e2 fun ⟨xs, z⟩ => by unfold LamX.CodeO at z; cases z⟩
theorem TabI.unerase {m : Addr → Prop} {H : Hp} {p : Addr} {xs : List V} (t : TabI K m (erase p H)) (h : H p = some (.lst xs)) : TabI K m H :=
  ⟨fun a o ha e => by
    by_cases c : a = p
    · subst c
      rw [h] at e
      exact ⟨xs, (Option.some.inj e).symm⟩
    · exact t.ls a o ha (by rw [erase_ne c]; exact e), fun P hP => erase_same.tb (t.has P hP)⟩
/-- a fresh list into a slot -/
theorem hide_fresh {m : Addr → Prop} {H : Hp} {i : Nat} {p : Addr} {ds : List PyData} : Same (hide (hid m δ) (erase p H)) (hide (hid m (δ.set i (.ml p ds))) H) := .of fun a o h => by
  obtain ⟨c, e⟩ := hide_in h
  have ne : a ≠ p := fun z => by rw [z, erase_at] at e; cases e
  rw [erase_ne ne] at e
  refine hide_some (fun z => c ?_) e
  rcases z with z | ⟨j, es, z⟩
  · exact .inl z
  · rcases set_get z with ⟨_, e1, _⟩ | ⟨ne2, z⟩
    · cases e1
      exact absurd rfl ne
    · exact .inr ⟨j, es, z⟩
theorem Env3.set_ml {m : Addr → Prop} {H : Hp} {σ : L2.St} {i : Nat} {p : Addr} {xs : List V} {ds : List PyData} (I : Env3 K m (erase p H) σ δ) (h : H p = some (.lst xs)) (r : Da K (hide (hid m δ) (erase p H)) xs ds) :
    Env3 K m H (σ.set i (some (.ref p))) (δ.set i (.ml p ds)) := by
  have hm := hide_fresh (m := m) (δ := δ) (H := H) (i := i) (p := p) (ds := ds)
  have notp : ¬ m p := fun z => I.got p z erase_at
  have nop : ∀ (j : Nat) (es : List PyData), δ[j]? ≠ some (.ml p es) := fun j es z => by
    obtain ⟨_, _, ys, e, _⟩ := I.ml j p es z
    rw [erase_at] at e
    cases e
  refine ⟨by rw [List.length_set, List.length_set, I.len], fun j e hj => ?_, fun j q es hj => ?_, fun j k q es fs hj hk => ?_, fun a ha => ?_, I.tab.unerase h⟩
  · rcases set_get hj with ⟨_, e1, _⟩ | ⟨ne, hj⟩
    · cases e1
    · obtain ⟨u, h1, h2⟩ := I.dat j e hj
      exact ⟨u, by rw [List.getElem?_set_ne ne]; exact h1, h2.mono hm⟩
  · rcases set_get hj with ⟨rfl, e1, hi⟩ | ⟨ne, hj⟩
    · cases e1
      exact ⟨by rw [List.getElem?_set_self (by rw [I.len]; exact hi)], notp, xs, h, r.mono hm⟩
    · obtain ⟨h1, h2, ys, h3, h4⟩ := I.ml j q es hj
      exact ⟨by rw [List.getElem?_set_ne ne]; exact h1, h2, ys, erase_same.at h3 nt_lst, h4.mono hm⟩
  · rcases set_get hj with ⟨rfl, e1, _⟩ | ⟨ne, hj⟩
    · cases e1
      rcases set_get hk with ⟨e2, _, _⟩ | ⟨ne2, hk⟩
      · exact e2
      · exact absurd hk (nop _ _)
    · rcases set_get hk with ⟨rfl, e1, _⟩ | ⟨ne2, hk⟩
      · cases e1
        exact absurd hj (nop _ _)
      · exact I.one j k q es fs hj hk
  · have := I.got a ha
    rw [erase_ne (fun z => by rw [z] at ha; exact notp ha)] at this
    exact this
theorem Gw.set_ml {m : Addr → Prop} {H : Hp} {σ : L2.St} {i : Nat} {p : Addr} {ds : List PyData} (I : Env3 K m (erase p H) σ δ) : Gw m δ (erase p H) (δ.set i (.ml p ds)) H :=
  ⟨hide_fresh, fun a ha => (erase_ne fun z => by subst z; exact I.got a ha erase_at).symm⟩
/-- a list of one's own is changed -/
theorem hid_chg {m : Addr → Prop} {i : Nat} {p : Addr} {ds es : List PyData} (h : δ[i]? = some (.ml p ds)) {a : Addr} : hid m (δ.set i (.ml p es)) a ↔ hid m δ a := by
  constructor
  · rintro (z | ⟨j, fs, z⟩)
    · exact .inl z
    · rcases set_get z with ⟨rfl, e1, _⟩ | ⟨ne, z⟩
      · cases e1
        exact .inr ⟨_, ds, h⟩
      · exact .inr ⟨j, fs, z⟩
  · rintro (z | ⟨j, fs, z⟩)
    · exact .inl z
    · by_cases c : i = j
      · subst c
        rw [h] at z
        cases z
        exact .inr ⟨i, es, by rw [List.getElem?_set_self (List.getElem?_eq_some_iff.mp h).1]⟩
      · exact .inr ⟨j, fs, by rw [List.getElem?_set_ne c]; exact z⟩
theorem hide_chg {m : Addr → Prop} {H H' : Hp} {i : Nat} {p : Addr} {ds es : List PyData} {σ : L2.St} (I : Env3 K m H σ δ) (h : δ[i]? = some (.ml p ds)) (e : Same (erase p H) (erase p H')) : Same (hide (hid m δ) H) (hide (hid m (δ.set i (.ml p es))) H') := fun a o z => by
  obtain ⟨c, z⟩ := hide_in z
  have ne : a ≠ p := fun q => c (.inr ⟨i, ds, by rw [q]; exact h⟩)
  have nq : ¬ hid m (δ.set i (.ml p es)) a := fun q => c ((hid_chg h).mp q)
  rcases e a o (by rw [erase_ne ne]; exact z) with y | ⟨t, y⟩
  · exact .inl (hide_some nq (by rw [erase_ne ne] at y; exact y))
  · refine .inr ⟨t, ?_⟩
    obtain ⟨ps, y1, y2, y3⟩ := y
    have up : ∀ b u, erase p H' b = some u → ¬ (∃ xs, u = .lst xs) → hide (hid m (δ.set i (.ml p es))) H' b = some u := fun b u q nl => by
      have nb : b ≠ p := fun z => by rw [z, erase_at] at q; cases q
      have q2 : H' b = some u := by rw [erase_ne nb] at q; exact q
      refine hide_some (fun w => nl ?_) q2
      have w := (hid_chg h).mp w
      have there : H b ≠ none := fun z => not_hid I z w
      cases r : H b with
      | none => exact absurd r there
      | some v =>
        obtain ⟨xs, rfl⟩ := I.lists b v w r
        have s := e.at (show erase p H b = some (.lst xs) by rw [erase_ne nb]; exact r) nt_lst
        rw [q] at s
        exact ⟨xs, Option.some.inj s⟩
    refine ⟨ps, up _ _ y1 (fun ⟨xs, z⟩ => nomatch z), y2, fun q hq pos cv hc => ?_⟩
    obtain ⟨c, e1, e2⟩ := y3 q hq pos cv hc
    exact ⟨c, e1, up _ _ e2 fun ⟨xs, z⟩ => by unfold LamX.CodeO at z; cases z⟩
theorem Env3.chg {m : Addr → Prop} {H H' : Hp} {σ : L2.St} {i : Nat} {p : Addr} {xs : List V} {ds es : List PyData} (I : Env3 K m H σ δ) (h : δ[i]? = some (.ml p ds)) (e : Same (erase p H) (erase p H')) (hp : H' p = some (.lst xs))
    (r : Da K (hide (hid m δ) (erase p H')) xs es) : Env3 K m H' σ (δ.set i (.ml p es)) := by
  have hm := hide_chg (m := m) (es := es) I h e
  obtain ⟨hσ, np, _⟩ := I.ml i p ds h
  have up : ∀ a o, a ≠ p → ¬ IsTb o → H a = some o → H' a = some o := fun a o ne n z => by
    have y := e.at (show erase p H a = some o by rw [erase_ne ne]; exact z) n
    rw [erase_ne ne] at y
    exact y
  have nta : ∀ a o, m a → H a = some o → ¬ IsTb o := fun a o ha h => I.tab.no a o ha h
  have r' : Da K (hide (hid m (δ.set i (.ml p es))) H') xs es := r.mono fun a o z => by
    obtain ⟨c, z⟩ := hide_in z
    exact .inl (hide_some (fun q => c ((hid_chg h).mp q)) (by
      by_cases y : a = p
      · rw [y, erase_at] at z; cases z
      · rw [erase_ne y] at z; exact z))
  refine ⟨by rw [List.length_set, I.len], fun j e2 hj => ?_, fun j q fs hj => ?_, fun j k q fs gs hj hk => ?_, fun a ha => ?_, ⟨fun a o ha y => ?_, fun P hP => ?_⟩⟩
  · rcases set_get hj with ⟨_, e1, _⟩ | ⟨ne, hj⟩
    · cases e1
    · obtain ⟨u, h1, h2⟩ := I.dat j e2 hj
      exact ⟨u, h1, h2.mono hm⟩
  · rcases set_get hj with ⟨rfl, e1, _⟩ | ⟨ne, hj⟩
    · cases e1
      exact ⟨hσ, np, xs, hp, r'⟩
    · obtain ⟨h1, h2, ys, h3, h4⟩ := I.ml j q fs hj
      have nq : q ≠ p := fun z => ne (I.one i j p ds fs h (by rw [← z]; exact hj))
      exact ⟨h1, h2, ys, up _ _ nq nt_lst h3, h4.mono hm⟩
  · have back : ∀ {j : Nat} {fs : List PyData}, (δ.set i (.ml p es))[j]? = some (.ml q fs) → ∃ gs, δ[j]? = some (.ml q gs) := fun {j fs} z => by
      rcases set_get z with ⟨rfl, e1, _⟩ | ⟨ne, z⟩
      · cases e1
        exact ⟨ds, h⟩
      · exact ⟨fs, z⟩
    obtain ⟨a1, b1⟩ := back hj
    obtain ⟨a2, b2⟩ := back hk
    exact I.one j k q a1 a2 b1 b2
  · have ne : a ≠ p := fun z => np (z ▸ ha)
    cases q : H a with
    | none => exact absurd q (I.got a ha)
    | some o =>
      rw [up a o ne (nta a o ha q) q]
      exact fun z => by cases z
  · have ne : a ≠ p := fun z => np (z ▸ ha)
    cases q : H a with
    | none => exact absurd q (I.got a ha)
    | some u =>
      obtain ⟨ys, rfl⟩ := I.tab.ls a u ha q
      have z := up a _ ne nt_lst q
      rw [y] at z
      exact ⟨ys, Option.some.inj z⟩
  · obtain ⟨_, _, ys, hy, _⟩ := I.ml i p ds h
    exact erase_same.tb (e.tb ((I.tab.has P hP).erase hy))
theorem Gw.chg {m : Addr → Prop} {H H' : Hp} {σ : L2.St} {i : Nat} {p : Addr} {ds es : List PyData} (I : Env3 K m H σ δ) (h : δ[i]? = some (.ml p ds)) (e : Same (erase p H) (erase p H')) (k : ∀ a, m a → H' a = H a) : Gw m δ H (δ.set i (.ml p es)) H' :=
  ⟨hide_chg I h e, k⟩
theorem Stay.chg {i : Nat} {p : Addr} {ds es : List PyData} (h : δ[i]? = some (.ml p ds)) : Stay δ (δ.set i (.ml p es)) := fun j q fs z => by
  by_cases c : i = j
  · subst c
    rw [h] at z
    cases z
    exact ⟨es, by rw [List.getElem?_set_self (List.getElem?_eq_some_iff.mp h).1]⟩
  · exact ⟨fs, by rw [List.getElem?_set_ne c]; exact z⟩

/-! ### statements -/
theorem sx_next (q : R.nx δ) : SX K W tNext δ R := fun m H σ I D k1 _ _ _ _ => k1 σ H δ .refl I q
theorem sx_break (q : R.bk δ) : SX K W tBreak δ R := fun m H σ I D _ _ k3 _ _ => k3 σ H δ .refl I q
theorem sx_cont (q : R.ct δ) : SX K W tCont δ R := fun m H σ I D _ _ _ k4 _ => k4 σ H δ .refl I q
theorem sx_seq (h : SX K W t δ (R.nxt fun δ' => SX K W u δ' R)) : SX K W (tSeq t u) δ R := fun m H σ I D k1 k2 k3 k4 k5 =>
  h m H σ I { D with nx := u D } (fun σ' H' δ' g J p => p m H' σ' J D (fun σ2 H2 δ2 g2 J2 q => k1 σ2 H2 δ2 (g.trans g2) J2 q) (fun v w σ2 H2 δ2 g2 J2 o q => k2 v w σ2 H2 δ2 (g.trans g2) J2 o q)
    (fun σ2 H2 δ2 g2 J2 q => k3 σ2 H2 δ2 (g.trans g2) J2 q) (fun σ2 H2 δ2 g2 J2 q => k4 σ2 H2 δ2 (g.trans g2) J2 q) (fun C σ2 H2 δ2 g2 J2 q => k5 C σ2 H2 δ2 (g.trans g2) J2 q)) k2 k3 k4 k5
theorem sx_asg {i : Nat} (h : EX K W te δ (fun w δ' => ∃ d, w = .d d ∧ R.nx (δ'.set i (.dat d))) R.ex) : SX K W (tAsg te (gName i)) δ R := fun m H σ I D k1 k2 k3 k4 k5 =>
  h m H σ I _ (fun v w H' δ' g s J o ⟨d, e, q⟩ => by
    subst e
    exact k1 _ _ _ (g.trans .set_dat) (J.set_dat o) q) (fun C H' δ' g J e => k5 C σ H' δ' g J e)
theorem sx_asgF {i : Nat} (h : FX K W te δ (fun ds δ' => ∀ p, R.nx (δ'.set i (.ml p ds))) R.ex) : SX K W (tAsg te (gName i)) δ R := fun m H σ I D k1 k2 k3 k4 k5 =>
  h m H σ I _ (fun p xs ds H' δ' g s J e r q => k1 _ _ _ (g.trans (.set_ml J)) (J.set_ml e r) (q p)) (fun C H' δ' g J e => k5 C σ H' δ' g J e)
theorem sx_drop (h : EX K W te δ (fun _ δ' => R.nx δ') R.ex) : SX K W (tDrop te) δ R := fun m H σ I D k1 k2 k3 k4 k5 =>
  h m H σ I _ (fun v w H' δ' g s J o q => k1 _ _ _ g J q) (fun C H' δ' g J e => k5 C σ H' δ' g J e)
theorem sx_ret (h : EX K W te δ R.rt R.ex) : SX K W (tRet te) δ R := fun m H σ I D k1 k2 k3 k4 k5 =>
  h m H σ I _ (fun v w H' δ' g s J o q => k2 v w _ _ _ g J o q) (fun C H' δ' g J e => k5 C σ H' δ' g J e)
theorem sx_retN (h : R.rt (.d .none) δ) : SX K W tRetN δ R := fun m H σ I D k1 k2 k3 k4 k5 => k2 .non (.d .none) σ H δ .refl I .non h
theorem sx_if (h : TX K W tt δ (fun b δ' => (b = true → SX K W t δ' R) ∧ (b = false → SX K W u δ' R)) R.ex) : SX K W (tIfS tt t u) δ R := fun m H σ I D k1 k2 k3 k4 k5 =>
  h m H σ I _ (fun b H' δ' g s J ⟨q1, q2⟩ => by
    have go : ∀ {x : TS}, SX K W x δ' R → x D σ H' := fun {x} q => q m H' σ J D (fun σ2 H2 δ2 g2 J2 q => k1 σ2 H2 δ2 (g.trans g2) J2 q) (fun v w σ2 H2 δ2 g2 J2 o q => k2 v w σ2 H2 δ2 (g.trans g2) J2 o q)
      (fun σ2 H2 δ2 g2 J2 q => k3 σ2 H2 δ2 (g.trans g2) J2 q) (fun σ2 H2 δ2 g2 J2 q => k4 σ2 H2 δ2 (g.trans g2) J2 q) (fun C σ2 H2 δ2 g2 J2 q => k5 C σ2 H2 δ2 (g.trans g2) J2 q)
    cases b with
    | true => exact iteT (go (q1 rfl))
    | false => exact iteF (go (q2 rfl))) (fun C H' δ' g J e => k5 C σ H' δ' g J e)
/-- a list of one's own is data from here on -/
theorem sx_freeze {i : Nat} {p : Addr} {ds : List PyData} (h : δ[i]? = some (.ml p ds)) (q : SX K W t (δ.set i (.dat (.list ds))) R) : SX K W t δ R := fun m H σ I D k1 k2 k3 k4 k5 =>
  q m H σ (I.freeze h) D (fun σ2 H2 δ2 g2 J2 q => k1 σ2 H2 δ2 (Gw.freeze.trans g2) J2 q) (fun v w σ2 H2 δ2 g2 J2 o q => k2 v w σ2 H2 δ2 (Gw.freeze.trans g2) J2 o q)
    (fun σ2 H2 δ2 g2 J2 q => k3 σ2 H2 δ2 (Gw.freeze.trans g2) J2 q) (fun σ2 H2 δ2 g2 J2 q => k4 σ2 H2 δ2 (Gw.freeze.trans g2) J2 q) (fun C σ2 H2 δ2 g2 J2 q => k5 C σ2 H2 δ2 (Gw.freeze.trans g2) J2 q)
/-- a slot that is not asked any more -/
theorem Env3.drop {m : Addr → Prop} {H : Hp} {σ : L2.St} {i : Nat} (I : Env3 K m H σ δ) (v : Option V) : Env3 K m H (σ.set i v) (δ.set i .no) := by
  have hm := hide_set (m := m) (δ := δ) (H := H) (i := i) (s := .no) (fun _ _ z => nomatch z)
  refine ⟨by rw [List.length_set, List.length_set, I.len], fun j e hj => ?_, fun j p ds hj => ?_, fun j k p ds es hj hk => ?_, I.got, I.tab⟩
  · rcases set_get hj with ⟨_, e1, _⟩ | ⟨ne, hj⟩
    · cases e1
    · obtain ⟨u, h1, h2⟩ := I.dat j e hj
      exact ⟨u, by rw [List.getElem?_set_ne ne]; exact h1, h2.mono hm⟩
  · rcases set_get hj with ⟨_, e1, _⟩ | ⟨ne, hj⟩
    · cases e1
    · obtain ⟨h1, h2, ys, h3, h4⟩ := I.ml j p ds hj
      exact ⟨by rw [List.getElem?_set_ne ne]; exact h1, h2, ys, h3, h4.mono hm⟩
  · rcases set_get hj with ⟨_, e1, _⟩ | ⟨ne, hj⟩
    · cases e1
    · rcases set_get hk with ⟨_, e1, _⟩ | ⟨ne2, hk⟩
      · cases e1
      · exact I.one j k p ds es hj hk
/-- less is known -/
def Less (δ δ' : Sto) : Prop := δ'.length = δ.length ∧ ∀ (i : Nat), δ'[i]? = δ[i]? ∨ δ'[i]? = some .no
theorem Env3.less {m : Addr → Prop} {H : Hp} {σ : L2.St} {δ' : Sto} (I : Env3 K m H σ δ) (h : Less δ δ') : Env3 K m H σ δ' ∧ Same (hide (hid m δ) H) (hide (hid m δ') H) := by
  have back : ∀ {i : Nat} {s : Sl}, δ'[i]? = some s → s ≠ .no → δ[i]? = some s := fun {i s} e n => by
    rcases h.2 i with z | z
    · rw [← z]
      exact e
    · rw [z] at e
      exact absurd (Option.some.inj e).symm n
  have hm : Same (hide (hid m δ) H) (hide (hid m δ') H) := .of fun a o z => by
    obtain ⟨c, z⟩ := hide_in z
    refine hide_some (fun q => c ?_) z
    rcases q with q | ⟨i, ds, q⟩
    · exact .inl q
    · exact .inr ⟨i, ds, back q (fun z => nomatch z)⟩
  refine ⟨⟨by rw [I.len, h.1], fun i d e => ?_, fun i p ds e => ?_, fun i j p ds es a b => I.one i j p ds es (back a fun z => nomatch z) (back b fun z => nomatch z), I.got, I.tab⟩, hm⟩
  · obtain ⟨v, h1, h2⟩ := I.dat i d (back e fun z => nomatch z)
    exact ⟨v, h1, h2.mono hm⟩
  · obtain ⟨h1, h2, xs, h3, h4⟩ := I.ml i p ds (back e fun z => nomatch z)
    exact ⟨h1, h2, xs, h3, h4.mono hm⟩
theorem sx_less {δ' : Sto} (h : Less δ δ') (q : SX K W t δ' R) : SX K W t δ R := fun m H σ I D k1 k2 k3 k4 k5 => by
  obtain ⟨J, sm⟩ := I.less h
  have g0 : Gw m δ H δ' H := ⟨sm, fun _ _ => rfl⟩
  exact q m H σ J D (fun σ2 H2 δ2 g2 J2 q => k1 σ2 H2 δ2 (g0.trans g2) J2 q) (fun v w σ2 H2 δ2 g2 J2 o q => k2 v w σ2 H2 δ2 (g0.trans g2) J2 o q)
    (fun σ2 H2 δ2 g2 J2 q => k3 σ2 H2 δ2 (g0.trans g2) J2 q) (fun σ2 H2 δ2 g2 J2 q => k4 σ2 H2 δ2 (g0.trans g2) J2 q) (fun C σ2 H2 δ2 g2 J2 q => k5 C σ2 H2 δ2 (g0.trans g2) J2 q)
/-- a, b = e -/
def setAll : Sto → List Nat → List PyData → Sto
  | δ, i :: is, d :: ds => setAll (δ.set i (.dat d)) is ds
  | δ, _, _ => δ
def gNames : List Nat → TGs
  | [] => gNil
  | i :: is => gCons (gName i) (gNames is)
theorem names_go {D : L2.St → Hp → Prop} : ∀ (is : List Nat) (ds : List PyData) (xs : List V) (m : Addr → Prop) (H : Hp) (σ : L2.St) (δ : Sto), Env3 K m H σ δ → Da K (hide (hid m δ) H) xs ds → ds.length = is.length →
    (∀ σ' , Gw m δ H (setAll δ is ds) H → Env3 K m H σ' (setAll δ is ds) → D σ' H) → gNames is xs σ H D
  | [], [], _, m, H, σ, δ, I, hr, _, k => by
    cases hr
    exact ⟨rfl, k σ .refl I⟩
  | i :: is, d :: ds, v :: vs, m, H, σ, δ, I, hr, hl, k => by
    cases hr with
    | cons h r =>
      refine ⟨v, vs, rfl, ?_⟩
      refine names_go is ds vs m H (σ.set i (some v)) (δ.set i (.dat d)) (I.set_dat h) (r.mono (hide_set (s := .dat d) (fun _ _ z => nomatch z))) (Nat.succ.inj hl) fun σ' g J => k σ' (Gw.set_dat.trans g) J
  | i :: is, d :: ds, [], m, H, σ, δ, I, hr, hl, k => by cases hr
  | [], d :: ds, _, m, H, σ, δ, I, hr, hl, k => by cases hl
  | i :: is, [], _, m, H, σ, δ, I, hr, hl, k => by cases hl
theorem sx_unpack {n : Nat} {is : List Nat} (h : EX K W te δ (fun w δ' => ∃ ds, w = .d (.tuple ds) ∧ ds.length = n ∧ R.nx (setAll δ' is ds)) R.ex) (hn : is.length = n) : SX K W (tAsg te (gTup K n (gNames is))) δ R := fun m H σ I D k1 k2 k3 k4 k5 =>
  h m H σ I _ (fun v w H' δ' g s J o ⟨ds, e, hl, q⟩ => by
    subst e
    obtain ⟨a, xs, rfl, hs, r⟩ := dd_tup o
    refine ⟨a, xs, rfl, Same.tup hide_same hs, by rw [r.length, hl], ?_⟩
    exact names_go is ds xs m H' σ δ' J r (by rw [hl, hn]) fun σ' g' J' => k1 σ' H' _ (g.trans g') J' q) (fun C H' δ' g J e => k5 C σ H' δ' g J e)
end
end M3
namespace M3
open PySem PySem.Spec PyProof.Rows L2
variable [NmC]

/-! ### a def's promise where nothing is being shown (no repr runs) -/
structure FnG (P : Program) (w : World) (K : PySem.W.Frag) (mg : Str → Option Value) (base : Heap) (k : Nat) (f : Addr) (fd : FuncData) (ps : List Str) (sp : Sp) : Prop where
  len : ∀ vs H Q E, sp vs H Q E → vs.length = ps.length
  run : ∀ (A : Around) (outer : List Env) (s : Shared) (H : Hp) (args : Args) (us : List Value) (vs : List V) (Q : VK) (E : XK), A.guards = some [] → Room k A → Env0 P w K mg base A outer s H →
    BindsTo s fd args (ps.zip us) → Vals vs us → sp vs H Q E → codeAny (model P w) A (.call (.ref f) args) (CR (L2.CX P w) outer P w H s Q E) s
section
variable {P : Program} {w : World} {K : PySem.W.Frag} {mg : Str → Option Value} {base : Heap} {k : Nat} {f : Addr} {fd : FuncData} {ps N : List Str} {sp sp' : Sp}
theorem FnG.up {j : Nat} (F : FnG P w K mg base j f fd ps sp) (h : j ≤ k) : FnG P w K mg base k f fd ps sp :=
  ⟨F.len, fun A outer s H args us vs Q E g hr => F.run A outer s H args us vs Q E g (hr.mono h)⟩
theorem FnG.weak (F : FnG P w K mg base k f fd ps sp) (h : ∀ vs H Q E, sp' vs H Q E → sp vs H Q E) : FnG P w K mg base k f fd ps sp' :=
  ⟨fun vs H Q E q => F.len vs H Q E (h _ _ _ _ q), fun A outer s H args us vs Q E g hr e b v q => F.run A outer s H args us vs Q E g hr e b v (h _ _ _ _ q)⟩
/-- the context in which a body runs -/
abbrev bodyX (P : Program) (w : World) (K : PySem.W.Frag) (mg : Str → Option Value) (base : Heap) (N : List Str) (qual : Str) (st : Stmt) (f : Addr) (cdv : Value) (A : Around) (outer : List Env) (s : Shared) (H : Hp) (E : XK) : Cx :=
  cxOf (L2.CX P w) P w K mg base N qual (defScope st) f cdv A outer s H E
/-- a def of the text as it stands behind the top, whatever its defaults are -/
structure Fd (K : PySem.W.Frag) (x qual : Str) (st : Stmt) (f : Addr) (fd : FuncData) : Prop where
  ex : ∃ (oc : Value) (od : Option Addr) (dV kV doc pm : Value) (an : Option Addr) (cdv ct : Value) (osl : Array (Option Value)),
    fd = PySem.W.fnOf x qual (defArgs st) (defBody st) (defScope st) dV kV doc pm an cdv ct ∧ K.lookup f = some ⟨oc, od, .func fd, osl⟩ ∧ PySem.W.codeIn K cdv qual = true
  kp : PySem.W.keepIn K (.ref f) = true
theorem fd_mk {x qual : Str} {st : Stmt} {oc : Value} {od an : Option Addr} {osl : Array (Option Value)} {dV kV doc pm cdv ct : Value} (l : K.lookup f = some ⟨oc, od, .func (PySem.W.fnOf x qual (defArgs st) (defBody st) (defScope st) dV kV doc pm an cdv ct), osl⟩)
    (c : PySem.W.codeIn K cdv qual = true) (k : PySem.W.keepIn K (.ref f) = true) : Fd K x qual st f (PySem.W.fnOf x qual (defArgs st) (defBody st) (defScope st) dV kV doc pm an cdv ct) :=
  ⟨⟨oc, od, dV, kV, doc, pm, an, cdv, ct, osl, rfl, l, c⟩, k⟩
theorem bodyK {N : List Str} {qual : Str} {st : Stmt} {cdv : Value} {A : Around} {outer : List Env} {s : Shared} {H : Hp} {E : XK} : (bodyX P w K mg base N qual st f cdv A outer s H E).K = K := rfl
/-- cdv is the code object of the def at f -/
def CodeIs (K : PySem.W.Frag) (f : Addr) (cdv : Value) : Prop := ∃ (o : Obj) (fd : FuncData), K.lookup f = some o ∧ o.data = .func fd ∧ fd.code = cdv
theorem fn_bodyC {x qual : Str} {st : Stmt} (F : Fd K x qual st f fd) (S : FnScope N ps (defScope st)) (len : ∀ vs H Q E, sp vs H Q E → vs.length = ps.length)
    (body : ∀ (cdv : Value), CodeIs K f cdv → ∀ (A : Around) (outer : List Env) (s : Shared) (H : Hp) (vs : List V) (Q : VK) (E : XK), A.guards = some [] → Room k (A.deeper (envOfC qual (defScope st) s.heap.objs.size f cdv)) → sp vs H Q E →
      ∃ t, PSs (bodyX P w K mg base N qual st f cdv A outer s H E) (defBody st) t ∧ t { nx := fun _ H' => Q .non H', rt := Q } (start N vs) H) : FnG P w K mg base (k + 1) f fd ps sp := by
  obtain ⟨oc, od, dV, kV, doc, pm, an, cdv, ct, osl, e, lk, hcd⟩ := F.ex
  subst e
  refine ⟨len, fun A outer s H args us vs Q E hgd hr e0 hb hvs hsp => ?_⟩
  have old : ∀ b o, base.get? b = some o → s.heap.get? b = some o := fun b o e => (e0.bs b o e).1
  have hkd : ∀ y ∈ ps.zip us, (defScope st).names.lookup y.1 = some .local ∨ ((defScope st).names.lookup y.1 = some .cell ∧ ((cellsFrom (s.heap.objs.size + 1) (defScope st).names []).lookup y.1).isSome = true) := by
    rintro ⟨n, v⟩ hy
    cases S.par n (List.of_mem_zip hy).1 with
    | inl q => exact .inl q
    | inr q => exact .inr ⟨q, PySem.W.cellsFrom_some _ _ _ (.inl q)⟩
  refine codeAny_call_function hr.depth ((e0.mod.kin.keeps old) _ _ lk) rfl S.co S.gen rfl (PySem.W.codeRec_of (e0.mod.kin.keeps old) hcd) (hb _ _ _ _ ?_)
  refine wpAny_newFunctionEnv_cells S.kind hkd fun env he s1 x => ?_
  cases he
  obtain ⟨t, ht, hq⟩ := body cdv ⟨_, _, lk, rfl, rfl⟩ A outer s H vs Q E hgd (hr.deeper _) hsp
  refine ⟨(e0.mod.nolimit.keeps old).keeps x.toInCall.keep, codeAny_func ?_⟩
  have I0 := inv_start (CX := L2.CX P w) (E := E) S hr.hd e0 (len _ _ _ _ hsp) hvs x
  refine wpAny_mono (ht.run [] s1 (start N vs) H _ I0 hq) (fun fl s' hs => ?_) (fun _ _ z => z)
  cases fl with
  | brk => obtain ⟨_, _, _, q⟩ := hs; exact q.elim
  | cont => obtain ⟨_, _, _, q⟩ := hs; exact q.elim
  | next =>
    obtain ⟨σ', H', J, q⟩ := hs
    exact ⟨V.non, H', J.os, J.bare, J.base, J.hok, rfl, q⟩
  | ret u =>
    obtain ⟨v, σ', H', J, rv, q⟩ := hs
    exact ⟨v, H', J.os, J.bare, J.base, J.hok, rv, q⟩
theorem fn_body {x qual : Str} {st : Stmt} (F : Fd K x qual st f fd) (S : FnScope N ps (defScope st)) (len : ∀ vs H Q E, sp vs H Q E → vs.length = ps.length)
    (body : ∀ (cdv : Value) (A : Around) (outer : List Env) (s : Shared) (H : Hp) (vs : List V) (Q : VK) (E : XK), A.guards = some [] → Room k (A.deeper (envOfC qual (defScope st) s.heap.objs.size f cdv)) → sp vs H Q E →
      ∃ t, PSs (bodyX P w K mg base N qual st f cdv A outer s H E) (defBody st) t ∧ t { nx := fun _ H' => Q .non H', rt := Q } (start N vs) H) : FnG P w K mg base (k + 1) f fd ps sp := fn_bodyC F S len fun cdv _ => body cdv
end

/-! ### calls -/
section
variable {X : Cx} {k : Nat} {f : Addr} {fd : FuncData} {ps : List Str} {sp : Sp} {E : L2.St → XK} {x : Str} {p pos : Pos} {e : Expr} {es : List Expr} {t : TA} {dvs : List V} {ds : List Value}
/-- f(e, ..), written defaults dvs behind -/
def tCallG (sp : Sp) (dvs : List V) (E : L2.St → XK) (t : TA) : TE := fun σ H Q => t σ H fun vs H1 => sp (vs ++ dvs) H1 Q (E σ)
theorem run_G {pins : List (Addr × Obj)} {σ : L2.St} {H : Hp} {s : Shared} {Q : VK} {us : List Value} {vs : List V} (F : FnG X.prog X.w X.K X.mg X.base k f fd ps sp) (hgd : X.A.guards = some []) (hr : Room k X.A) (hb : Binds X.K fd ps ds) (hd : Vals dvs ds)
    (hx : PassesAt (L2.CX X.prog X.w) X σ (E σ)) (I : Inv X pins σ H s) (r : Vals vs us) (h : sp (vs ++ dvs) H Q (E σ)) : wpAny (model X.prog X.w) X.A (call (.ref f) us) (EP X pins σ Q) X.xe s := by
  have r2 := r.append hd
  have hl : (us ++ ds).length = ps.length := r2.length.symm.trans (F.len _ _ _ _ h)
  refine wpAny_call (codeAny_mono (F.run X.A X.stack s H ⟨us, []⟩ (us ++ ds) _ Q (E σ) hgd hr I.env0 (hb s us I.kIn hl) r2 h) ?_)
  rintro (er | fl) s' hq
  · exact hx pins H s er s' I hq
  · cases fl with
    | ret u => exact I.after hq
    | next => exact hq.elim
    | brk => exact hq.elim
    | cont => exact hq.elim
theorem pe_G (F : FnG X.prog X.w X.K X.mg X.base k f fd ps sp) (hgd : X.A.guards = some []) (hr : Room k X.A) (hg : Gl X x) (hm : X.mg x = some (.ref f)) (hk : PySem.W.keepIn X.K (.ref f) = true) (hb : Binds X.K fd ps ds) (hd : Vals dvs ds)
    (hx : ∀ σ, PassesAt (L2.CX X.prog X.w) X σ (E σ)) (ha : PA X (e :: es) t) (hdb : (x == ("__debug__" : Str)) = false := by decide) (he : starEach (e :: es) X.env = (false, eval e X.env) :: starEach es X.env := by rfl)
    (hpl : (backTo pos (starEach es X.env)).any (·.1) = false := by rfl) : PE X (.Call (.Name x p) (e :: es) [] pos) (tCallG sp dvs E t) :=
  ⟨fun pins s σ H Q I h => wpAny_Call_Name_kw (ld_glob I hg hm (PySem.W.callWith_K (h₀ := X.base) I.ok.mod.kin hk
    (thn (ha.run pos pins s σ H _ I h) fun us s1 ⟨vs, H1, I1, r, q⟩ => ⟨I1.kIn, run_G F hgd hr hb hd (hx σ) I1 r q⟩) he hpl) hdb)⟩
/-- a call where nothing may leave (in a comprehension) -/
theorem noPass {X : Cx} (σ : L2.St) : PassesAt (L2.CX X.prog X.w) X σ (fun _ _ _ => False) := fun _ _ _ _ _ _ h => by
  obtain ⟨_, _, _, _, _, _, _, _, _, _, _, _, z⟩ := h
  exact z.elim
end

/-! ### promises over data -/
/-- a def of data: it is called with enc a for an a with pre a; post tells what comes back, exn what is raised -/
def spD (K : PySem.W.Frag) {α : Type} (n : Nat) (enc : α → List PyData) (pre : α → Prop) (post : α → PyData → Prop) (exn : α → Value → Prop) : Sp := fun vs H Q E =>
  ∃ (m : Addr → Prop) (a : α), (∀ x, m x → H x ≠ none) ∧ TabI K m H ∧ Da K (hide m H) vs (enc a) ∧ (enc a).length = n ∧ pre a ∧ (∀ v d H', Same H H' → Dd K (hide m H') v d → post a d → Q v H') ∧
    ∀ C H', Same H H' → exn a C → E C none H'
/-- a def whose first argument is a list that it may change: es its items ahead, fs behind -/
def spM (K : PySem.W.Frag) {α : Type} (n : Nat) (enc : α → List PyData) (pre : List PyData → α → Prop) (post : List PyData → α → PyData → List PyData → Prop) : Sp := fun vs H Q _ =>
  ∃ (m : Addr → Prop) (p : Addr) (vr xs : List V) (es : List PyData) (a : α), vs = .ref p :: vr ∧ (∀ x, m x → H x ≠ none) ∧ TabI K m H ∧ ¬ m p ∧ H p = some (.lst xs) ∧ Da K (hide m (erase p H)) xs es ∧ Da K (hide m (erase p H)) vr (enc a) ∧ (enc a).length = n ∧ pre es a ∧
    ∀ v d ys fs H', Same (hide m (erase p H)) (hide m (erase p H')) → (∀ x, m x → H' x = H x) → H' p = some (.lst ys) → Da K (hide m (erase p H')) ys fs → Dd K (hide m (erase p H')) v d → post es a d fs → Q v H'
section
variable {K : PySem.W.Frag} {W : WX} {δ : Sto} {ex : XP} {P : Vw → Sto → Prop} {t : TA} {n : Nat} {α : Type} {enc : α → List PyData} {pre : α → Prop} {post : α → PyData → Prop} {exn : α → Value → Prop}
theorem got_hid {m : Addr → Prop} {H : Hp} {σ : L2.St} (I : Env3 K m H σ δ) : ∀ a, hid m δ a → H a ≠ none := fun a h z => not_hid I z h
theorem tab_hid {m : Addr → Prop} {H : Hp} {σ : L2.St} (I : Env3 K m H σ δ) : TabI K (hid m δ) H := ⟨fun a o h e => by
    rcases h with h | ⟨i, ds, h⟩
    · exact I.tab.ls a o h e
    · obtain ⟨_, _, xs, hx, _⟩ := I.ml i a ds h
      rw [hx] at e
      exact ⟨xs, (Option.some.inj e).symm⟩, I.tab.has⟩
theorem da_defaults {H : Hp} {dvs : List V} {dds : List PyData} (h : ∀ H, Da K H dvs dds) : Da K H dvs dds := h H
theorem ex_call {dvs : List V} {dds : List PyData} (hd : ∀ H, Da K H dvs dds)
    (h : AX K W t δ (fun ws δ' => ∃ (ds : List PyData) (a : α), ws = ds.map .d ∧ enc a = ds ++ dds ∧ (enc a).length = n ∧ pre a ∧ (∀ d, post a d → P (.d d) δ') ∧ (∀ C, exn a C → ex C δ')) ex) :
    EX K W (tCallG (spD K n enc pre post exn) dvs (WE W) t) δ P ex := fun m H σ I Q k k2 =>
  h m H σ I _ (fun vs ws H1 δ1 g1 s1 I1 o1 ⟨ds, a, e, ea, hl, hp, q, q2⟩ => by
    subst e
    exact ⟨hid m δ1, a, got_hid I1, tab_hid I1, by rw [ea]; exact (da_of o1).append (hd _), hl, hp, fun v d H' sm dd pd => k v (.d d) H' δ1 (g1.trans (.of_same I1 sm)) s1 (I1.same sm) dd (q d pd),
      fun C H' sm ee => k2 C H' δ1 (g1.trans (.of_same I1 sm)) (I1.same sm) (q2 C ee)⟩) k2
/-- the same in a comprehension: nothing may be raised -/
theorem ex_call0 {dvs : List V} {dds : List PyData} (hd : ∀ H, Da K H dvs dds)
    (h : AX K W t δ (fun ws δ' => ∃ (ds : List PyData) (a : α), ws = ds.map .d ∧ enc a = ds ++ dds ∧ (enc a).length = n ∧ pre a ∧ (∀ d, post a d → P (.d d) δ') ∧ (∀ C, ¬ exn a C)) ex) :
    EX K W (tCallG (spD K n enc pre post exn) dvs (fun _ _ _ _ => False) t) δ P ex := fun m H σ I Q k k2 =>
  h m H σ I _ (fun vs ws H1 δ1 g1 s1 I1 o1 ⟨ds, a, e, ea, hl, hp, q, q2⟩ => by
    subst e
    exact ⟨hid m δ1, a, got_hid I1, tab_hid I1, by rw [ea]; exact (da_of o1).append (hd _), hl, hp, fun v d H' sm dd pd => k v (.d d) H' δ1 (g1.trans (.of_same I1 sm)) s1 (I1.same sm) dd (q d pd),
      fun C H' sm ee => (q2 C ee).elim⟩) k2
theorem hide_erase {m : Addr → Prop} {i : Nat} {p : Addr} {ds : List PyData} {H : Hp} (h : δ[i]? = some (.ml p ds)) : hide (hid m δ) (erase p H) = hide (hid m δ) H := by
  funext a
  by_cases c : hid m δ a
  · unfold hide
    rw [if_pos c, if_pos c]
  · have ne : a ≠ p := fun z => c (.inr ⟨i, ds, by rw [z]; exact h⟩)
    rw [hide_of c, hide_of c, erase_ne ne]
theorem sub_hide {m : Addr → Prop} {δ : Sto} {H : Hp} : Same (hide (hid m δ) H) (hide m H) := .of fun a o z => by
  obtain ⟨c, z⟩ := hide_in z
  exact hide_some (fun q => c (.inl q)) z
/-- hidden from a callee that has the list at p: all else of one's own -/
def hidBut (m : Addr → Prop) (δ : Sto) (p : Addr) : Addr → Prop := fun a => hid m δ a ∧ a ≠ p
theorem hide_but {m : Addr → Prop} {i : Nat} {p : Addr} {ds : List PyData} {H : Hp} (h : δ[i]? = some (.ml p ds)) : hide (hidBut m δ p) (erase p H) = hide (hid m δ) H := by
  funext a
  by_cases c : a = p
  · subst c
    have h1 : hid m δ a := .inr ⟨i, ds, h⟩
    have h2 : ¬ hidBut m δ a a := fun z => z.2 rfl
    rw [hide_of h2, erase_at]
    unfold hide
    rw [if_pos h1]
  · by_cases c2 : hid m δ a
    · unfold hide
      rw [if_pos c2, if_pos (show hidBut m δ p a from ⟨c2, c⟩)]
    · rw [hide_of c2, hide_of (fun z => c2 z.1), erase_ne c]
theorem ex_callM {i : Nat} {preM : List PyData → α → Prop} {postM : List PyData → α → PyData → List PyData → Prop} {E : L2.St → XK}
    (h : AX K W t δ (fun ws δ' => ∃ (a : α) (p : Addr) (es : List PyData), ws = .m i :: (enc a).map .d ∧ δ'[i]? = some (.ml p es) ∧ (enc a).length = n ∧ preM es a ∧ ∀ d fs, postM es a d fs → P (.d d) (δ'.set i (.ml p fs))) ex) :
    EX K W (tCallG (spM K n enc preM postM) [] E t) δ P ex := fun m H σ I Q k k2 =>
  h m H σ I _ (fun vs ws H1 δ1 g1 s1 I1 o1 ⟨ds, p, es, e, hi, hl, hp, q⟩ => by
    subst e
    cases o1 with
    | cons hv hr =>
      obtain ⟨p', es', e1, rfl⟩ := hv
      rw [hi] at e1
      cases e1
      obtain ⟨_, np, xs, hx, hxs⟩ := I1.ml i p es hi
      rw [List.append_nil]
      refine ⟨hidBut m δ1 p, p, _, xs, es, ds, rfl, fun a z => got_hid I1 a z.1, ⟨fun a o z e => (tab_hid I1).ls a o z.1 e, (tab_hid I1).has⟩, fun z => z.2 rfl, hx, ?_, ?_, hl, hp, fun v d ys fs H' sm kp hy hys hv2 pq => ?_⟩
      · rw [hide_but hi]
        exact hxs
      · rw [hide_but hi]
        exact da_of hr
      · rw [hide_but hi, hide_but hi] at sm
        rw [hide_but hi] at hys hv2
        have sme : Same (erase p H1) (erase p H') := fun a o z => by
          have ne : a ≠ p := fun q => by rw [q, erase_at] at z; cases z
          rw [erase_ne ne] at z
          by_cases c : hid m δ1 a
          · exact .inl (by rw [erase_ne ne, kp a ⟨c, ne⟩]; exact z)
          · rcases sm a o (hide_some c z) with y | ⟨t, y⟩
            · exact .inl (by rw [erase_ne ne]; exact (hide_in y).2)
            · exact .inr ⟨t, (show Same (hide (hid m δ1) H') (erase p H') from .of fun b u w => by
                obtain ⟨c2, w⟩ := hide_in w
                rw [erase_ne fun q => c2 (.inr ⟨i, es, by rw [q]; exact hi⟩)]
                exact w).tb y⟩
        have g2 : Gw m δ1 H1 (δ1.set i (.ml p fs)) H' := .chg I1 hi sme fun a ha => kp a ⟨.inl ha, fun z => np (z ▸ ha)⟩
        have I2 : Env3 K m H' σ (δ1.set i (.ml p fs)) := I1.chg hi sme hy (by rw [hide_erase hi]; exact hys)
        refine k v (.d d) H' _ (g1.trans g2) (s1.trans (.chg hi)) I2 ?_ (q d fs pq)
        exact Dd.mono (.of fun a o z => by
          obtain ⟨c, z⟩ := hide_in z
          exact hide_some (fun q => c ((hid_chg hi).mp q)) z) hv2) k2
end

/-! ### a def by its body over stores -/
def st0 (n : Nat) (ds : List PyData) : Sto := ds.map .dat ++ List.replicate (n - ds.length) .no
abbrev W0 (E : XK) : WX := fun cls d _ H => E cls d H
section
variable {P : Program} {w : World} {K : PySem.W.Frag} {mg : Str → Option Value} {base : Heap} {k : Nat} {f : Addr} {fd : FuncData} {ps N : List Str}
theorem st0_env {H : Hp} {m : Addr → Prop} {n : Nat} : ∀ {vs : List V} {ds : List PyData}, Da K (hide m H) vs ds → (∀ a, m a → H a ≠ none) → TabI K m H → Env3 K m H (vs.map some ++ List.replicate (n - vs.length) none) (st0 n ds) := fun {vs ds} r got tbi => by
  have hl := r.length
  have noml : ∀ (i : Nat) (p : Addr) (es : List PyData), (st0 n ds)[i]? ≠ some (.ml p es) := fun i p es z => by
    unfold st0 at z
    rw [List.getElem?_append] at z
    split at z
    · rw [List.getElem?_map] at z
      cases q : ds[i]? with
      | none => rw [q] at z; cases z
      | some d => rw [q] at z; cases z
    · rw [List.getElem?_replicate] at z
      split at z <;> cases z
  have hm : Same (hide m H) (hide (hid m (st0 n ds)) H) := .of fun a o z => by
    obtain ⟨c, z⟩ := hide_in z
    refine hide_some (fun q => ?_) z
    rcases q with q | ⟨i, es, q⟩
    · exact c q
    · exact noml _ _ _ q
  refine ⟨?_, fun i d e => ?_, fun i p es e => absurd e (noml i p es), fun i j p es fs e _ => absurd e (noml i p es), got, tbi⟩
  · unfold st0
    rw [List.length_append, List.length_append, List.length_map, List.length_map, List.length_replicate, List.length_replicate, hl]
  · unfold st0 at e
    rw [List.getElem?_append] at e
    split at e
    · rename_i hi
      rw [List.length_map] at hi
      rw [List.getElem?_map] at e
      cases q : ds[i]? with
      | none => rw [q] at e; cases e
      | some d' =>
        rw [q] at e
        cases e
        obtain ⟨v, h1, h2⟩ := r.get q
        refine ⟨v, ?_, h2.mono hm⟩
        rw [List.getElem?_append_left (by rw [List.length_map, hl]; exact hi), List.getElem?_map, h1]
        rfl
    · rw [List.getElem?_replicate] at e
      split at e <;> cases e
theorem fn_dataC {x qual : Str} {st : Stmt} {n : Nat} {α : Type} {enc : α → List PyData} {pre : α → Prop} {post : α → PyData → Prop} {exn : α → Value → Prop} (F : Fd K x qual st f fd) (S : FnScope N ps (defScope st)) (hn : ps.length = n)
    (body : ∀ (cdv : Value), CodeIs K f cdv → ∀ (A : Around) (outer : List Env) (s : Shared) (H : Hp) (E : XK), A.guards = some [] → Room k (A.deeper (envOfC qual (defScope st) s.heap.objs.size f cdv)) →
      ∃ t, PSs (bodyX P w K mg base N qual st f cdv A outer s H E) (defBody st) t ∧ ∀ a, pre a → SX K (W0 E) t (st0 N.length (enc a))
        (RD (post a) (exn a))) : FnG P w K mg base (k + 1) f fd ps (spD K n enc pre post exn) := by
  refine fn_bodyC F S (fun vs H Q E ⟨m, a, _, _, r, hl, _⟩ => by rw [r.length, hl, hn]) fun cdv hcd A outer s H vs Q E hgd hr h => ?_
  obtain ⟨m, a, got, tbi, r, hl, hp, q, q2⟩ := h
  obtain ⟨t, ht, hb⟩ := body cdv hcd A outer s H E hgd hr
  have I0 : Env3 K m H (start N vs) (st0 N.length (enc a)) := st0_env r got tbi
  have sm : ∀ {H' : Hp} {δ' : Sto}, Gw m (st0 N.length (enc a)) H δ' H' → Same H H' := fun {H' δ'} g b o z => by
    by_cases c : m b
    · exact .inl (by rw [g.keep b c]; exact z)
    · have no : ¬ hid m (st0 N.length (enc a)) b := fun y => by
        rcases y with y | ⟨i, es, y⟩
        · exact c y
        · obtain ⟨z1, _⟩ := I0.ml i b es y
          unfold st0 at y
          rw [List.getElem?_append] at y
          split at y
          · rw [List.getElem?_map] at y
            cases q : (enc a)[i]? with
            | none => rw [q] at y; cases y
            | some d => rw [q] at y; cases y
          · rw [List.getElem?_replicate] at y
            split at y <;> cases y
      rcases g.same b o (hide_some no z) with y | ⟨t, y⟩
      · exact .inl (hide_in y).2
      · exact .inr ⟨t, hide_same.tb y⟩
  exact ⟨t, ht, hb a hp m H (start N vs) I0 _ (fun σ' H' δ' g J pp => q .non .none H' (sm g) .non pp) (fun v w σ' H' δ' g J o ⟨d, e, pp⟩ => by
    subst e
    exact q v d H' (sm g) (Dd.mono sub_hide o) pp) (fun _ _ _ _ _ z => z.elim) (fun _ _ _ _ _ z => z.elim) fun C σ' H' δ' g J e => q2 C H' (sm g) e⟩
theorem fn_data {x qual : Str} {st : Stmt} {n : Nat} {α : Type} {enc : α → List PyData} {pre : α → Prop} {post : α → PyData → Prop} {exn : α → Value → Prop} (F : Fd K x qual st f fd) (S : FnScope N ps (defScope st)) (hn : ps.length = n)
    (body : ∀ (cdv : Value) (A : Around) (outer : List Env) (s : Shared) (H : Hp) (E : XK), A.guards = some [] → Room k (A.deeper (envOfC qual (defScope st) s.heap.objs.size f cdv)) →
      ∃ t, PSs (bodyX P w K mg base N qual st f cdv A outer s H E) (defBody st) t ∧ ∀ a, pre a → SX K (W0 E) t (st0 N.length (enc a))
        (RD (post a) (exn a))) : FnG P w K mg base (k + 1) f fd ps (spD K n enc pre post exn) := fn_dataC F S hn fun cdv _ => body cdv
end
end M3
namespace M3
open PySem PySem.Spec PyProof.Rows L2
variable [NmC]

/-! ### rules of one's own over the layer -/
section
variable {X : Cx}
theorem op_fdX : OpR X (binaryOp .FloorDiv) (rI (fun _ j => j ≠ 0 ∧ j.natAbs.log2 < 9000) fun i j => .int (i.fdiv j)) :=
  opI fun i j _ _ _ _ _ hc q => floordiv_int hc.1 q (.inl (PyProof.noPylong_of_log2 hc.2))
end
/-- what a value of data is called -/
def tyN : PyData → String
  | .none => "NoneType"
  | .bool _ => "bool"
  | .int _ => "int"
  | .str _ => "str"
  | .list _ => "list"
  | .tuple _ => "tuple"
  | .dict _ => "dict"
section
variable {K : PySem.W.Frag} {W : WX} {δ : Sto} {ex : XP} {post : Vw → Sto → Prop} {ta tb tc te : TE} {tt tu : TT} {R : Ends3} {t u : TS} {H : Hp}
theorem tyX_of {v : V} {d : PyData} (h : Dd K H v d) : TyX K H v (.type (tyN d)) := by
  cases h with
  | non => exact .base .non
  | bl b => exact .base (.bl b)
  | int i => exact .base (.int i)
  | str x => exact .base (.str x)
  | lst h r =>
    rcases h with (h | ⟨o, h⟩) | ⟨o, its, n, h, c, _⟩
    · exact .base (.lst h)
    · exact .base (.frz h)
    · exact .kList h c
  | dK h r => exact .base (.dK h)
  | dT h r => exact .base (.dT h)
  | tup h r =>
    rcases h with (h | ⟨o, h⟩) | ⟨o, its, n, h, c, _⟩
    · exact .base (.tup h)
    · exact .fTuple h
    · exact .kTuple h c
mutual
theorem dp_of : ∀ {v : V} {d : PyData}, Dd K H v d → d.canLay0 = true → Dp K H v d
  | _, _, .non, _ => .non
  | _, _, .bl b, _ => .bl b
  | _, _, .int i, _ => .int i
  | _, _, .str x, _ => .str x
  | _, _, .lst h r, c => .lst h (dpAll_of r (by simpa only [PyData.canLay0] using c))
  | _, _, .tup h r, c => .tup h (dpAll_of r (by simpa only [PyData.canLay0] using c))
  | _, _, .dK h r, c => by simp only [PyData.canLay0] at c; cases c
  | _, _, .dT h r, c => by simp only [PyData.canLay0] at c; cases c
theorem dpAll_of : ∀ {v : List V} {d : List PyData}, Da K H v d → PyData.canLayAll0 d = true → DpAll K H v d
  | _, _, .nil, _ => .nil
  | _, _, .cons h r, c => by
    simp only [PyData.canLayAll0, Bool.and_eq_true] at c
    exact .cons (dp_of h c.1) (dpAll_of r c.2)
end
/-! ### calls by values -/
def VX (K : PySem.W.Frag) (r : List V → Hp → VK → Prop) (ws : List Vw) (δ : Sto) (post : Vw → Sto → Prop) : Prop :=
  ∀ (m : Addr → Prop) (H : Hp) (σ : L2.St) (vs : List V), Env3 K m H σ δ → VwAll K m H δ vs ws → ∀ Q : VK,
    (∀ v w H', Same H H' → VwOk K m H' δ v w → post w δ → Q v H') → r vs H Q
theorem ex_CB {r : List V → Hp → VK → Prop} {t : TA} (h : AX K W t δ (fun ws δ' => VX K r ws δ' post) ex) : EX K W (tCB r t) δ post ex :=
  fun m H σ I Q k k2 => h m H σ I _ (fun vs ws H1 δ1 g1 s1 I1 o1 hr => hr m H1 σ vs I1 o1 Q fun v w H3 e o p => k v w H3 δ1 (g1.trans (.of_same I1 e)) s1 (I1.same e) o p) k2
theorem ex_cv {v : V} (q : post (.v v) δ) : EX K W (tC v) δ post ex := fun m H σ I Q k _ => k v (.v v) H δ .refl (.refl δ) I rfl q
theorem vw1 {m : Addr → Prop} {vs : List V} {w : Vw} (h : VwAll K m H δ vs [w]) : ∃ v, vs = [v] ∧ VwOk K m H δ v w := by
  cases h with
  | cons h r => cases r; exact ⟨_, rfl, h⟩
theorem vw2 {m : Addr → Prop} {vs : List V} {w x : Vw} (h : VwAll K m H δ vs [w, x]) : ∃ v u, vs = [v, u] ∧ VwOk K m H δ v w ∧ VwOk K m H δ u x := by
  cases h with
  | cons h r =>
    obtain ⟨u, rfl, h2⟩ := vw1 r
    exact ⟨_, _, rfl, h, h2⟩
theorem tyX_hide {m : Addr → Prop} {v : V} {d : PyData} (h : Dd K (hide m H) v d) : TyX K H v (.type (tyN d)) := tyX_of (h.mono hide_same)
theorem vx_isi {d : PyData} {T : String} {b : Bool} (e : kitB (tyN d) T = some b) (q : post (.d (.bool b)) δ) : VX K (rIsi K) [.d d, .v (.ty T)] δ post := fun m H σ vs I h Q k => by
  obtain ⟨v, u, rfl, h1, h2⟩ := vw2 h
  cases (show u = V.ty T from h2)
  exact ⟨v, .ty T, .type (tyN d), .type T, b, rfl, .ty T, tyX_hide h1, kit_ty e, k _ (.d (.bool b)) H (.refl H) (.bl b) q⟩
abbrev rLenS (K : PySem.W.Frag) : List V → Hp → VK → Prop := fun xs H Q => ∃ p ys, xs = [.ref p] ∧ (SqL K H p ys ∨ SqT K H p ys) ∧ Q (.int ys.length) H
theorem vx_lenT {ds : List PyData} (q : post (.d (.int ds.length)) δ) : VX K (rLenS K) [.d (.tuple ds)] δ post := fun m H σ vs I h Q k => by
  obtain ⟨v, rfl, h1⟩ := vw1 h
  obtain ⟨a, xs, rfl, hs, r⟩ := dd_tup h1
  refine ⟨a, xs, rfl, .inr (Same.tup hide_same hs), k _ (.d (.int ds.length)) H (.refl H) ?_ q⟩
  rw [← r.length]
  exact .int _
theorem vx_lenL {ds : List PyData} (q : post (.d (.int ds.length)) δ) : VX K (rLenS K) [.d (.list ds)] δ post := fun m H σ vs I h Q k => by
  obtain ⟨v, rfl, h1⟩ := vw1 h
  obtain ⟨a, xs, rfl, hs, r⟩ := dd_lst h1
  refine ⟨a, xs, rfl, .inl (Same.seq hide_same hs), k _ (.d (.int ds.length)) H (.refl H) ?_ q⟩
  rw [← r.length]
  exact .int _
theorem vx_lenM {i : Nat} {p : Addr} {ds : List PyData} (hi : δ[i]? = some (.ml p ds)) (q : post (.d (.int ds.length)) δ) : VX K (rLenS K) [.m i] δ post := fun m H σ vs I h Q k => by
  obtain ⟨v, rfl, p', ds', e, rfl⟩ := vw1 h
  rw [hi] at e
  cases e
  obtain ⟨_, _, xs, hp, r⟩ := I.ml i p ds hi
  refine ⟨p, xs, rfl, .inl (.inl (.inl hp)), k _ (.d (.int ds.length)) H (.refl H) ?_ q⟩
  rw [← r.length]
  exact .int _
theorem vx_gcd {a b : Int} (q : post (.d (.int ((Nat.gcd a.natAbs b.natAbs : Nat) : Int))) δ) : VX K rGcd [.d (.int a), .d (.int b)] δ post := fun m H σ vs I h Q k => by
  obtain ⟨v, u, rfl, h1, h2⟩ := vw2 h
  cases dd_int h1
  cases dd_int h2
  exact ⟨a, b, rfl, k _ (.d (.int _)) H (.refl H) (.int _) q⟩
abbrev rAbs : List V → Hp → VK → Prop := fun xs H Q => ∃ i, xs = [.int i] ∧ Q (.int (if i < 0 then -i else i)) H
theorem vx_abs {a : Int} (q : post (.d (.int (if a < 0 then -a else a))) δ) : VX K rAbs [.d (.int a)] δ post := fun m H σ vs I h Q k => by
  obtain ⟨v, rfl, h1⟩ := vw1 h
  cases dd_int h1
  exact ⟨a, rfl, k _ (.d (.int _)) H (.refl H) (.int _) q⟩
abbrev rInt1 : List V → Hp → VK → Prop := fun xs H Q => (∃ i, xs = [.int i] ∧ Q (.int i) H) ∨ ∃ k, xs = [.bl k] ∧ Q (.int (if k then 1 else 0)) H
theorem vx_intI {a : Int} (q : post (.d (.int a)) δ) : VX K rInt1 [.d (.int a)] δ post := fun m H σ vs I h Q k => by
  obtain ⟨v, rfl, h1⟩ := vw1 h
  cases dd_int h1
  exact .inl ⟨a, rfl, k _ (.d (.int _)) H (.refl H) (.int _) q⟩
theorem vx_intB {a : Bool} (q : post (.d (.int (if a then 1 else 0))) δ) : VX K rInt1 [.d (.bool a)] δ post := fun m H σ vs I h Q k => by
  obtain ⟨v, rfl, h1⟩ := vw1 h
  cases dd_bool h1
  exact .inr ⟨a, rfl, k _ (.d (.int _)) H (.refl H) (.int _) q⟩

/-! ### == of data -/
theorem rx_eqD {d e : PyData} (h1 : SeqAt.shaped d = true) (h2 : SeqAt.shaped e = true) (q : post (.d (.bool (PyData.eqv d e))) δ) : RX K (rEqD K) (.d d) (.d e) δ post := fun m H σ v1 v2 I o1 o2 Q k =>
  ⟨d, e, dp_of (Dd.mono hide_same o1) (SeqAt.canLay_of_shaped h1), dp_of (Dd.mono hide_same o2) (SeqAt.canLay_of_shaped h2), h1, h2, k _ (.d (.bool _)) H (.refl H) (.bl _) q⟩
theorem rx_neD {d e : PyData} (h1 : SeqAt.shaped d = true) (h2 : SeqAt.shaped e = true) (q : post (.d (.bool (!PyData.eqv d e))) δ) : RX K (rNeD K) (.d d) (.d e) δ post := fun m H σ v1 v2 I o1 o2 Q k =>
  ⟨d, e, dp_of (Dd.mono hide_same o1) (SeqAt.canLay_of_shaped h1), dp_of (Dd.mono hide_same o2) (SeqAt.canLay_of_shaped h2), h1, h2, k _ (.d (.bool _)) H (.refl H) (.bl _) q⟩

/-! ### truth -/
def truD : PyData → Option Bool
  | .none => some false
  | .bool b => some b
  | .int i => some (i != 0)
  | .str x => if x.length ≤ 100000 then some ((x.length : Int) != 0) else none
  | .list xs => some (!xs.isEmpty)
  | .tuple xs => some (!xs.isEmpty)
  | .dict _ => none
theorem truV_of {v : V} {d : PyData} {b : Bool} (h : Dd K H v d) (e : truD d = some b) : TruV K v H b := by
  cases h with
  | non => cases e; rfl
  | bl x => cases e; rfl
  | int i => cases e; rfl
  | str x =>
    simp only [truD] at e
    split at e
    · cases e
      exact ⟨Nat.le_trans ‹_› (by decide), rfl⟩
    · cases e
  | @lst a xs ds h r =>
    cases e
    refine .inl ⟨xs, h, ?_⟩
    cases r <;> rfl
  | @tup a xs ds h r =>
    cases e
    refine .inr (.inl ⟨xs, h, ?_⟩)
    cases r <;> rfl
  | dK h r => cases e
  | dT h r => cases e
theorem ex_orT {b : Bool} (h : EX K W ta δ (fun w δ' => ∃ d b, w = .d d ∧ truD d = some b ∧ (b = true → post (.d d) δ') ∧ (b = false → EX K W tb δ' post ex)) ex) : EX K W (tOrT K ta tb) δ post ex :=
  fun m H σ I Q k k2 => h m H σ I _ (fun v w H' δ' g s J o ⟨d, b, e, tr, q1, q2⟩ => by
    subst e
    refine ⟨b, truV_of (Dd.mono hide_same o) tr, ?_⟩
    cases b with
    | true => exact iteT (k v (.d d) H' δ' g s J o (q1 rfl))
    | false => exact iteF (q2 rfl m H' σ J Q (fun v w H2 δ2 g2 s2 J2 o2 q => k v w H2 δ2 (g.trans g2) (s.trans s2) J2 o2 q) (fun C H2 δ2 g2 J2 e => k2 C H2 δ2 (g.trans g2) J2 e))) k2
theorem ex_andT {b : Bool} (h : EX K W ta δ (fun w δ' => ∃ d b, w = .d d ∧ truD d = some b ∧ (b = false → post (.d d) δ') ∧ (b = true → EX K W tb δ' post ex)) ex) : EX K W (tAndT K ta tb) δ post ex :=
  fun m H σ I Q k k2 => h m H σ I _ (fun v w H' δ' g s J o ⟨d, b, e, tr, q1, q2⟩ => by
    subst e
    refine ⟨b, truV_of (Dd.mono hide_same o) tr, ?_⟩
    cases b with
    | false => exact iteF (k v (.d d) H' δ' g s J o (q1 rfl))
    | true => exact iteT (q2 rfl m H' σ J Q (fun v w H2 δ2 g2 s2 J2 o2 q => k v w H2 δ2 (g.trans g2) (s.trans s2) J2 o2 q) (fun C H2 δ2 g2 J2 e => k2 C H2 δ2 (g.trans g2) J2 e))) k2
def tTru (K : PySem.W.Frag) (ta : TE) : TT := fun σ H Q => ta σ H fun x H' => ∃ k, TruV K x H' k ∧ Q k H'
theorem tx_tru {p : Bool → Sto → Prop} (h : EX K W ta δ (fun w δ' => ∃ d b, w = .d d ∧ truD d = some b ∧ p b δ') ex) : TX K W (tTru K ta) δ p ex :=
  fun m H σ I Q k k2 => h m H σ I _ (fun v w H' δ' g s J o ⟨d, b, e, tr, q⟩ => by
    subst e
    exact ⟨b, truV_of (Dd.mono hide_same o) tr, k b H' δ' g s J q⟩) k2

/-! ### raise, try -/
def tRaise3 (W : WX) (C : Value) : TS := fun _ σ H => (fun (_ : L2.St) (H : Hp) (Q : XK) => Q C none H) σ H fun cls d H' => W cls d σ H'
theorem sx_raise {C : Value} (q : R.ex C δ) : SX K W (fun D σ H => (fun (_ : L2.St) (H : Hp) (Q : XK) => Q C none H) σ H fun cls d H' => W cls d σ H') δ R :=
  fun m H σ I D _ _ _ _ k5 => k5 C σ H δ .refl I q
theorem sx_try {c : Value} {tb : WX → TS} {ts : Addr → Value → Option Addr → TS}
    (h : ∀ W', SX K W' (tb W') δ (R.catch fun C δ' => ∃ b, PySem.W.exmOne K C c = some b ∧ (b = true → ∀ a, SX K W (ts a C none) δ' R) ∧ (b = false → R.ex C δ'))) :
    SX K W (fun D σ H => tb (wOnly K c ts W D) D σ H) δ R := fun m H σ I D k1 k2 k3 k4 k5 =>
  h (wOnly K c ts W D) m H σ I D k1 k2 k3 k4 fun C σ' H' δ' g J ⟨b, e, q1, q2⟩ => ⟨b, e, fun hb a ha => q1 hb a m H' σ' J D (fun σ2 H2 δ2 g2 J2 q => k1 σ2 H2 δ2 (g.trans g2) J2 q) (fun v w σ2 H2 δ2 g2 J2 o q => k2 v w σ2 H2 δ2 (g.trans g2) J2 o q)
      (fun σ2 H2 δ2 g2 J2 q => k3 σ2 H2 δ2 (g.trans g2) J2 q) (fun σ2 H2 δ2 g2 J2 q => k4 σ2 H2 δ2 (g.trans g2) J2 q) (fun C σ2 H2 δ2 g2 J2 q => k5 C σ2 H2 δ2 (g.trans g2) J2 q),
    fun hb => k5 C σ' H' δ' g J (q2 hb)⟩
end
end M3
namespace M3
open PySem PySem.Spec PyProof.Rows L2
theorem pt_tru {X : Cx} {a : Expr} {ta : TE} (ha : PE X a ta) (he : ∀ whole, isTrue a X.env whole = (do let v ← whole; standAt a.pos; holding [v] (truthy v))) : PT X a (tTru X.K ta) := pt_truth ha he
end M3
namespace M3
open PySem PySem.Spec PyProof.Rows L2
variable [NmC]

/-! ### list + list of any lists that can be read -/
def rCatL (K : PySem.W.Frag) : R2 := fun x y H Q => ∃ l b xs zs, x = .ref l ∧ y = .ref b ∧ SqL K H l xs ∧ SqL K H b zs ∧ xs.length + zs.length ≤ sizeLine ∧ ∀ p, H p = none → Q (.ref p) (upd H p (.lst (xs ++ zs)))
theorem op_catL {X : Cx} : OpR X (binaryOp .Add) (rCatL X.K) := by
  intro pins s σ H x y v u Q I rx ry h
  obtain ⟨l, b, xs, zs, rfl, rfl, hH, hB, hz, q⟩ := h
  cases rx
  cases ry
  obtain ⟨its, r, ⟨⟨cls, dd, data, sl⟩, n, ho, hc, _, hd⟩, z⟩ := I.list hH
  obtain ⟨its2, r2, ⟨⟨cls2, dd2, data2, sl2⟩, n2, ho2, hc2, _, hd2⟩, z2⟩ := I.list hB
  simp only at hc hd hc2 hd2
  subst hc hd hc2 hd2
  have ln := r.length
  have ln2 := r2.length
  refine concat_meets ⟨_, ho, rfl⟩ ⟨_, ho2, rfl⟩ noFill_list_add seq_list_add PySem.F.slot_list_add PySem.F.entry_list_add (PySem.F.args_list_add_2 _ _) (list_addW l b its.toArray its2.toArray n n2 dd dd2 sl sl2 (by rw [List.size_toArray, List.size_toArray]; omega)) ⟨ho, ho2, ?_⟩
  rw [show its.toArray ++ its2.toArray = (its ++ its2).toArray by simp]
  exact ⟨.ref _, _, I.lnew (t' := s.toks) (r.append r2) (by rw [List.length_append]; omega), rfl, q _ I.fresh⟩

section
variable {K : PySem.W.Frag} {W : WX} {δ : Sto} {ex : XP} {post : Vw → Sto → Prop} {ta tb tc te : TE} {tt tu : TT} {R : Ends3} {t u : TS} {H : Hp}

/-- an if without else whose test is known and changes nothing -/
theorem sx_guard (c : Bool) (h : TX K W tt δ (fun b δ' => b = c ∧ δ' = δ) R.ex) (h1 : c = true → SX K W t δ (R.nxt fun δ' => SX K W u δ' R)) (h2 : c = false → SX K W u δ R) : SX K W (tSeq (tIfS tt t tNext) u) δ R :=
  sx_seq (sx_if (h.imp (fun b δ' ⟨e1, e2⟩ => by
    subst e1 e2
    exact ⟨h1, fun hb => sx_next (h2 hb)⟩) fun _ _ e => e))
/-- an if with else whose test is known and changes nothing -/
theorem sx_fork (c : Bool) (h : TX K W tt δ (fun b δ' => b = c ∧ δ' = δ) R.ex) (h1 : c = true → SX K W t δ R) (h2 : c = false → SX K W u δ R) : SX K W (tIfS tt t u) δ R :=
  sx_if (h.imp (fun b δ' ⟨e1, e2⟩ => by
    subst e1 e2
    exact ⟨h1, h2⟩) fun _ _ e => e)
/-! ### fresh lists from operations -/
/-- r makes a fresh list of ds -/
def RF (K : PySem.W.Frag) (r : R2) (w1 w2 : Vw) (δ : Sto) (ds : List PyData) : Prop :=
  ∀ (m : Addr → Prop) (H : Hp) (σ : L2.St) (v1 v2 : V), Env3 K m H σ δ → VwOk K m H δ v1 w1 → VwOk K m H δ v2 w2 → ∀ Q : VK,
    (∀ p xs, H p = none → Da K (hide (hid m δ) H) xs ds → Q (.ref p) (upd H p (.lst xs))) → r v1 v2 H Q
theorem fx_made {m : Addr → Prop} {σ : L2.St} {p : Addr} {xs : List V} {ds : List PyData} {Q : VK} (I : Env3 K m H σ δ) (hp : H p = none) (r : Da K (hide (hid m δ) H) xs ds)
    (k : ∀ p xs ds H' δ', Gw m δ H δ' (erase p H') → Stay δ δ' → Env3 K m (erase p H') σ δ' → H' p = some (.lst xs) → Da K (hide (hid m δ') (erase p H')) xs ds → Q (.ref p) H') : Q (.ref p) (upd H p (.lst xs)) := by
  have ee := erase_upd (o := .lst xs) hp
  exact k p xs ds _ δ (by rw [ee]; exact .refl) (.refl δ) (by rw [ee]; exact I) upd_same (by rw [ee]; exact r)
theorem fx_op {r : R2} {p : List PyData → Sto → Prop} (h : EX K W ta δ (fun w1 δ1 => EX K W tb δ1 (fun w2 δ2 => ∃ ds, RF K r w1 w2 δ2 ds ∧ p ds δ2) ex) ex) : FX K W (tOp r ta tb) δ p ex :=
  fun m H σ I Q k k2 => h m H σ I _ (fun v1 w1 H1 δ1 g1 s1 I1 o1 hb => hb m H1 σ I1 _ (fun v2 w2 H2 δ2 g2 s2 I2 o2 ⟨ds, hr, q⟩ =>
    hr m H2 σ v1 v2 I2 (o1.go g2 s2) o2 Q fun p xs hp rr => by
      have ee := erase_upd (o := .lst xs) hp
      exact k p xs ds _ δ2 (by rw [ee]; exact g1.trans g2) (s1.trans s2) (by rw [ee]; exact I2) upd_same (by rw [ee]; exact rr) q)
    (fun C H' δ' g J e => k2 C H' δ' (g1.trans g) J e)) k2
theorem rf_cat {ds es : List PyData} (hl : ds.length + es.length ≤ 1000000) : RF K (rCatL K) (.d (.list ds)) (.d (.list es)) δ (ds ++ es) := fun m H σ v1 v2 I o1 o2 Q k => by
  obtain ⟨a, xs, rfl, h1, r1⟩ := dd_lst o1
  obtain ⟨b, ys, rfl, h2, r2⟩ := dd_lst o2
  refine ⟨a, b, xs, ys, rfl, rfl, Same.seq hide_same h1, Same.seq hide_same h2, ?_, fun p hp => k p _ hp (r1.append r2)⟩
  rw [r1.length, r2.length]
  exact Nat.le_trans hl (by decide)
/-! ### slices -/
def OX (K : PySem.W.Frag) (W : WX) (to : TO) (δ : Sto) (post : Option Int → Sto → Prop) (ex : XP) : Prop :=
  ∀ (m : Addr → Prop) (H : Hp) (σ : L2.St), Env3 K m H σ δ → ∀ Q : Option Int → Hp → Prop,
    (∀ v H' δ', Gw m δ H δ' H' → Stay δ δ' → Env3 K m H' σ δ' → post v δ' → Q v H') →
    (∀ C H' δ', Gw m δ H δ' H' → Env3 K m H' σ δ' → ex C δ' → W C none σ H') → to σ H Q
theorem ox_none {p : Option Int → Sto → Prop} (q : p none δ) : OX K W tNoPart δ p ex := fun m H σ I Q k _ => k none H δ .refl (.refl δ) I q
theorem ox_some {p : Option Int → Sto → Prop} (h : EX K W te δ (fun w δ' => ∃ i, w = .d (.int i) ∧ p (some i) δ') ex) : OX K W (tPart te) δ p ex :=
  fun m H σ I Q k k2 => h m H σ I _ (fun v w H' δ' g s J o ⟨i, e, q⟩ => by
    subst e
    exact ⟨i, dd_int o, k (some i) H' δ' g s J q⟩) k2
def cutD (xs : List PyData) (lo hi : Option Int) : List PyData := (xs.drop (HT.sIx xs.length 0 lo)).take (HT.sIx xs.length xs.length hi - HT.sIx xs.length 0 lo)
theorem da_drop : ∀ {vs : List V} {ds : List PyData} (n : Nat), Da K H vs ds → Da K H (vs.drop n) (ds.drop n)
  | _, _, 0, r => r
  | _, _, n + 1, .nil => .nil
  | _, _, n + 1, .cons _ r => da_drop n r
theorem da_take : ∀ {vs : List V} {ds : List PyData} (n : Nat), Da K H vs ds → Da K H (vs.take n) (ds.take n)
  | _, _, 0, r => .nil
  | _, _, n + 1, .nil => .nil
  | _, _, n + 1, .cons h r => .cons h (da_take n r)
theorem da_cut {vs : List V} {ds : List PyData} {lo hi : Option Int} (r : Da K H vs ds) : Da K H (cutV vs lo hi) (cutD ds lo hi) := by
  unfold cutV cutD
  rw [r.length]
  exact da_take _ (da_drop _ r)
theorem fx_slL {tl th : TO} {p : List PyData → Sto → Prop} (h : EX K W te δ (fun w δ1 => OX K W tl δ1 (fun lo δ2 => OX K W th δ2 (fun hi δ3 => ∃ ds, w = .d (.list ds) ∧ p (cutD ds lo hi) δ3) ex) ex) ex) : FX K W (tSl (rSlL K) te tl th) δ p ex :=
  fun m H σ I Q k k2 => h m H σ I _ (fun v1 w1 H1 δ1 g1 s1 I1 o1 hb => hb m H1 σ I1 _ (fun lo H2 δ2 g2 s2 I2 hc => hc m H2 σ I2 _ (fun hi H3 δ3 g3 s3 I3 ⟨ds, e, q⟩ => by
      subst e
      obtain ⟨a, xs, rfl, h1, r1⟩ := dd_lst (show Dd K _ v1 (.list ds) from ((o1.go g2 s2).go g3 s3))
      refine ⟨a, xs, rfl, Same.seq hide_same h1, fun p hp => ?_⟩
      have ee := erase_upd (o := .lst (cutV xs lo hi)) hp
      exact k p _ _ _ δ3 (by rw [ee]; exact (g1.trans g2).trans g3) ((s1.trans s2).trans s3) (by rw [ee]; exact I3) upd_same (by rw [ee]; exact da_cut r1) q)
    (fun C H' δ' g J e => k2 C H' δ' ((g1.trans g2).trans g) J e))
    (fun C H' δ' g J e => k2 C H' δ' (g1.trans g) J e)) k2

/-! ### a list of one's own grows, shrinks -/
abbrev tyL (K : PySem.W.Frag) (r : V → List V → Hp → VK → Prop) (ta : TE) (t : TA) : TE := tBM K "list" r ta t
theorem ex_append {i : Nat} (h : EX K W te δ (fun w δ' => ∃ d p ds, w = .d d ∧ δ'[i]? = some (.ml p ds) ∧ ds.length < 1000000 ∧ post (.d .none) (δ'.set i (.ml p (ds ++ [d])))) ex) (hi : ∃ p ds, δ[i]? = some (.ml p ds)) :
    EX K W (tBM K "list" rAppend (tVar i) (tCons te tNil)) δ post ex := fun m H σ I Q k k2 => by
  obtain ⟨p0, ds0, h0⟩ := hi
  obtain ⟨hσ, _, xs0, hx0, _⟩ := I.ml i p0 ds0 h0
  refine ⟨.ref p0, hσ, .inl ⟨rfl, xs0, .inl (.inl hx0)⟩, ?_⟩
  refine h m H σ I _ (fun v w H1 δ1 g1 s1 I1 o1 ⟨d, p, ds, e, h1, hl, q⟩ => ?_) k2
  subst e
  obtain ⟨es, h2⟩ := s1 i p0 ds0 h0
  rw [h1] at h2
  cases h2
  obtain ⟨_, np, xs, hp, r⟩ := I1.ml i p0 ds h1
  refine ⟨p0, xs, v, rfl, rfl, hp, by rw [r.length]; exact Nat.lt_of_lt_of_le hl (by decide), ?_⟩
  have sme : Same (erase p0 H1) (erase p0 (upd H1 p0 (.lst (xs ++ [v])))) := .of fun a o z => by
    have ne : a ≠ p0 := fun q => by rw [q, erase_at] at z; cases z
    rw [erase_ne ne] at z ⊢
    rw [upd_ne ne]
    exact z
  have r2 : Da K (hide (hid m δ1) (erase p0 (upd H1 p0 (.lst (xs ++ [v]))))) (xs ++ [v]) (ds ++ [d]) := by
    rw [hide_erase h1]
    have e2 : hide (hid m δ1) (upd H1 p0 (.lst (xs ++ [v]))) = hide (hid m δ1) H1 := by
      rw [← hide_erase h1, ← hide_erase (H := H1) h1]
      congr 1
      funext a
      by_cases c : a = p0
      · rw [c, erase_at, erase_at]
      · rw [erase_ne c, erase_ne c, upd_ne c]
    rw [e2]
    exact r.append (.cons o1 .nil)
  have kp : ∀ a, m a → upd H1 p0 (.lst (xs ++ [v])) a = H1 a := fun a ha => upd_ne fun z => np (z ▸ ha)
  exact k .non (.d .none) _ _ (g1.trans (.chg I1 h1 sme kp)) (s1.trans (.chg h1)) (I1.chg h1 sme upd_same r2) .non q
theorem ex_pop {i : Nat} {p : Addr} {ds : List PyData} {d : PyData} (hi : δ[i]? = some (.ml p (ds ++ [d]))) (q : post (.d d) (δ.set i (.ml p ds))) : EX K W (tBM0 K "list" rPop (tVar i)) δ post ex := fun m H σ I Q k k2 => by
  obtain ⟨hσ, np, xs, hx, r⟩ := I.ml i p _ hi
  refine ⟨.ref p, hσ, .inl ⟨rfl, xs, .inl (.inl hx)⟩, ?_⟩
  obtain ⟨ys, v, e, r1, r2⟩ : ∃ ys v, xs = ys ++ [v] ∧ Da K (hide (hid m δ) H) ys ds ∧ Dd K (hide (hid m δ) H) v d := by
    clear hi hx q
    induction ds generalizing xs with
    | nil =>
      cases r with
      | cons h r => cases r; exact ⟨[], _, rfl, .nil, h⟩
    | cons e es ih =>
      cases r with
      | cons h r =>
        obtain ⟨ys, v, e1, r1, r2⟩ := ih _ r
        exact ⟨_ :: ys, v, by rw [e1]; rfl, .cons h r1, r2⟩
  subst e
  refine ⟨p, ys ++ [v], v, rfl, rfl, hx, by simp, ?_⟩
  rw [List.dropLast_concat]
  have sme : Same (erase p H) (erase p (upd H p (.lst ys))) := .of fun a o z => by
    have ne : a ≠ p := fun q => by rw [q, erase_at] at z; cases z
    rw [erase_ne ne] at z ⊢
    rw [upd_ne ne]
    exact z
  have e2 : hide (hid m δ) (erase p (upd H p (.lst ys))) = hide (hid m δ) H := by
    rw [← hide_erase (H := H) hi]
    congr 1
    funext a
    by_cases c : a = p
    · rw [c, erase_at, erase_at]
    · rw [erase_ne c, erase_ne c, upd_ne c]
  have g2 : Gw m δ H (δ.set i (.ml p ds)) (upd H p (.lst ys)) := .chg I hi sme fun a ha => upd_ne fun z => np (z ▸ ha)
  refine k v (.d d) _ _ g2 (.chg hi) (I.chg hi sme upd_same (by rw [e2]; exact r1)) ?_ q
  exact Dd.mono g2.same r2

/-! ### loops -/
/-- a target that takes data: what the store is then -/
def TgOk (K : PySem.W.Frag) (g : TG) (ok : PyData → Prop) (f : Sto → PyData → Sto) : Prop :=
  ∀ (m : Addr → Prop) (H : Hp) (σ : L2.St) (δ : Sto) (v : V) (d : PyData), Env3 K m H σ δ → Dd K (hide (hid m δ) H) v d → ok d → ∀ D : L2.St → Hp → Prop, (∀ σ', Gw m δ H (f δ d) H → Env3 K m H σ' (f δ d) → D σ' H) → g v σ H D
theorem tg_name {i : Nat} : TgOk K (gName i) (fun _ => True) (fun δ d => δ.set i (.dat d)) := fun m H σ δ v d I h _ D k => k _ .set_dat (I.set_dat h)
def tupItems : PyData → List PyData
  | .tuple ds => ds
  | _ => []
theorem tg_names {n : Nat} {is : List Nat} (hn : is.length = n) : TgOk K (gTup K n (gNames is)) (fun d => ∃ ds, d = .tuple ds ∧ ds.length = n) (fun δ d => setAll δ is (tupItems d)) := fun m H σ δ v d I h ⟨ds, e, hl⟩ D k => by
  subst e
  obtain ⟨a, xs, rfl, hs, r⟩ := dd_tup h
  exact ⟨a, xs, rfl, Same.tup hide_same hs, by rw [r.length, hl], names_go is ds xs m H σ δ I r (by rw [hl, hn]) fun σ' g J => k σ' g J⟩
section
variable {g : TG} {ok : PyData → Prop} {f : Sto → PyData → Sto} {tl : TE} {ds : List PyData}
theorem turn_go {m : Addr → Prop} {H H1 H' : Hp} {σ' : L2.St} {δ δ1 δ' : Sto} {x : V} {d : PyData} {D : Ends} {N : Sto → Prop} {Pn : L2.St → Hp → Prop} (tg : TgOk K g ok f) (g1 : Gw m δ H δ1 H1) (g2 : Gw m δ1 H1 δ' H') (J : Env3 K m H' σ' δ') (hd : Dd K (hide (hid m δ') H') x d) (hok : ok d)
    (hb : SX K W t (f δ' d) (R.loop N)) (hP : ∀ σ2 H2 δ2, Gw m δ1 H1 δ2 H2 → Env3 K m H2 σ2 δ2 → N δ2 → Pn σ2 H2)
    (k1 : ∀ σ' H' δ', Gw m δ H δ' H' → Env3 K m H' σ' δ' → R.nx δ' → D.nx σ' H') (k2 : ∀ v w σ' H' δ', Gw m δ H δ' H' → Env3 K m H' σ' δ' → VwOk K m H' δ' v w → R.rt w δ' → D.rt v H')
    (k5 : ∀ C σ' H' δ', Gw m δ H δ' H' → Env3 K m H' σ' δ' → R.ex C δ' → W C none σ' H') : g x σ' H' fun σ2 H2 => t { D with nx := Pn, ct := Pn, bk := D.nx } σ2 H2 :=
  tg m H' σ' δ' x d J hd hok _ fun σ2 g3 J2 => hb m H' σ2 J2 { D with nx := Pn, ct := Pn, bk := D.nx } (fun σ3 H3 δ3 g4 J3 q => hP σ3 H3 δ3 ((g2.trans g3).trans g4) J3 q)
    (fun v w σ3 H3 δ3 g4 J3 o q => k2 v w σ3 H3 δ3 (((g1.trans g2).trans g3).trans g4) J3 o q) (fun σ3 H3 δ3 g4 J3 q => k1 σ3 H3 δ3 (((g1.trans g2).trans g3).trans g4) J3 q)
    (fun σ3 H3 δ3 g4 J3 q => hP σ3 H3 δ3 ((g2.trans g3).trans g4) J3 q) (fun C σ3 H3 δ3 g4 J3 q => k5 C σ3 H3 δ3 (((g1.trans g2).trans g3).trans g4) J3 q)
/-- what a for over the items ds asks -/
def ForI (K : PySem.W.Frag) (W : WX) (t : TS) (R : Ends3) (ok : PyData → Prop) (f : Sto → PyData → Sto) (ds : List PyData) (Inv : Nat → Sto → Prop) : Prop :=
  (∀ k d δ', ds[k]? = some d → Inv k δ' → ok d ∧ SX K W t (f δ' d) (R.loop (Inv (k + 1)))) ∧ ∀ δ', Inv ds.length δ' → R.nx δ'
theorem sx_forL (tg : TgOk K g ok f) (Inv : List PyData → Nat → Sto → Prop) (h : EX K W tl δ (fun w δ1 => ∃ ds, w = .d (.list ds) ∧ Inv ds 0 δ1 ∧ ForI K W t R ok f ds (Inv ds)) R.ex) : SX K W (tFor (iList K tl) g t) δ R :=
  fun m H σ I D k1 k2 k3 k4 k5 => h m H σ I _ (fun v w H1 δ1 g1 s1 I1 o1 ⟨ds, e, i0, turn, fin⟩ => by
    subst e
    obtain ⟨a, xs, rfl, hs, r⟩ := dd_lst o1
    refine ⟨a, rfl, ⟨xs, Same.seq hide_same hs⟩, for_list (K := K) (a := a) (xs := xs) (fun k σ' H' => ∃ δ', Gw m δ1 H1 δ' H' ∧ Env3 K m H' σ' δ' ∧ Inv ds k δ') ⟨δ1, .refl, I1, i0⟩ (fun k σ' H' _ ⟨δ', g2, J, _⟩ => Same.seq hide_same (Same.seq g2.same hs)) ?_ ?_⟩
    · rintro k x σ' H' hx ⟨δ', g2, J, iv⟩
      obtain ⟨d, hd, dd⟩ := r.get' hx
      obtain ⟨hok, hb⟩ := turn k d δ' hd iv
      exact turn_go tg g1 g2 J (dd.mono g2.same) hok hb (fun σ2 H2 δ2 g3 J2 q => ⟨δ2, g3, J2, q⟩) k1 k2 k5
    · rintro σ' H' ⟨δ', g2, J, iv⟩
      exact k1 σ' H' δ' (g1.trans g2) J (fin δ' (by rw [r.length] at iv; exact iv))) (fun C H' δ' g J e => k5 C σ H' δ' g J e)
theorem sx_forT (tg : TgOk K g ok f) (Inv : List PyData → Nat → Sto → Prop) (h : EX K W tl δ (fun w δ1 => ∃ ds, w = .d (.tuple ds) ∧ Inv ds 0 δ1 ∧ ForI K W t R ok f ds (Inv ds)) R.ex) : SX K W (tFor (iTup K tl) g t) δ R :=
  fun m H σ I D k1 k2 k3 k4 k5 => h m H σ I _ (fun v w H1 δ1 g1 s1 I1 o1 ⟨ds, e, i0, turn, fin⟩ => by
    subst e
    obtain ⟨a, xs, rfl, hs, r⟩ := dd_tup o1
    refine ⟨a, rfl, ⟨xs, Same.tup hide_same hs⟩, for_tup (K := K) (a := a) (xs := xs) (fun k σ' H' => ∃ δ', Gw m δ1 H1 δ' H' ∧ Env3 K m H' σ' δ' ∧ Inv ds k δ') ⟨δ1, .refl, I1, i0⟩ (fun k σ' H' _ ⟨δ', g2, J, _⟩ => Same.tup hide_same (Same.tup g2.same hs)) ?_ ?_⟩
    · rintro k x σ' H' hx ⟨δ', g2, J, iv⟩
      obtain ⟨d, hd, dd⟩ := r.get' hx
      obtain ⟨hok, hb⟩ := turn k d δ' hd iv
      exact turn_go tg g1 g2 J (dd.mono g2.same) hok hb (fun σ2 H2 δ2 g3 J2 q => ⟨δ2, g3, J2, q⟩) k1 k2 k5
    · rintro σ' H' ⟨δ', g2, J, iv⟩
      exact k1 σ' H' δ' (g1.trans g2) J (fin δ' (by rw [r.length] at iv; exact iv))) (fun C H' δ' g J e => k5 C σ H' δ' g J e)
/-- over a list of one's own that stays as it is -/
theorem sx_forM (tg : TgOk K g ok f) {j : Nat} {p : Addr} (Inv : Nat → Sto → Prop) (hj : δ[j]? = some (.ml p ds)) (i0 : Inv 0 δ) (stay : ∀ k δ', Inv k δ' → δ'[j]? = some (.ml p ds)) (hI : ForI K W t R ok f ds Inv) : SX K W (tFor (iList K (tVar j)) g t) δ R :=
  fun m H σ I D k1 k2 k3 k4 k5 => by
    obtain ⟨hσ, np, xs, hp, r⟩ := I.ml j p ds hj
    refine ⟨.ref p, hσ, p, rfl, ⟨xs, .inl (.inl hp)⟩, fun k n σ' H' => n = ds.length - k ∧ k ≤ ds.length ∧ ∃ δ', Gw m δ H δ' H' ∧ Env3 K m H' σ' δ' ∧ Inv k δ', ⟨ds.length, rfl, Nat.zero_le _, δ, .refl, I, i0⟩, ?_⟩
    rintro k n σ' H' ⟨en, hk, δ', g2, J, iv⟩
    obtain ⟨_, _, ys, hy, ry⟩ := J.ml j p ds (stay k δ' iv)
    have sy : SqL K H' p ys := .inl (.inl hy)
    have ly := ry.length
    by_cases c : k < ds.length
    · obtain ⟨x, hx, dd⟩ := ry.get (List.getElem?_eq_getElem c)
      refine .inr ⟨⟨ys, x, sy, hx⟩, fun σ2 H2 => ∃ δ2, Gw m δ H δ2 H2 ∧ Env3 K m H2 σ2 δ2 ∧ Inv (k + 1) δ2, fun σ2 H2 ⟨δ2, g3, J2, q⟩ => ⟨n - 1, by omega, by omega, c, δ2, g3, J2, q⟩, fun v H2 hv => ?_⟩
      obtain ⟨rfl, fv⟩ := hv
      have ev : v = x := Option.some.inj ((fv _ sy).symm.trans hx)
      subst ev
      obtain ⟨hok, hb⟩ := hI.1 k _ δ' (List.getElem?_eq_getElem c) iv
      exact turn_go tg .refl g2 J dd hok hb (fun σ2 H2 δ2 g3 J2 q => ⟨δ2, g3, J2, q⟩) k1 k2 k5
    · have e : k = ds.length := by omega
      subst e
      exact .inl ⟨⟨ys, sy, by omega⟩, k1 σ' H' δ' g2 J (hI.2 δ' iv)⟩
def rangeD (lo : Int) (n : Nat) : List PyData := (List.range n).map fun (i : Nat) => .int (lo + (i : Int))
theorem rangeD_get {lo : Int} {n i : Nat} (h : i < n) : (rangeD lo n)[i]? = some (.int (lo + (i : Int))) := by
  unfold rangeD
  rw [List.getElem?_map, List.getElem?_range h]
  rfl
theorem rangeD_len {lo : Int} {n : Nat} : (rangeD lo n).length = n := by
  unfold rangeD
  rw [List.length_map, List.length_range]
theorem sx_forR1 {ta : TA} (tg : TgOk K g ok f) (Inv : Nat → Sto → Prop) (h : AX K W ta δ (fun ws δ1 => ∃ n : Int, ws = [.d (.int n)] ∧ (-1000000 ≤ n ∧ n ≤ 1000000000) ∧ Inv 0 δ1 ∧ ForI K W t R ok f (rangeD 0 n.toNat) Inv) R.ex) : SX K W (tFor (iRng1 ta) g t) δ R :=
  fun m H σ I D k1 k2 k3 k4 k5 => h m H σ I _ (fun vs w H1 δ1 g1 s1 I1 o1 ⟨n, e, hb, i0, turn, fin⟩ => by
    subst e
    obtain ⟨v, rfl, hv⟩ := vw1 o1
    cases dd_int hv
    refine ⟨n, rfl, by omega, by omega, for_range (lo := 0) (n := n.toNat) (fun k σ' H' => ∃ δ', Gw m δ1 H1 δ' H' ∧ Env3 K m H' σ' δ' ∧ Inv k δ') ⟨δ1, .refl, I1, i0⟩ ?_ ?_⟩
    · rintro k σ' H' hk ⟨δ', g2, J, iv⟩
      obtain ⟨hok, hb⟩ := turn k _ δ' (rangeD_get hk) iv
      exact turn_go tg g1 g2 J (.int _) hok hb (fun σ2 H2 δ2 g3 J2 q => ⟨δ2, g3, J2, q⟩) k1 k2 k5
    · rintro σ' H' ⟨δ', g2, J, iv⟩
      exact k1 σ' H' δ' (g1.trans g2) J (fin δ' (by rw [rangeD_len]; exact iv))) (fun C H' δ' g J e => k5 C σ H' δ' g J e)
theorem sx_forR2 {ta : TA} (tg : TgOk K g ok f) (Inv : Nat → Sto → Prop) (h : AX K W ta δ (fun ws δ1 => ∃ lo n : Int, ws = [.d (.int lo), .d (.int n)] ∧ (-1000000000 ≤ lo ∧ lo ≤ 1000000000 ∧ -1000000000 ≤ n ∧ n ≤ 1000000000) ∧ Inv 0 δ1 ∧ ForI K W t R ok f (rangeD lo (n - lo).toNat) Inv) R.ex) : SX K W (tFor (iRng2 ta) g t) δ R :=
  fun m H σ I D k1 k2 k3 k4 k5 => h m H σ I _ (fun vs w H1 δ1 g1 s1 I1 o1 ⟨lo, n, e, hb, i0, turn, fin⟩ => by
    subst e
    obtain ⟨v, u, rfl, hv, hu⟩ := vw2 o1
    cases dd_int hv
    cases dd_int hu
    refine ⟨lo, n, rfl, by omega, for_range (lo := lo) (n := (n - lo).toNat) (fun k σ' H' => ∃ δ', Gw m δ1 H1 δ' H' ∧ Env3 K m H' σ' δ' ∧ Inv k δ') ⟨δ1, .refl, I1, i0⟩ ?_ ?_⟩
    · rintro k σ' H' hk ⟨δ', g2, J, iv⟩
      obtain ⟨hok, hb⟩ := turn k _ δ' (rangeD_get hk) iv
      exact turn_go tg g1 g2 J (.int _) hok hb (fun σ2 H2 δ2 g3 J2 q => ⟨δ2, g3, J2, q⟩) k1 k2 k5
    · rintro σ' H' ⟨δ', g2, J, iv⟩
      exact k1 σ' H' δ' (g1.trans g2) J (fin δ' (by rw [rangeD_len]; exact iv))) (fun C H' δ' g J e => k5 C σ H' δ' g J e)
/-- a while: Inv with a number that falls -/
theorem sx_while (Inv : Nat → Sto → Prop) (n0 : Nat) (i0 : Inv n0 δ)
    (h : ∀ n δ', Inv n δ' → TX K W tt δ' (fun b δ1 => (b = true → SX K W t δ1 (R.loop fun δ2 => ∃ k, k < n ∧ Inv k δ2)) ∧ (b = false → R.nx δ1)) R.ex) : SX K W (tWhile tt t) δ R :=
  fun m H σ I D k1 k2 k3 k4 k5 => by
    refine ⟨fun n σ' H' => ∃ δ', Gw m δ H δ' H' ∧ Env3 K m H' σ' δ' ∧ Inv n δ', ⟨n0, δ, .refl, I, i0⟩, ?_⟩
    rintro n σ' H' ⟨δ', g1, J, iv⟩
    refine h n δ' iv m H' σ' J _ (fun b H1 δ1 g2 s2 J1 ⟨q1, q2⟩ => ?_) (fun C H1 δ1 g2 J1 e => k5 C σ' H1 δ1 (g1.trans g2) J1 e)
    cases b with
    | false => exact iteF (k1 σ' H1 δ1 (g1.trans g2) J1 (q2 rfl))
    | true =>
      refine iteT ⟨fun σ2 H2 => ∃ k, k < n ∧ ∃ δ2, Gw m δ H δ2 H2 ∧ Env3 K m H2 σ2 δ2 ∧ Inv k δ2, fun σ2 H2 z => z, ?_⟩
      exact q1 rfl m H1 σ' J1 _ (fun σ3 H3 δ3 g4 J3 ⟨k, hk, q⟩ => ⟨k, hk, δ3, (g1.trans g2).trans g4, J3, q⟩) (fun v w σ3 H3 δ3 g4 J3 o q => k2 v w σ3 H3 δ3 ((g1.trans g2).trans g4) J3 o q)
        (fun σ3 H3 δ3 g4 J3 q => k1 σ3 H3 δ3 ((g1.trans g2).trans g4) J3 q) (fun σ3 H3 δ3 g4 J3 ⟨k, hk, q⟩ => ⟨k, hk, δ3, (g1.trans g2).trans g4, J3, q⟩) (fun C σ3 H3 δ3 g4 J3 q => k5 C σ3 H3 δ3 ((g1.trans g2).trans g4) J3 q)
end
end
end M3
namespace M3
open PySem PySem.Spec PyProof.Rows L2
variable [NmC]

/-! ### comprehensions -/
abbrev WF : WX := fun _ _ _ _ => False
abbrev XF : XP := fun _ _ => False
def wipeD (δ : Sto) : List Nat → Sto
  | [] => δ
  | v :: vs => (wipeD δ vs).set v .no
theorem wipe_set {α : Type} {l : List α} {i j : Nat} {x y : α} : i ≠ j → (l.set i x).set j y = (l.set j y).set i x := fun h => List.set_comm x y h
theorem wipe_in (σ : L2.St) (i : Nat) (x : Option V) : ∀ vs : List Nat, i ∈ vs → wipe (σ.set i x) vs = wipe σ vs
  | v :: vs, h => by
    show (wipe (σ.set i x) vs).set v none = (wipe σ vs).set v none
    by_cases c : i ∈ vs
    · rw [wipe_in σ i x vs c]
    · have e : i = v := by
        rcases List.mem_cons.mp h with e | e
        · exact e
        · exact absurd e c
      subst e
      have out : ∀ (ws : List Nat) (τ : L2.St), i ∉ ws → wipe (τ.set i x) ws = (wipe τ ws).set i x := by
        intro ws
        induction ws with
        | nil => intro τ _; rfl
        | cons u us ih =>
          intro τ hn
          have h1 : i ≠ u := fun z => hn (by rw [z]; exact List.mem_cons_self)
          have h2 : i ∉ us := fun z => hn (List.mem_cons_of_mem _ z)
          show (wipe (τ.set i x) us).set u none = ((wipe τ us).set u none).set i x
          rw [ih τ h2, List.set_comm _ _ h1]
      rw [out vs σ c, List.set_set]
section
variable {K : PySem.W.Frag} {W : WX} {δ : Sto} {ex : XP} {tt : TT} {te tl : TE} {g : TG} {ok : PyData → Prop} {f : Sto → PyData → Sto} {vs : List Nat} {H : Hp}
theorem Env3.wiped {m : Addr → Prop} {σ : L2.St} (I : Env3 K m H σ δ) : ∀ vs : List Nat, Env3 K m H (wipe σ vs) (wipeD δ vs)
  | [] => I
  | v :: vs => (I.wiped vs).drop none
theorem wipeD_some {i : Nat} {s : Sl} : ∀ {vs : List Nat}, (wipeD δ vs)[i]? = some s → s ≠ .no → δ[i]? = some s ∧ i ∉ vs
  | [], h, _ => ⟨h, by simp⟩
  | v :: vs, h, hs => by
    have h : ((wipeD δ vs).set v .no)[i]? = some s := h
    rcases set_get h with ⟨_, e, _⟩ | ⟨ne, h⟩
    · exact absurd e.symm hs
    · obtain ⟨h1, h2⟩ := wipeD_some h hs
      exact ⟨h1, by
        rw [List.mem_cons]
        rintro (z | z)
        · exact ne z.symm
        · exact h2 z⟩
theorem wipeD_out {i : Nat} : ∀ {vs : List Nat}, i ∉ vs → (wipeD δ vs)[i]? = δ[i]?
  | [], _ => rfl
  | v :: vs, h => by
    show ((wipeD δ vs).set v .no)[i]? = _
    rw [List.getElem?_set_ne (fun z => h (by rw [z]; exact List.mem_cons_self))]
    exact wipeD_out fun z => h (List.mem_cons_of_mem _ z)
theorem wipe_back {m : Addr → Prop} {σ : L2.St} {δ' : Sto} (I : Env3 K m H (wipe σ vs) δ') : Env3 K m H σ δ' where
  len := by rw [← I.len, wipe_length]
  dat := fun i d h => by
    obtain ⟨v, h1, h2⟩ := I.dat i d h
    exact ⟨v, (wipe_some h1).1, h2⟩
  ml := fun i p ds h => by
    obtain ⟨h1, h2⟩ := I.ml i p ds h
    exact ⟨(wipe_some h1).1, h2⟩
  one := I.one
  got := I.got
  tab := I.tab
theorem own_wiped {a : Addr} (noml : ∀ i ∈ vs, ∀ p ds, δ[i]? ≠ some (.ml p ds)) : own (wipeD δ vs) a ↔ own δ a := by
  constructor
  · rintro ⟨i, ds, h⟩
    exact ⟨i, ds, (wipeD_some h (fun z => nomatch z)).1⟩
  · rintro ⟨i, ds, h⟩
    refine ⟨i, ds, ?_⟩
    rw [wipeD_out fun z => noml i z _ _ h]
    exact h
/-- a comprehension's target: it stores within vs -/
def TgC (K : PySem.W.Frag) (g : TG) (vs : List Nat) (ok : PyData → Prop) (f : Sto → PyData → Sto) : Prop :=
  (∀ (m : Addr → Prop) (H : Hp) (σ : L2.St) (δ : Sto) (v : V) (d : PyData), Env3 K m H σ δ → Dd K (hide (hid m δ) H) v d → ok d → ∀ D : L2.St → Hp → Prop, (∀ σ2, wipe σ2 vs = wipe σ vs → Gw m δ H (f δ d) H → Env3 K m H σ2 (f δ d) → D σ2 H) → g v σ H D) ∧
  ∀ (δ : Sto) (d : PyData), (∀ i ∈ vs, ∀ p ds, δ[i]? ≠ some (.ml p ds)) → ok d → Stay δ (f δ d) ∧ ∀ i ∈ vs, ∀ p ds, (f δ d)[i]? ≠ some (.ml p ds)
theorem stay_set {i : Nat} {d : PyData} (h : ∀ p ds, δ[i]? ≠ some (.ml p ds)) : Stay δ (δ.set i (.dat d)) := fun j p ds e => ⟨ds, by
  have ne : i ≠ j := fun z => h p ds (by rw [z]; exact e)
  rw [List.getElem?_set_ne ne]
  exact e⟩
theorem tgc_name {i : Nat} : TgC K (gName i) [i] (fun _ => True) (fun δ d => δ.set i (.dat d)) :=
  ⟨fun m H σ δ v d I h _ D k => k _ (wipe_in σ i _ [i] List.mem_cons_self) .set_dat (I.set_dat h), fun δ d h _ => ⟨stay_set (h i List.mem_cons_self), fun j hj p ds e => by
    have ej : j = i := by simpa using hj
    subst ej
    rcases set_get e with ⟨_, z, _⟩ | ⟨ne, _⟩
    · cases z
    · exact ne rfl⟩⟩
theorem names_goC {D : L2.St → Hp → Prop} : ∀ (is : List Nat) (ds : List PyData) (xs : List V) (m : Addr → Prop) (H : Hp) (σ : L2.St) (δ : Sto), (∀ i ∈ is, i ∈ vs) → Env3 K m H σ δ → Da K (hide (hid m δ) H) xs ds → ds.length = is.length →
    (∀ σ', wipe σ' vs = wipe σ vs → Gw m δ H (setAll δ is ds) H → Env3 K m H σ' (setAll δ is ds) → D σ' H) → gNames is xs σ H D
  | [], [], xs, m, H, σ, δ, hv, I, r, hl, k => by
    cases r
    exact ⟨rfl, k σ rfl .refl I⟩
  | i :: is, d :: ds, xs, m, H, σ, δ, hv, I, r, hl, k => by
    cases r with
    | cons h r =>
      refine ⟨_, _, rfl, ?_⟩
      exact names_goC is ds _ m H _ _ (fun j hj => hv j (List.mem_cons_of_mem _ hj)) (I.set_dat h) (r.mono (hide_set (s := .dat d) (fun _ _ z => nomatch z))) (Nat.succ.inj hl) fun σ' e g J => k σ' (e.trans (wipe_in σ i _ vs (hv i List.mem_cons_self))) (Gw.set_dat.trans g) J
  | [], d :: ds, xs, m, H, σ, δ, hv, I, r, hl, k => by cases hl
  | i :: is, [], xs, m, H, σ, δ, hv, I, r, hl, k => by cases hl
theorem setAll_ml : ∀ (is : List Nat) (ds : List PyData) (δ : Sto) (j : Nat) (p : Addr) (es : List PyData), (setAll δ is ds)[j]? = some (.ml p es) → δ[j]? = some (.ml p es)
  | [], ds, δ, j, p, es, h => by cases ds <;> exact h
  | i :: is, [], δ, j, p, es, h => h
  | i :: is, d :: ds, δ, j, p, es, h => by
    have h2 := setAll_ml is ds (δ.set i (.dat d)) j p es h
    rcases set_get h2 with ⟨_, z, _⟩ | ⟨_, z⟩
    · cases z
    · exact z
theorem setAll_out : ∀ (is : List Nat) (ds : List PyData) (δ : Sto) (j : Nat), j ∉ is → (setAll δ is ds)[j]? = δ[j]?
  | [], ds, δ, j, h => by cases ds <;> rfl
  | i :: is, [], δ, j, h => rfl
  | i :: is, d :: ds, δ, j, h => by
    show (setAll (δ.set i (.dat d)) is ds)[j]? = δ[j]?
    rw [setAll_out is ds _ j (fun z => h (List.mem_cons_of_mem _ z)), List.getElem?_set_ne (fun z => h (by rw [z]; exact List.mem_cons_self))]
theorem tgc_names {n : Nat} {is : List Nat} (hn : is.length = n) : TgC K (gTup K n (gNames is)) is (fun d => ∃ ds, d = .tuple ds ∧ ds.length = n) (fun δ d => setAll δ is (tupItems d)) :=
  ⟨fun m H σ δ v d I h ⟨ds, e, hl⟩ D k => by
    subst e
    obtain ⟨a, xs, rfl, hs, r⟩ := dd_tup h
    exact ⟨a, xs, rfl, Same.tup hide_same hs, by rw [r.length, hl], names_goC is ds xs m H σ δ (fun _ z => z) I r (by rw [hl, hn]) k⟩,
   fun δ d h _ => ⟨fun j p ds e => ⟨ds, by
      rw [setAll_out]
      · exact e
      · exact fun z => h j z p ds e⟩, fun i hi p ds e => h i hi p ds (setAll_ml _ _ _ _ _ _ e)⟩⟩
/-- one turn, from the store δ' (nothing known in vs) with acc made so far -/
def Turn3 (K : PySem.W.Frag) (tt : TT) (te : TE) (vs : List Nat) (f : Sto → PyData → Sto) (d : PyData) (δ' : Sto) (acc : List PyData) (N : List PyData → Sto → Prop) : Prop :=
  TX K WF tt (f δ' d) (fun b δ2 => (b = true → EX K WF te δ2 (fun w δ3 => ∃ e, w = .d e ∧ acc.length < 1000000 ∧ N (acc ++ [e]) (wipeD δ3 vs)) XF) ∧ (b = false → N acc (wipeD δ2 vs))) XF
def LcI (K : PySem.W.Frag) (tt : TT) (te : TE) (vs : List Nat) (ok : PyData → Prop) (f : Sto → PyData → Sto) (ds : List PyData) (Inv : Nat → List PyData → Sto → Prop) : Prop :=
  ∀ k d acc δ', ds[k]? = some d → Inv k acc δ' → ok d ∧ Turn3 K tt te vs f d δ' acc (Inv (k + 1))
/-- the state within: D is the list that is made -/
structure LcS (K : PySem.W.Frag) (m : Addr → Prop) (D : Addr) (vs : List Nat) (σ : L2.St) (δ0 : Sto) (H0 : Hp) (Inv : List PyData → Sto → Prop) (H : Hp) (δ' : Sto) (acc : List PyData) : Prop where
  same : Same (hide (hid m δ0) H0) (hide (hid m δ') (erase D H))
  keep : ∀ a, m a → H a = H0 a
  env : Env3 K (fun a => m a ∨ a = D) H (wipe σ vs) δ'
  lst : ∃ xs, H D = some (.lst xs) ∧ Da K (hide (hid m δ') (erase D H)) xs acc
  stay : Stay δ0 δ'
  noml : ∀ i ∈ vs, ∀ p ds, δ'[i]? ≠ some (.ml p ds)
  inv : Inv acc δ'
theorem hid_D {m : Addr → Prop} {D : Addr} {H : Hp} : hide (hid (fun a => m a ∨ a = D) δ) H = hide (hid m δ) (erase D H) := by
  funext a
  by_cases c : a = D
  · have h1 : hid (fun a => m a ∨ a = D) δ a := .inl (.inr c)
    unfold hide
    rw [if_pos h1, c, erase_at]
    simp
  · by_cases c2 : hid m δ a
    · have h1 : hid (fun a => m a ∨ a = D) δ a := by
        rcases c2 with z | z
        · exact .inl (.inl z)
        · exact .inr z
      unfold hide
      rw [if_pos h1, if_pos c2]
    · have h1 : ¬ hid (fun a => m a ∨ a = D) δ a := by
        rintro ((z | z) | z)
        · exact c2 (.inl z)
        · exact c z
        · exact c2 (.inr z)
      rw [hide_of h1, hide_of c2, erase_ne c]
theorem Env3.unD {m : Addr → Prop} {D : Addr} {σ : L2.St} (I : Env3 K (fun a => m a ∨ a = D) H σ δ) (nD : ¬ m D) : Env3 K m (erase D H) σ δ where
  len := I.len
  dat := fun i d h => by
    have q := I.dat i d h
    rw [hid_D] at q
    exact q
  ml := fun i p ds h => by
    obtain ⟨h1, h2, xs, h3, h4⟩ := I.ml i p ds h
    rw [hid_D] at h4
    exact ⟨h1, fun z => h2 (.inl z), xs, by rw [erase_ne (fun z => h2 (.inr z))]; exact h3, h4⟩
  one := I.one
  got := fun a h => by
    have ne : a ≠ D := fun z => nD (z ▸ h)
    rw [erase_ne ne]
    exact I.got a (.inl h)
  tab := ⟨fun a o h e => by
    have ne : a ≠ D := fun z => by rw [z, erase_at] at e; cases e
    rw [erase_ne ne] at e
    exact I.tab.ls a o (.inl h) e, fun P hP => by
    cases q : H D with
    | none => exact absurd q (I.got D (.inr rfl))
    | some u =>
      obtain ⟨xs, rfl⟩ := I.tab.ls D u (.inr rfl) q
      exact (I.tab.has P hP).erase q⟩
theorem Env3.onD {m : Addr → Prop} {D : Addr} {σ : L2.St} (I : Env3 K m (erase D H) σ δ) (hD : ∃ xs, H D = some (.lst xs)) : Env3 K (fun a => m a ∨ a = D) H σ δ where
  len := I.len
  dat := fun i d h => by
    rw [hid_D]
    exact I.dat i d h
  ml := fun i p ds h => by
    obtain ⟨h1, h2, xs, h3, h4⟩ := I.ml i p ds h
    have ne : p ≠ D := fun z => by rw [z, erase_at] at h3; cases h3
    rw [hid_D]
    exact ⟨h1, fun z => z.elim h2 ne, xs, by rw [erase_ne ne] at h3; exact h3, h4⟩
  one := I.one
  got := fun a h => by
    rcases h with h | rfl
    · exact fun z => I.got a h (by
        by_cases c : a = D
        · rw [c, erase_at]
        · rw [erase_ne c]; exact z)
    · obtain ⟨xs, hx⟩ := hD
      rw [hx]
      exact fun z => by cases z
  tab := ⟨fun a o h e => by
    obtain ⟨xs, hx⟩ := hD
    by_cases c : a = D
    · rw [c, hx] at e
      exact ⟨xs, (Option.some.inj e).symm⟩
    · rcases h with h | h
      · exact I.tab.ls a o h (by rw [erase_ne c]; exact e)
      · exact absurd h c, fun P hP => erase_same.tb (I.tab.has P hP)⟩
theorem lc_turn {m : Addr → Prop} {D : Addr} {σ : L2.St} {δ0 δ' : Sto} {H0 : Hp} {Inv N : List PyData → Sto → Prop} {acc : List PyData} {x : V} {d : PyData} {Pn : Hp → Prop} (tg : TgC K g vs ok f) (nD : ¬ m D) (S : LcS K m D vs σ δ0 H0 Inv H δ' acc) (hd : Dd K (hide (hid m δ') (erase D H)) x d) (hok : ok d)
    (ht : Turn3 K tt te vs f d δ' acc N) (hP : ∀ H' δ'' acc', LcS K m D vs σ δ0 H0 N H' δ'' acc' → Pn H') :
    g x (wipe σ vs) H fun σ2 H2 => wipe σ2 vs = wipe σ vs ∧ tt σ2 H2 fun b H3 => if b = true then te σ2 H3 fun y H4 => ∃ acc, H4 D = some (.lst acc) ∧ acc.length < sizeLine ∧ Pn (upd H4 D (.lst (acc ++ [y]))) else Pn H3 := by
  have ww : wipe (wipe σ vs) vs = wipe σ vs := by
    have : ∀ ws : List Nat, (∀ i ∈ ws, i ∈ vs) → wipe (wipe σ ws) vs = wipe σ vs := by
      intro ws
      induction ws with
      | nil => intro _; rfl
      | cons u us ih =>
        intro h
        show wipe ((wipe σ us).set u none) vs = _
        rw [wipe_in _ u none vs (h u List.mem_cons_self)]
        exact ih fun i hi => h i (List.mem_cons_of_mem _ hi)
    exact this vs fun _ z => z
  refine tg.1 (fun a => m a ∨ a = D) H (wipe σ vs) δ' x d S.env (by rw [hid_D]; exact hd) hok _ fun σ2 e2 g2 J2 => ⟨e2.trans ww, ?_⟩
  obtain ⟨st2, nm2⟩ := tg.2 δ' d S.noml hok
  obtain ⟨xs, hxs, rxs⟩ := S.lst
  have fin : ∀ {H' : Hp} {δ'' : Sto} {ys : List V} {acc' : List PyData}, Same (hide (hid m δ') (erase D H)) (hide (hid m δ'') (erase D H')) → (∀ a, m a → H' a = H a) → Env3 K (fun a => m a ∨ a = D) H' σ2 δ'' → Stay (f δ' d) δ'' → H' D = some (.lst ys) → Da K (hide (hid m δ'') (erase D H')) ys acc' → N acc' (wipeD δ'' vs) → Pn H' := fun {H' δ'' ys acc'} sm kp J st hy ry q => by
    have hh : Same (hide (hid m δ'') (erase D H')) (hide (hid m (wipeD δ'' vs)) (erase D H')) := .of fun a o z => by
      obtain ⟨c, z⟩ := hide_in z
      refine hide_some (fun y => c ?_) z
      rcases y with y | ⟨i, es, y⟩
      · exact .inl y
      · exact .inr ⟨i, es, (wipeD_some y (fun y => nomatch y)).1⟩
    refine hP H' (wipeD δ'' vs) acc' ⟨S.same.trans (sm.trans hh), fun a ha => (kp a ha).trans (S.keep a ha), ?_, ⟨ys, hy, ry.mono hh⟩, ?_, fun i hi p ds z => (wipeD_some z (fun y => nomatch y)).2 hi, q⟩
    · have J3 := J.wiped vs
      rw [e2, ww] at J3
      exact J3
    · intro i p ds z
      obtain ⟨es, z1⟩ := S.stay i p ds z
      have ni : i ∉ vs := fun y => S.noml i y p es z1
      obtain ⟨es2, z2⟩ := (st2.trans st) i p es z1
      exact ⟨es2, by rw [wipeD_out ni]; exact z2⟩
  refine ht (fun a => m a ∨ a = D) H σ2 J2 _ (fun b H3 δ3 g3 s3 J3 ⟨q1, q2⟩ => ?_) (fun C H' δ' g J e => e.elim)
  have sm3 : Same (hide (hid m δ') (erase D H)) (hide (hid m δ3) (erase D H3)) := by
    have z := g2.same.trans g3.same
    rw [hid_D, hid_D] at z
    exact z
  have kp3 : ∀ a, m a → H3 a = H a := fun a ha => (g3.keep a (.inl ha)).trans (g2.keep a (.inl ha))
  have hD3 : H3 D = some (.lst xs) := by rw [g3.keep D (.inr rfl), g2.keep D (.inr rfl)]; exact hxs
  cases b with
  | false => exact iteF (fin sm3 kp3 J3 s3 hD3 (rxs.mono sm3) (q2 rfl))
  | true =>
    refine iteT (q1 rfl (fun a => m a ∨ a = D) H3 σ2 J3 _ (fun y w H4 δ4 g4 s4 J4 o4 ⟨e, ew, hl, qn⟩ => ?_) (fun C H' δ' g J e => e.elim))
    subst ew
    have hD4 : H4 D = some (.lst xs) := by rw [g4.keep D (.inr rfl)]; exact hD3
    have sm4 : Same (hide (hid m δ') (erase D H)) (hide (hid m δ4) (erase D H4)) := by
      have z := g4.same
      rw [hid_D, hid_D] at z
      exact sm3.trans z
    have ee : erase D (upd H4 D (.lst (xs ++ [y]))) = erase D H4 := by
      funext a
      by_cases c : a = D
      · rw [c, erase_at, erase_at]
      · rw [erase_ne c, erase_ne c, upd_ne c]
    have dy : Dd K (hide (hid m δ4) (erase D H4)) y e := by
      have z : Dd K _ y e := o4
      rw [hid_D] at z
      exact z
    have rx := rxs.mono sm4
    refine ⟨xs, hD4, by rw [rx.length]; exact Nat.lt_of_lt_of_le hl (by decide), ?_⟩
    refine fin (ys := xs ++ [y]) (acc' := acc ++ [e]) (δ'' := δ4) (by rw [ee]; exact sm4) (fun a ha => ?_) ?_ (s3.trans s4) upd_same (by rw [ee]; exact rx.append (.cons dy .nil)) qn
    · have ne : a ≠ D := fun z => nD (z ▸ ha)
      rw [upd_ne ne, g4.keep a (.inl ha)]
      exact kp3 a ha
    · have J5 := J4.unD nD
      rw [← ee] at J5
      exact J5.onD ⟨_, upd_same⟩
theorem lc_start {m : Addr → Prop} {D : Addr} {σ : L2.St} {Inv : List PyData → Sto → Prop} (I : Env3 K m H σ δ) (hD : H D = none) (nv : ∀ i ∈ vs, ∀ p ds, δ[i]? ≠ some (.ml p ds)) (i0 : Inv [] (wipeD δ vs)) : LcS K m D vs σ δ H Inv (upd H D (.lst [])) (wipeD δ vs) [] := by
  have nD : ¬ m D := fun z => I.got D z hD
  have ee : erase D (upd H D (.lst [])) = H := erase_upd hD
  have hh : Same (hide (hid m δ) H) (hide (hid m (wipeD δ vs)) H) := .of fun a o z => by
    obtain ⟨c, z⟩ := hide_in z
    refine hide_some (fun y => c ?_) z
    rcases y with y | ⟨i, es, y⟩
    · exact .inl y
    · exact .inr ⟨i, es, (wipeD_some y (fun y => nomatch y)).1⟩
  refine ⟨by rw [ee]; exact hh, fun a ha => upd_ne fun z => nD (z ▸ ha), ?_, ⟨[], upd_same, .nil⟩, fun i p ds z => ⟨ds, by rw [wipeD_out fun y => nv i y p ds z]; exact z⟩, fun i hi p ds z => (wipeD_some z (fun y => nomatch y)).2 hi, i0⟩
  have J : Env3 K m (erase D (upd H D (.lst []))) (wipe σ vs) (wipeD δ vs) := by
    rw [ee]
    exact I.wiped vs
  exact J.onD ⟨_, upd_same⟩
/-- no slot of vs holds a list of one's own -/
def NoMl (δ : Sto) (vs : List Nat) : Prop := ∀ i ∈ vs, ∀ p ds, δ[i]? ≠ some (.ml p ds)
theorem lc_end {m : Addr → Prop} {D : Addr} {σ : L2.St} {δ1 δ' : Sto} {H0 H1 H' : Hp} {acc : List PyData} {Inv p : List PyData → Sto → Prop} {Q : VK} (nD : ¬ m D) (g1 : Gw m δ H0 δ1 H1) (s1 : Stay δ δ1) (S : LcS K m D vs σ δ1 H1 Inv H' δ' acc) (q : p acc δ')
    (k : ∀ p' xs ds H' δ', Gw m δ H0 δ' (erase p' H') → Stay δ δ' → Env3 K m (erase p' H') σ δ' → H' p' = some (.lst xs) → Da K (hide (hid m δ') (erase p' H')) xs ds → p ds δ' → Q (.ref p') H') : Q (.ref D) H' := by
  obtain ⟨xs, hx, r⟩ := S.lst
  refine k D xs acc H' δ' ⟨g1.same.trans S.same, fun a ha => ?_⟩ (s1.trans S.stay) (wipe_back (S.env.unD nD)) hx r q
  have ne : a ≠ D := fun z => nD (z ▸ ha)
  rw [erase_ne ne, S.keep a ha]
  exact g1.keep a ha
theorem fx_lcL {p : List PyData → Sto → Prop} (tg : TgC K g vs ok f) (Inv : List PyData → Nat → List PyData → Sto → Prop)
    (h : EX K W tl δ (fun w δ1 => ∃ ds, w = .d (.list ds) ∧ NoMl δ1 vs ∧ Inv ds 0 [] (wipeD δ1 vs) ∧ LcI K tt te vs ok f ds (Inv ds) ∧ ∀ acc δ', Inv ds ds.length acc δ' → p acc δ') ex) : FX K W (tLc (iList K tl) g tt te vs) δ p ex :=
  fun m H σ I Q k k2 => h m H σ I _ (fun v w H1 δ1 g1 s1 I1 o1 ⟨ds, e, nv, i0, turn, fin⟩ => by
    subst e
    obtain ⟨a, xs, rfl, hs, r⟩ := dd_lst o1
    refine ⟨a, rfl, ⟨xs, Same.seq hide_same hs⟩, fun D hD => ?_⟩
    have nD : ¬ m D := fun z => I1.got D z hD
    refine lc_list (K := K) (a := a) (xs := xs) (fun k H' => ∃ δ' acc, LcS K m D vs σ δ1 H1 (Inv ds k) H' δ' acc) ⟨_, _, lc_start I1 hD nv i0⟩ (fun k H' _ ⟨δ', acc, S⟩ => Same.seq (hide_same.trans erase_same) (Same.seq S.same hs)) ?_ ?_
    · rintro k x H' hx ⟨δ', acc, S⟩
      obtain ⟨d, hd, dd⟩ := r.get' hx
      obtain ⟨hok, hb⟩ := turn k d acc δ' hd S.inv
      exact lc_turn tg nD S (dd.mono S.same) hok hb fun H2 δ2 acc2 S2 => ⟨δ2, acc2, S2⟩
    · rintro H' ⟨δ', acc, S⟩
      have iv := S.inv
      rw [r.length] at iv
      exact lc_end nD g1 s1 S (fin acc δ' iv) k) k2
theorem fx_lcT {p : List PyData → Sto → Prop} (tg : TgC K g vs ok f) (Inv : List PyData → Nat → List PyData → Sto → Prop)
    (h : EX K W tl δ (fun w δ1 => ∃ ds, w = .d (.tuple ds) ∧ NoMl δ1 vs ∧ Inv ds 0 [] (wipeD δ1 vs) ∧ LcI K tt te vs ok f ds (Inv ds) ∧ ∀ acc δ', Inv ds ds.length acc δ' → p acc δ') ex) : FX K W (tLc (iTup K tl) g tt te vs) δ p ex :=
  fun m H σ I Q k k2 => h m H σ I _ (fun v w H1 δ1 g1 s1 I1 o1 ⟨ds, e, nv, i0, turn, fin⟩ => by
    subst e
    obtain ⟨a, xs, rfl, hs, r⟩ := dd_tup o1
    refine ⟨a, rfl, ⟨xs, Same.tup hide_same hs⟩, fun D hD => ?_⟩
    have nD : ¬ m D := fun z => I1.got D z hD
    refine lc_tup (K := K) (a := a) (xs := xs) (fun k H' => ∃ δ' acc, LcS K m D vs σ δ1 H1 (Inv ds k) H' δ' acc) ⟨_, _, lc_start I1 hD nv i0⟩ (fun k H' _ ⟨δ', acc, S⟩ => Same.tup (hide_same.trans erase_same) (Same.tup S.same hs)) ?_ ?_
    · rintro k x H' hx ⟨δ', acc, S⟩
      obtain ⟨d, hd, dd⟩ := r.get' hx
      obtain ⟨hok, hb⟩ := turn k d acc δ' hd S.inv
      exact lc_turn tg nD S (dd.mono S.same) hok hb fun H2 δ2 acc2 S2 => ⟨δ2, acc2, S2⟩
    · rintro H' ⟨δ', acc, S⟩
      have iv := S.inv
      rw [r.length] at iv
      exact lc_end nD g1 s1 S (fin acc δ' iv) k) k2
theorem fx_lcR1 {ta : TA} {p : List PyData → Sto → Prop} (tg : TgC K g vs ok f) (Inv : Nat → List PyData → Sto → Prop)
    (h : AX K W ta δ (fun ws δ1 => ∃ n : Int, ws = [.d (.int n)] ∧ (-1000000 ≤ n ∧ n ≤ 1000000000) ∧ NoMl δ1 vs ∧ Inv 0 [] (wipeD δ1 vs) ∧ LcI K tt te vs ok f (rangeD 0 n.toNat) Inv ∧ ∀ acc δ', Inv n.toNat acc δ' → p acc δ') ex) : FX K W (tLc (iRng1 ta) g tt te vs) δ p ex :=
  fun m H σ I Q k k2 => h m H σ I _ (fun v w H1 δ1 g1 s1 I1 o1 ⟨n, e, hb, nv, i0, turn, fin⟩ => by
    subst e
    obtain ⟨v, rfl, hv⟩ := vw1 o1
    cases dd_int hv
    refine ⟨n, rfl, by omega, by omega, fun D hD => ?_⟩
    have nD : ¬ m D := fun z => I1.got D z hD
    refine lc_range (lo := 0) (n := n.toNat) (fun k H' => ∃ δ' acc, LcS K m D vs σ δ1 H1 (Inv k) H' δ' acc) ⟨_, _, lc_start I1 hD nv i0⟩ ?_ ?_
    · rintro k H' hk ⟨δ', acc, S⟩
      obtain ⟨hok, hb⟩ := turn k _ acc δ' (rangeD_get hk) S.inv
      exact lc_turn tg nD S (.int _) hok hb fun H2 δ2 acc2 S2 => ⟨δ2, acc2, S2⟩
    · rintro H' ⟨δ', acc, S⟩
      exact lc_end nD g1 s1 S (fin acc δ' S.inv) k) k2
end
/-- tests of a comprehension without any -/
theorem tx_yes {K : PySem.W.Frag} {W : WX} {δ : Sto} {p : Bool → Sto → Prop} {ex : XP} (q : p true δ) : TX K W tYes δ p ex := fun m H σ I Q k _ => k true H δ .refl (.refl δ) I q
end M3
namespace M3
open PySem PySem.Spec PyProof.Rows L2
variable [NmC]

/-! ### a def whose first argument is a list that it changes -/
def st0M (n : Nat) (p : Addr) (es ds : List PyData) : Sto := .ml p es :: st0 (n - 1) ds
section
variable {P : Program} {w : World} {K : PySem.W.Frag} {mg : Str → Option Value} {base : Heap} {k : Nat} {f : Addr} {fd : FuncData} {ps N : List Str}
theorem st0_noml {n i : Nat} {ds es : List PyData} {p : Addr} : (st0 n ds)[i]? ≠ some (.ml p es) := fun z => by
  unfold st0 at z
  rw [List.getElem?_append] at z
  split at z
  · rw [List.getElem?_map] at z
    cases q : ds[i]? with
    | none => rw [q] at z; cases z
    | some d => rw [q] at z; cases z
  · rw [List.getElem?_replicate] at z
    split at z <;> cases z
theorem own_M {n : Nat} {p a : Addr} {es ds : List PyData} : own (st0M n p es ds) a ↔ a = p := by
  constructor
  · rintro ⟨i, fs, h⟩
    cases i with
    | zero =>
      have h : some (Sl.ml p es) = some (.ml a fs) := h
      cases h
      rfl
    | succ i => exact absurd (show (st0 (n - 1) ds)[i]? = some (.ml a fs) from h) st0_noml
  · rintro rfl
    exact ⟨0, es, rfl⟩
theorem hide_M {m : Addr → Prop} {n : Nat} {p : Addr} {es ds : List PyData} {H : Hp} : hide (hid m (st0M n p es ds)) H = hide m (erase p H) := by
  funext a
  by_cases c : a = p
  · have h1 : hid m (st0M n p es ds) a := .inr (own_M.mpr c)
    unfold hide
    rw [if_pos h1, c, erase_at]
    simp
  · by_cases c2 : m a
    · have h1 : hid m (st0M n p es ds) a := .inl c2
      unfold hide
      rw [if_pos h1, if_pos c2]
    · have h1 : ¬ hid m (st0M n p es ds) a := fun z => z.elim c2 fun z => c (own_M.mp z)
      rw [hide_of h1, hide_of c2, erase_ne c]
theorem stM_env {H : Hp} {m : Addr → Prop} {n : Nat} {p : Addr} {vr xs : List V} {es ds : List PyData} (got : ∀ a, m a → H a ≠ none) (tbi : TabI K m H) (np : ¬ m p) (hp : H p = some (.lst xs)) (r1 : Da K (hide m (erase p H)) xs es) (r2 : Da K (hide m (erase p H)) vr ds) :
    Env3 K m H ((V.ref p :: vr).map some ++ List.replicate (n - (V.ref p :: vr).length) none) (st0M n p es ds) := by
  have gotE : ∀ a, m a → erase p H a ≠ none := fun a ha => by
    have ne : a ≠ p := fun z => np (z ▸ ha)
    rw [erase_ne ne]
    exact got a ha
  have tbE : TabI K m (erase p H) := ⟨fun a o ha e => by
      have ne : a ≠ p := fun z => np (z ▸ ha)
      rw [erase_ne ne] at e
      exact tbi.ls a o ha e, fun P hP => (tbi.has P hP).erase hp⟩
  have I1 : Env3 K m (erase p H) (vr.map some ++ List.replicate (n - 1 - vr.length) none) (st0 (n - 1) ds) := st0_env r2 gotE tbE
  have e1 : (V.ref p :: vr).map some ++ List.replicate (n - (V.ref p :: vr).length) (none : Option V) = some (V.ref p) :: (vr.map some ++ List.replicate (n - 1 - vr.length) none) := by
    have : n - (V.ref p :: vr).length = n - 1 - vr.length := by
      rw [List.length_cons]
      omega
    rw [this]
    rfl
  rw [e1]
  have hm : Same (hide (hid m (st0 (n - 1) ds)) (erase p H)) (hide (hid m (st0M n p es ds)) H) := by
    rw [hide_M]
    exact sub_hide
  refine ⟨?_, fun i d h => ?_, fun i q fs h => ?_, fun i j q fs gs hi hj => ?_, got, tbi⟩
  · show _ + 1 = _ + 1
    rw [I1.len]
  · cases i with
    | zero => exact absurd h (fun z => by cases (show some (Sl.ml p es) = some (.dat d) from z))
    | succ i =>
      obtain ⟨v, h1, h2⟩ := I1.dat i d h
      exact ⟨v, h1, h2.mono hm⟩
  · cases i with
    | zero =>
      cases (show some (Sl.ml p es) = some (.ml q fs) from h)
      exact ⟨rfl, np, xs, hp, by rw [hide_M]; exact r1⟩
    | succ i => exact absurd (show (st0 (n - 1) ds)[i]? = some (.ml q fs) from h) st0_noml
  · cases i with
    | zero =>
      cases j with
      | zero => rfl
      | succ j => exact absurd (show (st0 (n - 1) ds)[j]? = some (.ml q gs) from hj) st0_noml
    | succ i => exact absurd (show (st0 (n - 1) ds)[i]? = some (.ml q fs) from hi) st0_noml
theorem fn_mut {x qual : Str} {st : Stmt} {n : Nat} {α : Type} {enc : α → List PyData} {pre : List PyData → α → Prop} {post : List PyData → α → PyData → List PyData → Prop} (F : Fd K x qual st f fd) (S : FnScope N ps (defScope st)) (hn : ps.length = n + 1)
    (body : ∀ (cdv : Value) (A : Around) (outer : List Env) (s : Shared) (H : Hp) (E : XK), A.guards = some [] → Room k (A.deeper (envOfC qual (defScope st) s.heap.objs.size f cdv)) →
      ∃ t, PSs (bodyX P w K mg base N qual st f cdv A outer s H E) (defBody st) t ∧ ∀ p es a, pre es a → SX K (W0 E) t (st0M N.length p es (enc a))
        (RM p (post es a))) :
    FnG P w K mg base (k + 1) f fd ps (spM K n enc pre post) := by
  refine fn_body F S (fun vs H Q E ⟨m, p, vr, xs, es, a, e, _, _, _, _, _, r, hl, _⟩ => by rw [e, List.length_cons, r.length, hl, hn]) fun cdv A outer s H vs Q E hgd hr h => ?_
  obtain ⟨m, p, vr, xs, es, a, rfl, got, tbi, np, hp, r1, r2, hl, hpre, q⟩ := h
  obtain ⟨t, ht, hb⟩ := body cdv A outer s H E hgd hr
  have I0 : Env3 K m H (start N (V.ref p :: vr)) (st0M N.length p es (enc a)) := stM_env got tbi np hp r1 r2
  have fin : ∀ {v : V} {d : PyData} {fs : List PyData} {σ' : L2.St} {H' : Hp} {δ' : Sto}, Gw m (st0M N.length p es (enc a)) H δ' H' → Env3 K m H' σ' δ' → Dd K (hide (hid m δ') H') v d → δ'[0]? = some (.ml p fs) → post es a d fs → Q v H' := fun {v d fs σ' H' δ'} g J o h0 pp => by
    obtain ⟨_, _, ys, hy, ry⟩ := J.ml 0 p fs h0
    have sub : Same (hide (hid m δ') H') (hide m (erase p H')) := .of fun b o z => by
      obtain ⟨c, z⟩ := hide_in z
      have ne : b ≠ p := fun y => c (.inr ⟨0, fs, by rw [y]; exact h0⟩)
      exact hide_some (fun y => c (.inl y)) (by rw [erase_ne ne]; exact z)
    refine q v d ys fs H' ?_ g.keep hy (ry.mono sub) (o.mono sub) pp
    have gs := g.same
    rw [hide_M] at gs
    exact gs.trans sub
  exact ⟨t, ht, hb p es a hpre m H _ I0 _ (fun σ' H' δ' g J ⟨fs, h0, pp⟩ => fin g J .non h0 pp) (fun v w σ' H' δ' g J o ⟨d, fs, e, h0, pp⟩ => by
    subst e
    exact fin g J o h0 pp) (fun _ _ _ _ _ z => z.elim) (fun _ _ _ _ _ z => z.elim) (fun _ _ _ _ _ _ z => z.elim)⟩
end

/-! ### the end of a law over such promises -/
theorem cx_none {P : Program} {w : World} {H : Hp} {s s' : Shared} {e : Value} (h : L2.CX P w [] H s (fun _ _ _ => False) e s') : False := by
  obtain ⟨_, _, _, _, _, _, _, _, _, _, _, _, z⟩ := h
  exact z
/-- what law(script) promises -/
def spScript (K : PySem.W.Frag) : Sp := spD K 1 (fun ns : List Int => [.list (ns.map .int)]) (fun ns => ns.length ≤ 63) (fun _ d => d = .bool true) (fun _ _ => False)
theorem script_sp {K : PySem.W.Frag} {H : Hp} {a : Addr} {ns : List Int} (hl : ns.length ≤ 63) (h : SqL K H a (ns.map V.int)) (ht : ∀ P, TK K P → Tb H P) : spScript K [.ref a] H (fun v _ => v = .bl true) fun _ _ _ => False := by
  refine ⟨fun _ => False, ns, fun _ z => z.elim, ⟨fun _ _ z => z.elim, ht⟩, .cons (.lst (Same.seq (.of fun b o z => ?_) h) (Da.of_ints ns)) .nil, rfl, hl, fun v d H' _ o e => ?_, fun _ _ _ z => z⟩
  · exact hide_some (fun y => y) z
  · subst e
    exact dd_bool o
/-- a code object c of the base and its table P -/
structure TabX (base : Heap) (mg : Str → Option Value) (c P : Addr) : Prop where
  hd : PySem.W.CodeHd base c P
  bm : base.BuiltinsAt mg P
  ne : mainGlobals ≠ P
def emptyT : Obj := { cls := .none, data := .fields #[] }
/-- the script's own object and the tables -/
noncomputable def lawH (a : Addr) (u : Option HO) (cs : List (Addr × Addr)) : Hp := open Classical in fun b => if b = a then u else if b ∈ cs.map (·.2) then some (.tbl #[]) else none
theorem run_law {P : Program} {w : World} {K : PySem.W.Frag} {mg mb : Str → Option Value} {k : Nat} {fa a : Addr} {fd : FuncData} {x : Str} {s₁ : Shared} {vs : List Value} {ns : List Int} {cs : List (Addr × Addr)}
    (KX : K.In s₁.heap) (hns : s₁.heap.Ns mainGlobals mg) (hb : s₁.heap.Ns builtinsNs mb) (hbb : ∀ x : Str, x ≠ "__name__" → mb x = bootBuiltins x) (hlim : s₁.heap.NoLimit) (hg : s₁.gens = #[])
    (tE : ∀ p ∈ cs, s₁.heap.get? p.2 = some emptyT) (tN : ∀ p ∈ cs, K.lookup p.2 = none) (tC : ∀ p ∈ cs, PySem.W.CodeHd s₁.heap p.1 p.2) (tK : ∀ Q, TK K Q → Q ∈ cs.map (·.2))
    (bmn : ∃ (bm : Addr) (ob : Obj), mg "__builtins__" = some (.ref bm) ∧ bm ≠ builtinsNs ∧ s₁.heap.get? bm = some ob ∧ ob.cls = .type "module" ∧ ob.dict = some builtinsNs ∧ ob.data = .plain)
    (ha : s₁.heap.get? a = some { cls := .type "list", data := .seq vs.toArray }) (hi : IntsAre vs ns) (hl : ns.length ≤ 63) (hr : Room k callerA)
    (F : ∀ base : Heap, K.In base → base.Ns mainGlobals mg → (∀ p ∈ cs, TabX base mg p.1 p.2) → FnG P w K mg base k fa fd [x] (spScript K)) (hbind : ∀ (s : Shared) (u : Value), BindsTo s fd ⟨[u], []⟩ [(x, u)]) :
    codeAny (model P w) callerA (.call (.ref fa) ⟨[.ref a], []⟩) (fun r s' => r = .ok (.ret (.bool true)) ∧ OldK s₁.heap s'.heap ∧ s'.os = s₁.os ∧ AllBare s'.gens) s₁ := by
  have rv := vals_ints hi
  have hl2 : ns.length ≤ sizeLine := Nat.le_trans hl (by decide)
  have tAt : ∀ b, b ∈ cs.map (·.2) → s₁.heap.get? b = some emptyT := fun b hb => by
    obtain ⟨p, hp, rfl⟩ := List.mem_map.mp hb
    exact tE p hp
  have aT : a ∉ cs.map (·.2) := fun z => by
    have q := ha.symm.trans (tAt a z)
    cases (show Data.seq vs.toArray _ = Data.fields #[] from congrArg Obj.data (Option.some.inj q))
  have from_u : ∀ u : Option HO, (u = none ∨ ∃ ob xs, u = some (.frz ob (.lst xs))) → SqL K (lawH a u cs) a (ns.map V.int) → HOk P w (lawH a u cs) s₁.heap → (u ≠ none → K.lookup a = none) →
      codeAny (model P w) callerA (.call (.ref fa) ⟨[.ref a], []⟩) (fun r s' => r = .ok (.ret (.bool true)) ∧ OldK s₁.heap s'.heap ∧ s'.os = s₁.os ∧ AllBare s'.gens) s₁ := by
    intro u hu hS hok hK
    have atT : ∀ b, b ∈ cs.map (·.2) → lawH a u cs b = some (.tbl #[]) := fun b hb => by
      have ne : b ≠ a := fun z => aT (z ▸ hb)
      exact (if_neg ne).trans (if_pos hb)
    have off : ∀ b, b ≠ a → b ∉ cs.map (·.2) → lawH a u cs b = none := fun b h1 h2 => (if_neg h1).trans (if_neg h2)
    have free : ∀ {b : Addr} {o : Obj}, s₁.heap.get? b = some o → (∀ us n, o.data ≠ .seq us n) → o ≠ emptyT → lawH a u cs b = none := fun {b o} e h1 h2 => by
      refine off b (fun z => ?_) fun z => ?_
      · subst z
        rw [ha] at e
        cases e
        exact h1 _ _ rfl
      · rw [tAt b z] at e
        exact h2 (Option.some.inj e).symm
    have nsK : ∀ {b : Addr} {m : Str → Option Value}, s₁.heap.Ns b m → (hidT s₁.heap (lawH a u cs)).Ns b m := fun {b m} ⟨o, es, ep, e, d, r⟩ =>
      ⟨o, es, ep, hidT_get e (free e (fun us n z => by rw [d] at z; cases z) fun z => by rw [z] at d; cases d), d, r⟩
    have hKb : K.In (hidT s₁.heap (lawH a u cs)) := fun b o e => hidT_get (KX b o e) (by
      by_cases c : b = a
      · subst c
        by_cases q : u = none
        · exact (if_pos rfl).trans q
        · rw [hK q] at e
          cases e
      · refine off b c fun z => ?_
        obtain ⟨p, hp, rfl⟩ := List.mem_map.mp z
        rw [tN p hp] at e
        cases e)
    have md : Mod K mg (hidT s₁.heap (lawH a u cs)) := ⟨hKb, nsK hns, ⟨mb, nsK hb, hbb⟩, by
      obtain ⟨mc, h1, h2⟩ := hlim
      exact ⟨mc, nsK h1, h2⟩⟩
    have tX : ∀ p ∈ cs, TabX (hidT s₁.heap (lawH a u cs)) mg p.1 p.2 := fun p hp => by
      have hTp := tE p hp
      obtain ⟨og, esg, epg, eg, dg, _⟩ := id hns
      refine ⟨?_, ?_, fun z => ?_⟩
      · obtain ⟨o, us, file, tf, flags, tg, inF, text, tt, e1, r1, r2, r3, rest⟩ := tC p hp
        refine ⟨o, us, file, tf, flags, tg, inF, text, tt, hidT_get e1 (free e1 (fun vs n z => ?_) fun z => ?_), r1, r2, r3, rest⟩
        · rw [r2] at z; cases z
        · rw [z] at r2
          cases (show Data.fields #[] = Data.fields us from r2)
          simp at r3
      · obtain ⟨bm, ob, b1, b2, b3, b4, b5, b6⟩ := bmn
        have nG : bm ≠ mainGlobals := fun q => by
          rw [q] at b3
          cases eg.symm.trans b3
          rw [dg] at b6
          cases b6
        have nP : bm ≠ p.2 := fun q => by
          rw [q] at b3
          cases hTp.symm.trans b3
          cases b6
        exact ⟨bm, ob, b1, b2, nG, nP, hidT_get b3 (free b3 (fun vs n z => by rw [b6] at z; cases z) fun z => by rw [z] at b6; cases b6), b4, b5, b6⟩
      · rw [z] at eg
        cases hTp.symm.trans eg
        cases dg
    have e0 : Env0 P w K mg (hidT s₁.heap (lawH a u cs)) callerA [] s₁ (lawH a u cs) := ⟨rfl, md, fun b o e => of_hidT e, Nat.le_of_eq (hidT_size _ _), trivial, fun b hb => absurd (show b ∈ ([] : List Addr) from hb) (by simp), hok, .of_eq hg⟩
    refine codeAny_mono ((F _ hKb (nsK hns) tX).run callerA [] s₁ (lawH a u cs) ⟨[.ref a], []⟩ [.ref a] [.ref a] _ _ rfl hr e0 (hbind s₁ (.ref a)) (.cons rfl .nil) (script_sp hl hS fun Q hQ => ⟨#[], atT Q (tK Q hQ), trivial, fun _ _ pos cv z => by simp [codeAmong] at z⟩)) ?_
    rintro (er | fl) s' h
    · exact (cx_none h).elim
    · cases fl with
      | next => exact h.elim
      | brk => exact h.elim
      | cont => exact h.elim
      | ret u' =>
        obtain ⟨v, H', os, bare, un, hok', r', q⟩ := h
        cases (show v = V.bl true from q)
        cases (show u' = Value.bool true from r')
        have kept : ∀ b o, b ∉ cs.map (·.2) → s₁.heap.get? b = some o → s'.heap.get? b = some o := fun b o nb e => by
          by_cases c : lawH a u cs b = none
          · exact un.keep b o e c (by intro y; exact absurd (show b ∈ ([] : List Addr) from y) (by simp)) (by simp)
          · have ca : b = a := by
              by_cases y : b = a
              · exact y
              · exact absurd (off b y nb) c
            have z : lawH a u cs b = u := if_pos ca
            rcases hu with hu | ⟨ob, xs, hu⟩
            · exact absurd (z.trans hu) c
            · have e1 := (hok b _ (z.trans hu)).1
              have e2 := (hok' b _ (un.frzs b _ _ (z.trans hu))).1
              rw [e] at e1
              cases e1
              exact e2
        have grow : ∀ p ∈ cs, ∃ more : Array Value, s'.heap.get? p.2 = some { cls := .none, data := .fields more } := fun p hp => by
          obtain ⟨more, z⟩ := un.tbls p.2 #[] (atT _ (List.mem_map.mpr ⟨p, hp, rfl⟩))
          exact ⟨_, hok' p.2 _ z⟩
        refine ⟨rfl, ⟨fun b o e => ?_, fun b o e => ?_⟩, os, bare⟩
        · by_cases c : b ∈ cs.map (·.2)
          · obtain ⟨p, hp, rfl⟩ := List.mem_map.mp c
            obtain ⟨more, hm⟩ := grow p hp
            cases (tE p hp).symm.trans e
            exact .inr (.inl ⟨((tC p hp).tab (tE p hp)).isCodeTable, rfl, #[], more, rfl, by rw [Array.empty_append]; exact hm⟩)
          · exact .inl (kept b o c e)
        · by_cases c : b ∈ cs.map (·.2)
          · obtain ⟨p, hp, rfl⟩ := List.mem_map.mp c
            obtain ⟨more, hm⟩ := grow p hp
            exact ⟨_, hm⟩
          · exact ⟨o, kept b o c e⟩
  have okT : ∀ u : Option HO, (∀ x, u = some x → ObjOk P w (lawH a u cs) s₁.heap a x) → HOk P w (lawH a u cs) s₁.heap := fun u h b x z => by
    by_cases c : b = a
    · subst c
      exact h x ((if_pos rfl).symm.trans z)
    · have z1 := (if_neg c).symm.trans z
      by_cases c2 : b ∈ cs.map (·.2)
      · cases (if_pos c2).symm.trans z1
        exact tAt b c2
      · cases (if_neg c2).symm.trans z1
  cases hk : K.lookup a with
  | some o =>
    have e := KX a o hk
    rw [ha] at e
    cases e
    exact from_u none (.inl rfl) (.inr ⟨_, vs.toArray, _, hk, rfl, rfl, rfl, by rw [List.size_toArray, hi.length]; exact hl2, by simpa using rv⟩) (okT none fun x z => nomatch z) fun z => absurd rfl z
  | none =>
    refine from_u (some (.frz { cls := .type "list", data := .seq vs.toArray } (.lst (ns.map V.int)))) (.inr ⟨_, _, rfl⟩) (.inl (.inr ⟨{ cls := .type "list", data := .seq vs.toArray }, if_pos rfl⟩)) (okT _ fun x z => ?_) fun _ => hk
    cases z
    exact ⟨ha, by rw [List.length_map]; exact hl2, vs, _, rv, ha⟩
theorem walk_law {l : PySem.W.OpenLaw} {k : Nat} {q : Program} {loose : List Str} {XP : (Str → Option Value) → Heap → Prop} {YP : World → Heap → Prop} {d : DefRec} {K : Params → PySem.W.Frag} {x : Str}
    (hn : l.most = some 63) (hdf : d.params.defaults = []) (hr : Room k callerA) (hY : ∀ (w : World) (h : Heap), YP w h → (K w.params).In h)
    (F : ∀ (w : World) (mg : Str → Option Value) (fa : Addr) (h : Heap), YP w h → (K w.params).In h → h.Ns mainGlobals mg → mg d.name = some (.ref fa) →
      ∃ (fd : FuncData) (cs : List (Addr × Addr)), (∀ p ∈ cs, h.get? p.2 = some emptyT) ∧ (∀ p ∈ cs, (K w.params).lookup p.2 = none) ∧ (∀ p ∈ cs, PySem.W.CodeHd h p.1 p.2) ∧ (∀ Q, TK (K w.params) Q → Q ∈ cs.map (·.2)) ∧
        (∀ (s : Shared) (u : Value), BindsTo s fd ⟨[u], []⟩ [(x, u)]) ∧ ∀ base : Heap, (K w.params).In base → base.Ns mainGlobals mg → (∀ p ∈ cs, TabX base mg p.1 p.2) → FnG l.prog w (K w.params) mg base k fa fd [x] (spScript (K w.params))) :
    PySem.W.WalkO q loose XP YP l.row.toRowW d [] (fun f vs => PySem.call f vs) :=
  Att.attach_call hn hdf fun w s₀ s₁ mg mb fa o pm cd doc a vs ns G Y _ _ _ hmg hobj hints hlen hg => by
    have KX := hY w _ Y
    obtain ⟨fd, cs, t1, t2, t3, t4, hb, hF⟩ := F w mg fa _ Y KX G.T.g hmg
    exact run_law KX G.T.g G.T.b G.T.builtins G.T.nolimit hg t1 t2 t3 t4 G.T.bmain hobj hints hlen hr hF hb
end M3
namespace M3
open PySem PySem.Spec PyProof.Rows L2
variable [NmC]
/-! ### small helpers -/
theorem ex_or1 {K : PySem.W.Frag} {W : WX} {δ : Sto} {ex : XP} {post : Vw → Sto → Prop} {ta : TE} (h : EX K W ta δ (fun w δ' => ∃ n : Int, w = .d (.int n) ∧ post (.d (.int (if n = 0 then 1 else n))) δ') ex) : EX K W (tOrT K ta (tC (.int 1))) δ post ex :=
  ex_orT (b := true) (h.imp (fun w δ' ⟨n, e, q⟩ => ⟨.int n, n != 0, e, rfl, fun c => by
    have c' : n ≠ 0 := by simpa using c
    rw [if_neg c'] at q
    exact q, fun c => by
    have c' : n = 0 := by simpa using c
    rw [if_pos c'] at q
    exact ex_int q⟩) fun _ _ e => e)
theorem sIx_n (n a : Nat) : HT.sIx n 0 (some (a : Int)) = min a n := HT.sIx_nat n 0 a
theorem cut_to (xs : List PyData) (a : Nat) : cutD xs none (some (a : Int)) = xs.take a := by
  unfold cutD
  rw [HT.sIx_none, HT.sIx_nat, List.drop_zero, Nat.sub_zero]
  by_cases h : a ≤ xs.length
  · rw [Nat.min_eq_left h]
  · rw [Nat.min_eq_right (by omega), List.take_of_length_le (Nat.le_refl _), List.take_of_length_le (by omega)]
theorem cut_from (xs : List PyData) (a : Nat) : cutD xs (some (a : Int)) none = xs.drop a := by
  unfold cutD
  rw [HT.sIx_none, HT.sIx_nat]
  by_cases h : a ≤ xs.length
  · rw [Nat.min_eq_left h, List.take_of_length_le (by rw [List.length_drop]; exact Nat.le_refl _)]
  · rw [Nat.min_eq_right (by omega), List.drop_of_length_le (Nat.le_refl _), List.drop_of_length_le (by omega), List.take_nil]
/-! ### isinstance by kinds -/
def isI : PyData → Bool
  | .int _ => true
  | .bool _ => true
  | _ => false
def isB : PyData → Bool
  | .bool _ => true
  | _ => false
def isT : PyData → Bool
  | .tuple _ => true
  | _ => false
def isS : PyData → Bool
  | .str _ => true
  | _ => false
def isL : PyData → Bool
  | .list _ => true
  | _ => false
theorem kit_int (d : PyData) : kitB (tyN d) "int" = some (isI d) := by cases d <;> (simp only [tyN, isI, isB, isT, isS, isL]; decide +kernel)
theorem kit_bool (d : PyData) : kitB (tyN d) "bool" = some (isB d) := by cases d <;> (simp only [tyN, isI, isB, isT, isS, isL]; decide +kernel)
theorem kit_tuple (d : PyData) : kitB (tyN d) "tuple" = some (isT d) := by cases d <;> (simp only [tyN, isI, isB, isT, isS, isL]; decide +kernel)
theorem kit_str (d : PyData) : kitB (tyN d) "str" = some (isS d) := by cases d <;> (simp only [tyN, isI, isB, isT, isS, isL]; decide +kernel)
theorem kit_list (d : PyData) : kitB (tyN d) "list" = some (isL d) := by cases d <;> (simp only [tyN, isI, isB, isT, isS, isL]; decide +kernel)
/-! ### ratios as data -/
def dR (q : Rat) : PyData := .tuple [.int q.num, .int (q.den : Int)]
/-- below 2 ^ n in size (opaque to omega) -/
structure Bd (n : Nat) (i : Int) : Prop where
  lt : i.natAbs < 2 ^ n
theorem Bd.mono {n k : Nat} {i : Int} (h : Bd n i) (e : n ≤ k) : Bd k i := ⟨Nat.lt_of_lt_of_le h.lt (Nat.pow_le_pow_right (by decide) e)⟩
theorem Bd.neg {n : Nat} {i : Int} (h : Bd n i) : Bd n (-i) := ⟨by rw [Int.natAbs_neg]; exact h.lt⟩
theorem Bd.mul {i j : Int} {a b : Nat} (ha : Bd a i) (hb : Bd b j) : Bd (a + b) (i * j) := ⟨wide_lt ha.lt hb.lt⟩
theorem Bd.add {i j : Int} {a : Nat} (ha : Bd a i) (hb : Bd a j) : Bd (a + 1) (i + j) := ⟨by
  have h := Int.natAbs_add_le i j
  have h1 := ha.lt
  have h2 := hb.lt
  rw [Nat.pow_succ]
  omega⟩
theorem Bd.lit {n : Nat} {i : Int} (h : decide (i.natAbs < 2 ^ n) = true) : Bd n i := ⟨of_decide_eq_true h⟩
/-- both parts below 2 ^ n -/
structure Sz (n : Nat) (q : Rat) : Prop where
  num : Bd n q.num
  den : Bd n (q.den : Int)
theorem Sz.mono {n k : Nat} {q : Rat} (h : Sz n q) (e : n ≤ k) : Sz k q := ⟨h.num.mono e, h.den.mono e⟩
theorem mulW {i j : Int} {a b : Nat} (ha : Bd a i) (hb : Bd b j) (h : a + b ≤ 999998) : CMulW i j :=
  wide_mul (a := a + 1) (b := b + 1) (ha.mono (Nat.le_succ a)).lt (hb.mono (Nat.le_succ b)).lt (Nat.succ_pos _) (Nat.succ_pos _) (by omega)
theorem den_ne (q : Rat) : (q.den : Int) ≠ 0 := by
  have := q.den_pos
  omega
theorem num_divInt_den (q : Rat) : Rat.divInt q.num q.den = q := Rat.num_divInt_den q
theorem neg_iff (p : Rat) : p < 0 ↔ p.num < 0 := by simp [Rat.lt_iff]
theorem pos_iff (p : Rat) : 0 < p ↔ 0 < p.num := by simp [Rat.lt_iff]
theorem shaped_dR (q : Rat) : SeqAt.shaped (dR q) = true := by
  show (PyData.canLay0 (.tuple [.int q.num, .int q.den]) && decide (PyData.depth (.tuple [.int q.num, .int q.den]) ≤ 64)) = true
  simp [PyData.canLay0, PyData.canLayAll0, PyData.depth, PyData.depthAll]
theorem shaped_int (i : Int) : SeqAt.shaped (.int i) = true := by simp [SeqAt.shaped, PyData.canLay0, PyData.depth]
theorem eqv_int (i j : Int) : PyData.eqv (.int i) (.int j) = (i == j) := rfl
theorem eqv_dR (p q : Rat) : PyData.eqv (dR p) (dR q) = decide (p = q) := by
  show PyData.eqv (.tuple [.int p.num, .int p.den]) (.tuple [.int q.num, .int q.den]) = decide (p = q)
  simp only [PyData.eqv, PyData.eqvAll, Bool.and_true]
  by_cases h : p = q
  · subst h
    simp
  · rw [decide_eq_false h]
    apply Bool.eq_false_iff.mpr
    intro z
    simp only [Bool.and_eq_true, beq_iff_eq] at z
    exact h (Rat.ext z.1 (by omega))

/-! ### the ratio of two integers, as the program makes it -/
theorem fdiv_pos (a : Int) {g : Int} (h : 0 ≤ g) : a.fdiv g = a / g := Int.fdiv_eq_ediv_of_nonneg a h
theorem gcd_int (a b : Int) : ((Nat.gcd a.natAbs b.natAbs : Nat) : Int) = (Int.gcd b a : Nat) := by
  rw [Int.gcd_comm]
  rfl
theorem ratio_num_pos {a b : Int} (hb : 0 < b) : a / (Int.gcd b a : Nat) = (Rat.divInt a b).num := by
  rw [Rat.num_divInt, Int.sign_eq_one_of_pos hb, Int.one_mul]
theorem ratio_den_pos {a b : Int} (hb : 0 < b) : b / (Int.gcd b a : Nat) = ((Rat.divInt a b).den : Int) := by
  rw [Rat.den_divInt, if_neg (by omega)]
  have e : b = (b.natAbs : Int) := by omega
  rw [e]
  exact (Int.natCast_ediv _ _).symm
theorem ratio_neg (a b : Int) : Rat.divInt (-a) (-b) = Rat.divInt a b := by
  by_cases h : b = 0
  · subst h
    simp [Rat.divInt_zero]
  · rw [Rat.divInt_eq_divInt_iff (by omega) h]
    rw [Int.neg_mul, Int.mul_neg]
theorem fdiv_neg_neg (a : Int) {g : Int} (h : 0 < g) (hd : g ∣ a) : a.fdiv (-g) = (-a) / g := by
  obtain ⟨k, rfl⟩ := hd
  have e : g * k = (-g) * (-k) := by rw [Int.neg_mul_neg]
  rw [e, Int.mul_fdiv_cancel_left _ (by omega), ← Int.neg_mul, Int.neg_neg, Int.mul_ediv_cancel_left _ (by omega)]
theorem gcd_pos_int {a b : Int} (h : b ≠ 0) : 0 < ((Int.gcd b a : Nat) : Int) := by
  have : 0 < Int.gcd b a := Int.gcd_pos_of_ne_zero_left a h
  omega
/-- the tuple that ratio(a, b) hands back: b above 0, b below 0 -/
theorem dR_pos {a b : Int} (hb : 0 < b) : PyData.tuple [.int (a.fdiv ((Nat.gcd a.natAbs b.natAbs : Nat) : Int)), .int (b.fdiv ((Nat.gcd a.natAbs b.natAbs : Nat) : Int))] = dR (Rat.divInt a b) := by
  have g := gcd_pos_int (a := a) (b := b) (by omega)
  rw [gcd_int, fdiv_pos _ (by omega), fdiv_pos _ (by omega), ratio_num_pos hb, ratio_den_pos hb]
  rfl
theorem dR_neg {a b : Int} (hb : b < 0) : PyData.tuple [.int (a.fdiv (-((Nat.gcd a.natAbs b.natAbs : Nat) : Int))), .int (b.fdiv (-((Nat.gcd a.natAbs b.natAbs : Nat) : Int)))] = dR (Rat.divInt a b) := by
  have g := gcd_pos_int (a := a) (b := b) (by omega)
  rw [gcd_int, fdiv_neg_neg _ g (Int.gcd_dvd_right _ _), fdiv_neg_neg _ g (Int.gcd_dvd_left _ _), ← ratio_neg]
  have e : Int.gcd b a = Int.gcd (-b) (-a) := by rw [Int.gcd_neg, Int.neg_gcd]
  rw [e, ratio_num_pos (by omega), ratio_den_pos (by omega)]
  rfl
theorem gcd_lt {a b : Int} {n : Nat} (h : b ≠ 0) (hb : Bd n b) : Bd n ((Nat.gcd a.natAbs b.natAbs : Nat) : Int) :=
  ⟨Nat.lt_of_le_of_lt (show Nat.gcd a.natAbs b.natAbs ≤ b.natAbs from Nat.le_of_dvd (by omega) (Nat.gcd_dvd_right _ _)) hb.lt⟩
theorem log_lt {x : Int} {n : Nat} (h : Bd n x) (h0 : 0 < n) : x.natAbs.log2 < n := PySem.Flt.log2_lt_of h0 h.lt
theorem sz_divInt {a b : Int} {n : Nat} (ha : Bd n a) (hb : Bd n b) (h : b ≠ 0) : Sz n (Rat.divInt a b) := by
  have num : (Rat.divInt a b).num.natAbs ≤ a.natAbs := by
    rw [Rat.num_divInt]
    have h1 : (b.sign * a / (Int.gcd b a : Nat)).natAbs ≤ (b.sign * a).natAbs := Int.natAbs_ediv_le_natAbs _ _
    rw [Int.natAbs_mul] at h1
    have h2 : b.sign.natAbs ≤ 1 := by
      rcases Int.lt_trichotomy b 0 with q | q | q
      · rw [Int.sign_eq_neg_one_of_neg q]; decide
      · exact absurd q h
      · rw [Int.sign_eq_one_of_pos q]; decide
    have h3 : b.sign.natAbs * a.natAbs ≤ 1 * a.natAbs := Nat.mul_le_mul_right _ h2
    omega
  have den : (Rat.divInt a b).den ≤ b.natAbs := by
    rw [Rat.den_divInt, if_neg h]
    exact Nat.div_le_self _ _
  exact ⟨⟨Nat.lt_of_le_of_lt num ha.lt⟩, ⟨Nat.lt_of_le_of_lt (show ((Rat.divInt a b).den : Int).natAbs ≤ b.natAbs from den) hb.lt⟩⟩
theorem divInt_add (p q : Rat) : Rat.divInt (p.num * q.den + q.num * p.den) (p.den * q.den) = p + q := by
  have h := Rat.divInt_add_divInt p.num q.num (den_ne p) (den_ne q)
  rw [num_divInt_den, num_divInt_den] at h
  exact h.symm
theorem divInt_mul (p q : Rat) : Rat.divInt (p.num * q.num) (p.den * q.den) = p * q := by
  have h := Rat.divInt_mul_divInt p.num q.num (d₁ := p.den) (d₂ := q.den)
  rw [num_divInt_den, num_divInt_den] at h
  exact h.symm
theorem divInt_div (p q : Rat) (h : q ≠ 0) : Rat.divInt (p.num * q.den) (p.den * q.num) = p / q := by
  have hn : q.num ≠ 0 := fun z => h (Rat.num_eq_zero.mp z)
  have e : Rat.divInt (p.num * q.den) (p.den * q.num) * q = p := by
    have m := Rat.divInt_mul_divInt (p.num * q.den) q.num (d₁ := p.den * q.num) (d₂ := q.den)
    rw [num_divInt_den] at m
    rw [m]
    refine Eq.trans ?_ (num_divInt_den p)
    rw [Rat.divInt_eq_divInt_iff (Int.mul_ne_zero (Int.mul_ne_zero (den_ne p) hn) (den_ne q)) (den_ne p)]
    grind
  grind
theorem num_of_den_one {p q : Rat} (h1 : p.den = 1) (h2 : q.den = 1) : (p + q).num = p.num + q.num ∧ (p + q).den = 1 := by
  have e := divInt_add p q
  rw [h1, h2] at e
  simp only [Int.natCast_one, Int.mul_one] at e
  rw [← e]
  constructor
  · rw [Rat.num_divInt]; simp
  · rw [Rat.den_divInt]; simp
theorem mul_of_den_one {p q : Rat} (h1 : p.den = 1) (h2 : q.den = 1) : (p * q).num = p.num * q.num ∧ (p * q).den = 1 := by
  have e := divInt_mul p q
  rw [h1, h2] at e
  simp only [Int.natCast_one, Int.mul_one] at e
  rw [← e]
  constructor
  · rw [Rat.num_divInt]; simp
  · rw [Rat.den_divInt]; simp
theorem dR_neg_eq (q : Rat) : dR (-q) = .tuple [.int (-q.num), .int q.den] := rfl
theorem sz_neg {n : Nat} {q : Rat} (h : Sz n q) : Sz n (-q) := ⟨h.num.neg, h.den⟩
theorem sz_add {n : Nat} {p q : Rat} (h1 : Sz n p) (h2 : Sz n q) : Sz (2 * n + 1) (p + q) := by
  rw [← divInt_add]
  refine sz_divInt ?_ ?_ (Int.mul_ne_zero (den_ne p) (den_ne q))
  · rw [show 2 * n + 1 = n + n + 1 by omega]
    exact (h1.num.mul h2.den).add (h2.num.mul h1.den)
  · exact (h1.den.mul h2.den).mono (by omega)
theorem sz_mul {n : Nat} {p q : Rat} (h1 : Sz n p) (h2 : Sz n q) : Sz (2 * n) (p * q) := by
  rw [← divInt_mul]
  refine sz_divInt ?_ ?_ (Int.mul_ne_zero (den_ne p) (den_ne q))
  · exact (h1.num.mul h2.num).mono (by omega)
  · exact (h1.den.mul h2.den).mono (by omega)
theorem sz_div {n : Nat} {p q : Rat} (h1 : Sz n p) (h2 : Sz n q) (h : q ≠ 0) : Sz (2 * n) (p / q) := by
  rw [← divInt_div p q h]
  refine sz_divInt ?_ ?_ (Int.mul_ne_zero (den_ne p) fun z => h (Rat.num_eq_zero.mp z))
  · exact (h1.num.mul h2.den).mono (by omega)
  · exact (h1.den.mul h2.num).mono (by omega)
end M3
/-! ### list(reversed(x)) -/
namespace M3
open PySem PySem.Spec PyProof.Rows L2
variable [NmC]
section
variable {prog : Program} {w : World} {A : Around} {E : Value → Shared → Prop} {s : Shared} {I l : Addr} {items : Array Value}
theorem lri_nolen : typeLookup (.type "list_reverseiterator") "__len__" = pure none := by
  rw [typeLookup_type, builtinLookup_eq_fast]; kernel_rfl
theorem lri_hint : typeLookup (.type "list_reverseiterator") "__length_hint__" = pure (some (.builtin "list_reverseiterator.__length_hint__")) := by
  rw [typeLookup_type, builtinLookup_eq_fast]; kernel_rfl
theorem lri_lenHint {Q : Bool → Shared → Prop} (hT : s.TypeIs (.ref I) "list_reverseiterator") (h : Q false s) : wpAny (model prog w) A (Builtin.List.listLengthHint (.ref I)) Q E s := by
  unfold Builtin.List.listLengthHint; refine wpAny_bind (wpAny_specialOf hT lri_nolen ?_)
  show wpAny _ A (specialOf (Value.ref I) (Str.ofString "__length_hint__") >>= _) _ _ s
  refine wpAny_bind (wpAny_specialOf hT lri_hint ?_); generalize hid : ("list_reverseiterator.__length_hint__" : String) = id0
  wp_delta; rw [show splitId id0 = some ("list_reverseiterator", "__length_hint__") from by subst hid; decide +kernel]; subst hid
  refine wpAny_bind (wpAny_isInstance (T := "list_reverseiterator") (b := true) hT (by rw [isSubtype_type]; kernel_rfl) ?_)
  first
  | exact wpAny_pure h
  | (refine wpAny_ite_split (fun hab => absurd hab (by decide)) (fun _ => ?_); exact wpAny_pure h)
  | (refine wpAny_ite_split (fun hab => absurd hab (by decide)) (fun _ => ?_); refine wpAny_ite_split (fun _ => ?_) (fun hab => absurd (by decide +kernel) hab); exact wpAny_pure h)
/-- the walk of a reverse iterator -/
theorem lri_walks (hh : A.handled = none) (ne : l ≠ I) : WalksS prog w A I [I, l] [I] (fun a b => b = a) items.size (fun i v => items[items.size - 1 - i]? = some v)
    (fun i s => i ≤ items.size ∧ s.heap.IsRevIter I l ((items.size : Int) - 1 - (i : Int)) ∧ s.heap.IsList l items) := (Walks.listRev hh I l ne items).toS
theorem lri_extend {R : Result → Shared → Prop} (hh : A.handled = none) (ne : l ≠ I) (S : Addr) (nS : S ∉ [I, l]) (hz : items.size ≤ sizeLine) (c0 : Nat)
    (hi : s.heap.IsRevIter I l ((items.size : Int) - 1)) (hl : s.heap.IsList l items) (hS : s.heap.get? S = some { cls := .type "list", data := .seq #[] c0 })
    (k : ∀ s' acc c', Moved [S, I] (fun a b => b = a) s s' → s'.heap.get? S = some { cls := .type "list", dict := none, data := .seq acc c', slots := #[] } → ItemsOf (fun i v => items[items.size - 1 - i]? = some v) acc items.size → R (.ok (.ret .none)) s') :
    wpAny (model prog w) A.in1 (Builtin.List.listExtendWith (.ref S) (.ref I) .none) (fun fin s' => match fin with | .done f => R (.ok f) s' | .again c' => c'.quiet = true ∧ codeAny (model prog w) A c' R s') (fun e s' => R (.error e) s') s := by
  have nSI : S ≠ I := fun e => nS (by simp [e])
  have hT : s.TypeIs (.ref I) "list_reverseiterator" := hi.typeIs
  have h0 : Builtin.List.listSameRef (.ref S) (.ref I) = false := by simp [Builtin.List.listSameRef, nSI]
  unfold Builtin.List.listExtendWith; refine wpAny_bind (wpAny_typeOf hT ?_)
  rw [if_neg (by rw [h0]; decide)]; refine wpAny_bind (wpAny_pyIter_revIter hi ?_)
  refine wpAny_bind (wpAny_holding (lri_lenHint hT ?_))
  refine wpAny_ite_split (fun c => absurd c (by decide +kernel)) (fun _ => ?_)
  have st : (0 : Nat) ≤ items.size ∧ s.heap.IsRevIter I l ((items.size : Int) - 1 - ((0 : Nat) : Int)) ∧ s.heap.IsList l items := ⟨Nat.zero_le _, by simpa using hi, hl⟩
  exact wpAny_pure ⟨plainId_quiet F.plain_extend_loop _, codeAny_extend_loopS (lri_walks (A := A.in1) hh ne) hz S nS .none items.size 0 _ _ _ rfl (Nat.zero_le _) st hS (ItemsOf.nil _) fun s' acc c' m e i => k s' acc c' m e i⟩
theorem lri_list {Q : Value → Shared → Prop} (hh : A.handled = none) (ne : l ≠ I) (hz : items.size ≤ sizeLine) (hi : s.heap.IsRevIter I l ((items.size : Int) - 1)) (hl : s.heap.IsList l items)
    (k : ∀ h' tk acc c', (∀ b o, b ≠ I → s.heap.get? b = some o → h'.get? b = some o) → h'.get? s.heap.objs.size = some { cls := .type "list", dict := none, data := .seq acc c', slots := #[] } → ItemsOf (fun i v => items[items.size - 1 - i]? = some v) acc items.size →
      Q (.ref s.heap.objs.size) { s with heap := h', toks := tk }) : wpAny (model prog w) A (call (.type "list") [.ref I]) Q E s := by
  obtain ⟨oi, hoi, hci, hdi⟩ := id hi
  obtain ⟨ol, hol, hcl, nl, hdl⟩ := id hl
  have ltI := Heap.lt_size hoi
  have ltl := Heap.lt_size hol
  refine callType_codes (Q₁ := fun obj s1 => obj = .ref s.heap.objs.size ∧ s1 = { s with heap := s.heap.push { cls := .type "list", data := .seq #[] } }) F.called_list (F.typeCall_list_1 _) F.entry_list_init (code_list_new _ ⟨rfl, rfl⟩) fun obj s1 h1 => ?_
  obtain ⟨rfl, rfl⟩ := h1
  have hS : (s.heap.push { cls := .type "list", data := .seq #[] }).get? s.heap.objs.size = some { cls := .type "list", data := .seq #[] } := Heap.get?_push_size _ rfl
  refine ⟨⟨_, hS, rfl⟩, F.args_list_init_2 _ _, ?_⟩
  show wpAny _ _ (do let old ← Builtin.List.listItems (.ref s.heap.objs.size); Builtin.List.listUpdate (.ref s.heap.objs.size) (fun _ => #[]); letGo old.toList.reverse; Builtin.List.listExtendWith (.ref s.heap.objs.size) (.ref I) .none) _ _ _
  refine wpAny_bind ?_; unfold Builtin.List.listItems; refine wpAny_bind (wpAny_seqItems hS rfl (wpAny_pure ?_))
  show wpAny _ _ (updateSeq s.heap.objs.size (fun _ => #[]) >>= fun _ => letGo (#[] : Array Value).toList.reverse >>= fun _ => Builtin.List.listExtendWith (.ref s.heap.objs.size) (.ref I) .none) _ _ _
  refine wpAny_bind (wpAny_updateSeq hS rfl ?_); refine wpAny_bind (wpAny_letGo ?_)
  have hS2 := Heap.get?_update_self (Obj.mapSeq (fun _ => (#[] : Array Value))) hS rfl
  have oth : ∀ b o, b < s.heap.objs.size → s.heap.get? b = some o → ((s.heap.push { cls := .type "list", data := .seq #[] }).update s.heap.objs.size (Obj.mapSeq (fun _ => (#[] : Array Value)))).get? b = some o := fun b o hb e =>
    (Heap.get?_update_other _ _ (Nat.ne_of_gt hb)).trans (Heap.get?_push_of_some _ e)
  refine lri_extend (I := I) (l := l) (items := items) (A := A.in1) hh ne s.heap.objs.size (fun z => ?_) hz _ ⟨oi, oth I oi ltI hoi, hci, hdi⟩ ⟨ol, oth l ol ltl hol, hcl, nl, hdl⟩ hS2 fun s' acc c' m e i => ?_
  · rcases List.mem_cons.mp z with z | z
    · exact Nat.lt_irrefl _ (z ▸ ltI)
    · exact Nat.lt_irrefl _ (List.mem_singleton.mp z ▸ ltl)
  · rw [Moved.eq_with m]
    refine ⟨rfl, k s'.heap s'.toks acc c' (fun b o hb eb => m.heap b o (fun z => ?_) (oth b o (Heap.lt_size eb) eb)) e i⟩
    rcases List.mem_cons.mp z with z | z
    · exact Nat.lt_irrefl _ (z ▸ Heap.lt_size eb)
    · exact hb (List.mem_singleton.mp z)
end
section
variable {X : Cx} {e : Expr} {te : TE} {p p2 pos pos2 : Pos}
theorem boot_rev : bootBuiltins "reversed" = some (.type "reversed") := by decide +kernel
/-- list(reversed(e)) -/
def tListRev (K : PySem.W.Frag) (te : TE) : TE := fun σ H Q => te σ H fun x H1 => ∃ l xs, x = .ref l ∧ SqL K H1 l xs ∧ ∀ q, H1 q = none → Q (.ref q) (upd H1 q (.lst xs.reverse))
theorem vals_rev : ∀ {xs : List V} {us : List Value}, Vals xs us → Vals xs.reverse us.reverse
  | _, _, .nil => .nil
  | _, _, .cons h r => by rw [List.reverse_cons, List.reverse_cons]; exact (vals_rev r).append (.cons h .nil)
theorem pe_listRev (hc : X.calm = true) (hg : Gl X "list") (hm : X.mg "list" = none) (hg2 : Gl X "reversed") (hm2 : X.mg "reversed" = none) (he : PE X e te) (na : starEach [e] X.env = (false, eval e X.env) :: starEach [] X.env := by rfl)
    (nb : starEach [.Call (.Name "reversed" p2) [e] [] pos2] X.env = (false, eval (.Call (.Name "reversed" p2) [e] [] pos2) X.env) :: starEach [] X.env := by rfl) :
    PE X (.Call (.Name "list" p) [.Call (.Name "reversed" p2) [e] [] pos2] [] pos) (tListRev X.K te) := by
  refine ⟨fun pins s σ H Q I h => ?_⟩
  have inner : wpAny (model X.prog X.w) X.A (eval (.Call (.Name "reversed" p2) [e] [] pos2) X.env) (fun x s' => ∃ l xs its H1 s0, x = .ref s0.heap.objs.size ∧ Inv X pins σ H1 s0 ∧ s' = { s0 with heap := s0.heap.push (revObj l ((its.toArray.size : Int) - 1)) } ∧ Vals xs its ∧ s0.heap.IsList l its.toArray ∧ xs.length ≤ sizeLine ∧
      ∀ q, H1 q = none → Q (.ref q) (upd H1 q (.lst xs.reverse))) X.xe s := by
    refine Call_ (ld_blt I hg2 hm2 boot_rev (PyProof.Rows.callWith_type1 (args_cons (thn (he.run pins s σ H _ I h) fun v s2 ⟨x, H2, I2, r, q⟩ => args_nil ?_) na) na))
    obtain ⟨l, xs, rfl, hs, k⟩ := q
    cases r
    obtain ⟨its, r2, pl, hz⟩ := I2.list hs
    exact call_reversed_list pl.isList ⟨l, xs, its, H2, s2, rfl, I2, rfl, r2, pl.isList, hz, k⟩
  refine Call_ (ld_blt I hg hm boot_list (PyProof.Rows.callWith_type1 (args_cons (thn inner fun x s1 ⟨l, xs, its, H1, s0, ex, I1, es, r, hl, hz, k⟩ => args_nil ?_) nb) nb))
  subst ex es
  have hlt : l < s0.heap.objs.size := by obtain ⟨o, ho, _⟩ := hl; exact Heap.lt_size ho
  have hD : (s0.heap.push (revObj l ((its.toArray.size : Int) - 1))).get? s0.heap.objs.size = some (revObj l ((its.toArray.size : Int) - 1)) := Heap.get?_push_size _ rfl
  have hl2 : (s0.heap.push (revObj l ((its.toArray.size : Int) - 1))).IsList l its.toArray := by
    obtain ⟨o, ho, hc, n, hd⟩ := hl
    exact ⟨o, Heap.get?_push_of_some _ ho, hc, n, hd⟩
  have hsz : its.toArray.size = xs.length := by rw [List.size_toArray, r.length]
  refine lri_list (I := s0.heap.objs.size) (l := l) (items := its.toArray) (I1.ok.hd hc) (Nat.ne_of_lt hlt) (by rw [hsz]; exact hz) ⟨_, hD, rfl, rfl⟩ hl2 fun h' tk acc c' kp e' hi => ?_
  have kp2 : ∀ b o, s0.heap.get? b = some o → h'.get? b = some o := fun b o eb => kp b o (Nat.ne_of_lt (Heap.lt_size eb)) (Heap.get?_push_of_some _ eb)
  have hle : s0.heap.objs.size ≤ (s0.heap.push (revObj l ((its.toArray.size : Int) - 1))).objs.size := by simp [Heap.push]
  have ea : acc.toList = its.reverse := by
    refine List.ext_getElem? fun j => ?_
    have hs1 : acc.size = its.length := by rw [hi.1]; simp
    by_cases c : j < its.length
    · have hj : acc[j]? = some acc[j] := Array.getElem?_eq_getElem (by omega)
      have q := hi.2 j acc[j] hj
      rw [Array.getElem?_toList, hj, ← q, List.getElem?_reverse c]
      simp
    · rw [List.getElem?_eq_none (by simp; omega), List.getElem?_eq_none (by simp; omega)]
  exact ⟨.ref _, upd H1 _ (.lst xs.reverse), I1.laid kp2 hle (show ObjOk X.prog X.w _ _ _ (.lst xs.reverse) from ⟨by rw [List.length_reverse]; exact hz, acc.toList, c', by rw [ea]; exact vals_rev r, by rw [Array.toArray_toList]; exact e'⟩), rfl, k _ (I1.hok.fresh hle)⟩
end

section
variable {K : PySem.W.Frag} {W : WX} {δ : Sto} {ex : XP} {te : TE} {R : Ends3}
theorem da_rev {H : Hp} : ∀ {xs : List V} {ds : List PyData}, Da K H xs ds → Da K H xs.reverse ds.reverse
  | _, _, .nil => .nil
  | _, _, .cons h r => by rw [List.reverse_cons, List.reverse_cons]; exact (da_rev r).append (.cons h .nil)
/-- list(reversed(e)) of a list of one's own or of data -/
theorem fx_listRev {p : List PyData → Sto → Prop} (h : EX K W te δ (fun w δ1 => ∃ ds, p ds.reverse δ1 ∧ (w = .d (.list ds) ∨ ∃ i q, w = .m i ∧ δ1[i]? = some (.ml q ds))) ex) : FX K W (tListRev K te) δ p ex :=
  fun m H σ I Q k k2 => h m H σ I _ (fun v w H1 δ1 g1 s1 I1 o1 ⟨ds, pp, hw⟩ => by
    have fin : ∀ l xs, v = .ref l → SqL K H1 l xs → Da K (hide (hid m δ1) H1) xs ds → ∃ l xs, v = .ref l ∧ SqL K H1 l xs ∧ ∀ q, H1 q = none → Q (.ref q) (upd H1 q (.lst xs.reverse)) := fun l xs e hs r => by
      refine ⟨l, xs, e, hs, fun q hq => ?_⟩
      have ee := erase_upd (o := .lst xs.reverse) hq
      exact k q xs.reverse ds.reverse _ δ1 (by rw [ee]; exact g1) s1 (by rw [ee]; exact I1) upd_same (by rw [ee]; exact da_rev r) pp
    rcases hw with e | ⟨i, q, e, hi⟩
    · subst e
      obtain ⟨a, xs, rfl, hs, r⟩ := dd_lst o1
      exact fin a xs rfl (Same.seq hide_same hs) r
    · subst e
      obtain ⟨q', ds', e2, e3⟩ := o1
      rw [hi] at e2
      cases e2
      obtain ⟨_, _, xs, hx, r⟩ := I1.ml i q ds hi
      exact fin q xs e3 (.inl (.inl hx)) r) k2
/-- a fresh list is handed back: as the list of a slot that nobody asks any more -/
theorem sx_retF (i : Nat) (hi : i < δ.length) (h : FX K W te δ (fun ds δ' => ∀ p, R.rt (.m i) (δ'.set i (.ml p ds))) R.ex) : SX K W (tRet te) δ R := fun m H σ I D k1 k2 k3 k4 k5 =>
  h m H σ I _ (fun p xs ds H' δ' g s J e r q => by
    have I2 := J.set_ml (i := i) e r
    have hl : i < δ'.length := by have := J.len; have := I.len; omega
    exact k2 (.ref p) (.m i) _ _ _ (g.trans (.set_ml J)) I2 ⟨p, ds, by rw [List.getElem?_set_self hl], rfl⟩ (q p)) (fun C H' δ' g J e => k5 C σ H' δ' g J e)
end

/-! ### a def that hands back a fresh list -/
def spF (K : PySem.W.Frag) {α : Type} (n : Nat) (enc : α → List PyData) (pre : α → Prop) (post : α → List PyData → Prop) : Sp := fun vs H Q _ =>
  ∃ (m : Addr → Prop) (a : α), (∀ x, m x → H x ≠ none) ∧ TabI K m H ∧ Da K (hide m H) vs (enc a) ∧ (enc a).length = n ∧ pre a ∧
    ∀ p xs ds H', Same H (erase p H') → H' p = some (.lst xs) → Da K (hide m (erase p H')) xs ds → post a ds → Q (.ref p) H'
/-- the ends of its body -/
abbrev RL (post : List PyData → Prop) : Ends3 := ⟨fun _ => False, fun w δ' => ∃ i p ds, w = .m i ∧ δ'[i]? = some (.ml p ds) ∧ post ds, fun _ => False, fun _ => False, fun _ _ => False⟩
section
variable {P : Program} {w : World} {K : PySem.W.Frag} {mg : Str → Option Value} {base : Heap} {k : Nat} {f : Addr} {fd : FuncData} {ps N : List Str}
theorem st0_ml0 {n : Nat} {ds es : List PyData} {i : Nat} {p : Addr} : (st0 n ds)[i]? ≠ some (.ml p es) := fun z => by
  unfold st0 at z
  rw [List.getElem?_append] at z
  split at z
  · rw [List.getElem?_map] at z
    cases q : ds[i]? with
    | none => rw [q] at z; cases z
    | some d => rw [q] at z; cases z
  · rw [List.getElem?_replicate] at z
    split at z <;> cases z
theorem fn_fresh {x qual : Str} {st : Stmt} {n : Nat} {α : Type} {enc : α → List PyData} {pre : α → Prop} {post : α → List PyData → Prop} (F : Fd K x qual st f fd) (S : FnScope N ps (defScope st)) (hn : ps.length = n)
    (body : ∀ (cdv : Value) (A : Around) (outer : List Env) (s : Shared) (H : Hp) (E : XK), A.guards = some [] → Room k (A.deeper (envOfC qual (defScope st) s.heap.objs.size f cdv)) →
      ∃ t, PSs (bodyX P w K mg base N qual st f cdv A outer s H E) (defBody st) t ∧ ∀ a, pre a → SX K (W0 E) t (st0 N.length (enc a)) (RL (post a))) : FnG P w K mg base (k + 1) f fd ps (spF K n enc pre post) := by
  refine fn_body F S (fun vs H Q E ⟨m, a, _, _, r, hl, _⟩ => by rw [r.length, hl, hn]) fun cdv A outer s H vs Q E hgd hr h => ?_
  obtain ⟨m, a, got, tbi, r, hl, hp, q⟩ := h
  obtain ⟨t, ht, hb⟩ := body cdv A outer s H E hgd hr
  have I0 : Env3 K m H (start N vs) (st0 N.length (enc a)) := st0_env r got tbi
  refine ⟨t, ht, hb a hp m H (start N vs) I0 _ (fun _ _ _ _ _ z => z.elim) (fun v w σ' H' δ' g J o ⟨i, p, ds, e, hi, pp⟩ => ?_) (fun _ _ _ _ _ z => z.elim) (fun _ _ _ _ _ z => z.elim) (fun _ _ _ _ _ _ z => z.elim)⟩
  subst e
  obtain ⟨p', ds', e2, rfl⟩ := o
  rw [hi] at e2
  cases e2
  obtain ⟨_, np, xs, hx, rx⟩ := J.ml i p ds hi
  refine q p xs ds H' (fun b o z => ?_) hx (rx.mono (.of fun b o z => ?_)) pp
  · by_cases c : m b
    · exact .inl (by rw [erase_ne (fun y => np (by rw [← y]; exact c)), g.keep b c]; exact z)
    · have no : ¬ hid m (st0 N.length (enc a)) b := fun y => by
        rcases y with y | ⟨i, es, y⟩
        · exact c y
        · exact st0_ml0 y
      have fin : ∀ o', hide (hid m δ') H' b = some o' → erase p H' b = some o' := fun o' y => by
        obtain ⟨c2, z2⟩ := hide_in y
        rw [erase_ne (fun y => c2 (.inr ⟨i, ds, by rw [y]; exact hi⟩))]
        exact z2
      rcases g.same b o (hide_some no z) with y | ⟨t, y⟩
      · exact .inl (fin _ y)
      · exact .inr ⟨t, (show Same (hide (hid m δ') H') (erase p H') from .of fun b u w => by
          obtain ⟨c2, w⟩ := hide_in w
          rw [erase_ne fun q => c2 (.inr ⟨i, ds, by rw [q]; exact hi⟩)]
          exact w).tb y⟩
  · obtain ⟨c, z⟩ := hide_in z
    exact hide_some (fun y => c (.inl y)) (by rw [erase_ne (fun y => c (.inr ⟨i, ds, by rw [y]; exact hi⟩))]; exact z)
end
section
variable {K : PySem.W.Frag} {W : WX} {δ : Sto} {ex : XP} {t : TA} {n : Nat} {α : Type} {enc : α → List PyData} {pre : α → Prop} {post : α → List PyData → Prop} {pq : List PyData → Sto → Prop} {E : L2.St → XK}
theorem fx_call (h : AX K W t δ (fun ws δ' => ∃ (ds : List PyData) (a : α), ws = ds.map .d ∧ enc a = ds ∧ (enc a).length = n ∧ pre a ∧ ∀ es, post a es → pq es δ') ex) : FX K W (tCallG (spF K n enc pre post) [] E t) δ pq ex := fun m H σ I Q k k2 =>
  h m H σ I _ (fun vs ws H1 δ1 g1 s1 I1 o1 ⟨ds, a, e, ea, hl, hp, q⟩ => by
    subst e
    refine ⟨hid m δ1, a, got_hid I1, tab_hid I1, by rw [ea, List.append_nil]; exact da_of o1, hl, hp, fun p xs es H' sm hx r pp => ?_⟩
    exact k p xs es H' δ1 (g1.trans (.of_same I1 sm)) s1 (I1.same sm) hx r (q es pp)) k2
end
/-! ### * of factors of which one is small, or both not too large -/
theorem op_mulA {X : Cx} : OpR X (binaryOp .Mult) (rI IntMulOk fun i j => .int (i * j)) := opI fun _ _ _ _ _ _ _ hc q => mul_int q hc
theorem mulS {i j : Int} (h1 : -(2 ^ 63) ≤ j) (h2 : j ≤ 2 ^ 63) : IntMulOk i j := CMul.ok (.inr ⟨by omega, by omega⟩)
theorem mulL {i j : Int} (h1 : -(2 ^ 63) ≤ i) (h2 : i ≤ 2 ^ 63) : IntMulOk i j := CMul.ok (.inl ⟨by omega, by omega⟩)
theorem mulA {n m : Nat} {i j : Int} (h1 : Bd n i) (h2 : Bd m j) (h : n + m ≤ 100000) : IntMulOk i j := CMulW.ok (mulW h1 h2 (by omega))
/-- what holds between two statements -/
theorem sx_cut {K : PySem.W.Frag} {W : WX} {δ : Sto} {R : Ends3} {t u : TS} (I : Sto → Prop) (h : SX K W t δ (R.nxt I)) (h2 : ∀ δ', I δ' → SX K W u δ' R) : SX K W (tSeq t u) δ R :=
  sx_seq (h.imp h2 (fun _ _ q => q) (fun _ q => q) (fun _ q => q) fun _ _ q => q)
theorem rangeD_at {lo : Int} {n k : Nat} {d : PyData} (h : (rangeD lo n)[k]? = some d) : k < n ∧ d = .int (lo + k) := by
  have hk : k < n := by
    have := (List.getElem?_eq_some_iff.mp h).1
    simpa [rangeD] using this
  rw [rangeD_get hk] at h
  exact ⟨hk, (Option.some.inj h).symm⟩
end M3
/-! ### repr of data -/
namespace M3
open PySem PySem.Spec PyProof.Rows L2
variable [NmC]
/-- data that repr can show: n bounds its parts -/
structure Rp (k n : Nat) (d : PyData) : Prop where
  lay : d.canLay0 = true
  dep : d.depth ≤ k
  shw : d.showable = true
  shr : d.leavesShort 1921 = true
  blk : d.bulk ≤ n
theorem Rp.len {k n : Nat} {d : PyData} (h : Rp k n d) (hn : n ≤ 8000) : d.shown.length ≤ sizeLine := by
  have h1 := PyData.shown_le_bulk 1921 (by decide) d h.shr
  have h2 := h.blk
  have h3 : sizeLine = 16777216 := by decide
  have h4 : (1921 + 2) * d.bulk ≤ (1921 + 2) * 8000 := Nat.mul_le_mul_left _ (by omega)
  omega
def rRepr (K : PySem.W.Frag) : List V → Hp → VK → Prop := fun xs H Q => ∃ v d k n, xs = [v] ∧ Dp K H v d ∧ Rp k n d ∧ k ≤ 60 ∧ n ≤ 8000 ∧ Q (.str d.shown) H
theorem cr_repr {X : Cx} (hg : X.A.guards = some []) (hu : X.A.units + 64 < cLine) : CallR X (.builtin "repr") (rRepr X.K) := by
  intro pins s σ H xs us Q I r h
  obtain ⟨v, d, k, n, rfl, hd, hp, hk, hn, q⟩ := h
  obtain ⟨u, rfl, rv⟩ := vals1 r
  have hz := hp.len hn
  have fin : ∀ {a : Addr}, u = .ref a → wpAny (model X.prog X.w) X.A (call (.builtin "repr") [u]) (EP X pins σ Q) X.xe s := fun {a} e => by
    subst e
    obtain ⟨as, rd⟩ := Dp.reads I d v _ hd rv
    refine repr_of_reads' rd hp.shw (fun z => ?_) hg (by have := hp.dep; omega) (fun b o e => e) (fun h' t tk kp => ⟨.str d.shown, H, I.kept kp, ⟨_, rfl⟩, q⟩) hz
    rw [PyData.hasDict_of_canLay d hp.lay] at z
    cases z
  cases hd with
  | non =>
    cases rv
    exact PySem.P.repr_of_none ⟨.str _, H, I.tok _, ⟨_, rfl⟩, q⟩
  | bl b =>
    cases rv
    exact PySem.P.repr_of_bool ⟨.str _, H, I.tok _, ⟨_, rfl⟩, q⟩
  | int i =>
    obtain ⟨t, rfl⟩ := rv
    exact PySem.P.repr_of_int (by simpa [PyData.showable] using hp.shw) ⟨.str _, H, I.tok _, ⟨_, rfl⟩, q⟩
  | str x =>
    obtain ⟨t, rfl⟩ := rv
    exact PySem.P.repr_of_str ⟨.str _, H, I.tok _, ⟨_, rfl⟩, q⟩ (by simpa only [PyData.shown] using hz)
  | lst h r =>
    cases rv
    exact fin rfl
  | tup h r =>
    cases rv
    exact fin rfl
section
variable {K : PySem.W.Frag} {W : WX} {δ : Sto} {ex : XP} {post : Vw → Sto → Prop}
theorem vx_repr {k n : Nat} {d : PyData} (h : Rp k n d) (hk : k ≤ 60) (hn : n ≤ 8000) (q : post (.d (.str d.shown)) δ) : VX K (rRepr K) [.d d] δ post := fun m H σ vs I o Q k => by
  obtain ⟨v, rfl, h1⟩ := vw1 o
  exact ⟨v, d, _, n, rfl, dp_of (Dd.mono hide_same h1) h.lay, h, hk, hn, k _ (.d (.str d.shown)) H (.refl H) (.str _) q⟩
end
/-! what can be shown -/
theorem rp_int {i : Int} (h : i.natAbs.log2 < 1920) : Rp 0 0 (.int i) := by
  refine ⟨rfl, by simp [PyData.depth], by simp [PyData.showable, h], ?_, by simp [PyData.bulk]⟩
  simp only [PyData.leavesShort, PyData.shown]
  exact decide_eq_true (int_text_len_1921 h)
theorem rp_non : Rp 0 0 .none := ⟨rfl, by simp [PyData.depth], rfl, rfl, by simp [PyData.bulk]⟩
theorem rp_bool (b : Bool) : Rp 0 0 (.bool b) := ⟨rfl, by simp [PyData.depth], rfl, rfl, by simp [PyData.bulk]⟩
theorem Rp.mono {k n k' n' : Nat} {d : PyData} (h : Rp k n d) (h1 : k ≤ k') (h2 : n ≤ n') : Rp k' n' d := ⟨h.lay, Nat.le_trans h.dep h1, h.shw, h.shr, Nat.le_trans h.blk h2⟩
structure RpAll (k n : Nat) (ds : List PyData) : Prop where
  lay : PyData.canLayAll0 ds = true
  dep : PyData.depthAll ds ≤ k
  shw : PyData.showableAll ds = true
  shr : PyData.leavesShortAll 1921 ds = true
  blk : PyData.bulkAll ds ≤ n
theorem rp_nil {k n : Nat} : RpAll k n [] := ⟨rfl, by simp [PyData.depthAll], rfl, rfl, by simp [PyData.bulkAll]⟩
theorem rp_cons {k n m : Nat} {d : PyData} {ds : List PyData} (h : Rp k n d) (r : RpAll k m ds) : RpAll k (n + 1 + m) (d :: ds) := by
  refine ⟨?_, ?_, ?_, ?_, ?_⟩
  · simp only [PyData.canLayAll0, h.lay, r.lay, Bool.and_self]
  · simp only [PyData.depthAll]
    exact Nat.max_le.mpr ⟨h.dep, r.dep⟩
  · simp only [PyData.showableAll, h.shw, r.shw, Bool.and_self]
  · simp only [PyData.leavesShortAll, h.shr, r.shr, Bool.and_self]
  · simp only [PyData.bulkAll]
    have h1 := h.blk
    have h2 := r.blk
    omega
theorem rp_lst {k n : Nat} {ds : List PyData} (r : RpAll k n ds) : Rp (k + 1) n (.list ds) := by
  refine ⟨?_, ?_, ?_, ?_, ?_⟩
  · simpa only [PyData.canLay0] using r.lay
  · simp only [PyData.depth]
    have := r.dep
    omega
  · simpa only [PyData.showable] using r.shw
  · simpa only [PyData.leavesShort] using r.shr
  · simpa only [PyData.bulk] using r.blk
theorem rp_tup {k n : Nat} {ds : List PyData} (r : RpAll k n ds) : Rp (k + 1) n (.tuple ds) := by
  refine ⟨?_, ?_, ?_, ?_, ?_⟩
  · simpa only [PyData.canLay0] using r.lay
  · simp only [PyData.depth]
    have := r.dep
    omega
  · simpa only [PyData.showable] using r.shw
  · simpa only [PyData.leavesShort] using r.shr
  · simpa only [PyData.bulk] using r.blk
theorem rp_map {α : Type} {k n : Nat} {f : α → PyData} : ∀ {xs : List α}, (∀ x ∈ xs, Rp k n (f x)) → RpAll k ((n + 1) * xs.length) (xs.map f)
  | [], _ => rp_nil
  | x :: xs, h => by
    have e : (n + 1) * (x :: xs).length = n + 1 + (n + 1) * xs.length := by rw [List.length_cons, Nat.mul_add, Nat.mul_one, Nat.add_comm]
    rw [e]
    exact rp_cons (h x List.mem_cons_self) (rp_map fun y hy => h y (List.mem_cons_of_mem _ hy))
theorem bd_log {n : Nat} {i : Int} (h : Bd n i) (hn : n ≤ 1900) : i.natAbs.log2 < 1920 := by
  have := log_lt (h.mono (show n ≤ 1919 by omega)) (by decide)
  omega
theorem rp_dR {n : Nat} {q : Rat} (h : Sz n q) (hn : n ≤ 1900) : Rp 1 2 (dR q) :=
  rp_tup (rp_cons (rp_int (bd_log h.num hn)) (rp_cons (m := 0) (rp_int (bd_log h.den hn)) rp_nil))
theorem shown_inj_dR {p q : Rat} (h : p = q) : (dR p).shown = (dR q).shown := by rw [h]
section
variable {K : PySem.W.Frag} {δ : Sto} {post : Vw → Sto → Prop}
theorem rx_neS {x y : Str} (q : post (.d (.bool (!decide (x = y)))) δ) : RX K rNe (.d (.str x)) (.d (.str y)) δ post := fun m H σ v1 v2 I o1 o2 Q k => by
  cases dd_str o1
  cases dd_str o2
  have e : decide (V.str x = V.str y) = decide (x = y) := by simp
  exact ⟨rfl, by rw [e]; exact k _ (.d (.bool _)) H (.refl H) (.bl _) q⟩
theorem rx_eqS {x y : Str} (q : post (.d (.bool (decide (x = y)))) δ) : RX K rEq (.d (.str x)) (.d (.str y)) δ post := fun m H σ v1 v2 I o1 o2 Q k => by
  cases dd_str o1
  cases dd_str o2
  have e : decide (V.str x = V.str y) = decide (x = y) := by simp
  exact ⟨rfl, by rw [e]; exact k _ (.d (.bool _)) H (.refl H) (.bl _) q⟩
end
/-! ### isqrt, lcm -/
def rIsqrt : List V → Hp → VK → Prop := fun vs H Q => ∃ a : Int, vs = [.int a] ∧ 0 ≤ a ∧ a.toNat.log2 ≤ 13000 ∧ Q (.int ((Float64.isqrt a.toNat : Nat) : Int)) H
theorem cr_isqrt {X : Cx} : CallR X (.builtin "math.isqrt") rIsqrt := by
  intro pins s σ H vs us Q I r h
  obtain ⟨a, rfl, h0, h1, q⟩ := h
  obtain ⟨u, rfl, t, rfl⟩ := vals1 r
  exact call_function_meets PySem.W.MGF.kind_isqrt PySem.W.MGF.plain_isqrt PySem.W.MGF.entry_isqrt (PySem.W.MGF.args_isqrt _) (PySem.W.mg_run_isqrt a t (by omega) (by omega) (by omega)).meets ⟨.int _, H, I.tok _, ⟨_, rfl⟩, q⟩
def rLcm : List V → Hp → VK → Prop := fun vs H Q => ∃ a b : Int, vs = [.int a, .int b] ∧ Bd 6000 a ∧ Bd 6000 b ∧ Q (.int ((Nat.lcm a.natAbs b.natAbs : Nat) : Int)) H
theorem cr_lcm {X : Cx} : CallR X (.builtin "math.lcm") rLcm := by
  intro pins s σ H vs us Q I r h
  obtain ⟨a, b, rfl, h0, h1, q⟩ := h
  obtain ⟨t, u, rfl⟩ := Vals.int2 r
  have e : (Nat.lcm 1 a.natAbs).lcm b.natAbs = Nat.lcm a.natAbs b.natAbs := by rw [Nat.lcm_one_left]
  have l1 : ∀ n : Nat, n < 2 ^ 6000 → n.log2 ≤ 6000 := fun n h => by
    have := PySem.Flt.log2_lt_of (n := n) (k := 6000) (by decide) h
    omega
  have m1 : (max 1 a.natAbs) < 2 ^ 6000 := Nat.max_lt.mpr ⟨by decide, h0.lt⟩
  have m2 : (max a.natAbs b.natAbs) < 2 ^ 6000 := Nat.max_lt.mpr ⟨h0.lt, h1.lt⟩
  have sz : ((((Nat.lcm 1 a.natAbs).lcm b.natAbs : Nat) : Int)).natAbs.log2 < bitsLine := by
    rw [e, Int.natAbs_natCast]
    have h2 : Nat.lcm a.natAbs b.natAbs < 2 ^ 12000 := by
      refine Nat.lt_of_le_of_lt (Nat.div_le_self _ _) ?_
      rw [show (12000 : Nat) = 6000 + 6000 from rfl, Nat.pow_add]
      exact Nat.mul_lt_mul'' h0.lt h1.lt
    have := PySem.Flt.log2_lt_of (n := Nat.lcm a.natAbs b.natAbs) (k := 12000) (by decide) h2
    have e2 : bitsLine = 134217728 := by decide
    omega
  have g := (PySem.W.mg_run_lcm a t b u (by have := l1 _ m1; omega) (by have := l1 _ m2; omega) sz)
  rw [e] at g
  exact call_function_meets PySem.W.MGF.kind_lcm PySem.W.MGF.plain_lcm PySem.W.MGF.entry_lcm (PySem.W.MGF.args_lcm _ _) g.meets ⟨.int _, H, I.tok _, ⟨_, rfl⟩, q⟩
section
variable {K : PySem.W.Frag} {δ : Sto} {post : Vw → Sto → Prop}
theorem vx_isqrt {a : Int} (h0 : 0 ≤ a) (h1 : a.toNat.log2 ≤ 13000) (q : post (.d (.int ((Float64.isqrt a.toNat : Nat) : Int))) δ) : VX K rIsqrt [.d (.int a)] δ post := fun m H σ vs I o Q k => by
  obtain ⟨v, rfl, h⟩ := vw1 o
  cases dd_int h
  exact ⟨a, rfl, h0, h1, k _ (.d (.int _)) H (.refl H) (.int _) q⟩
theorem vx_lcm {a b : Int} (h0 : Bd 6000 a) (h1 : Bd 6000 b) (q : post (.d (.int ((Nat.lcm a.natAbs b.natAbs : Nat) : Int))) δ) : VX K rLcm [.d (.int a), .d (.int b)] δ post := fun m H σ vs I o Q k => by
  obtain ⟨v, u, rfl, g1, g2⟩ := vw2 o
  cases dd_int g1
  cases dd_int g2
  exact ⟨a, b, rfl, h0, h1, k _ (.d (.int _)) H (.refl H) (.int _) q⟩
end
/-! ### a, b = e, f; a, b, c = e, f, g -/
section
variable {K : PySem.W.Frag} {W : WX} {δ : Sto} {R : Ends3} {ta : TA}
theorem sx_par {i j : Nat} (h : AX K W ta δ (fun ws δ' => ∃ d e, ws = [.d d, .d e] ∧ R.nx ((δ'.set i (.dat d)).set j (.dat e))) R.ex) : SX K W (tPar i j ta) δ R := fun m H σ I D k1 k2 k3 k4 k5 =>
  h m H σ I _ (fun vs ws H' δ' g s J o ⟨d, e, ew, q⟩ => by
    subst ew
    obtain ⟨u, v, rfl, o1, o2⟩ := vw2 o
    have J1 := J.set_dat (i := i) o1
    have o2' : Dd K (hide (hid m (δ'.set i (.dat d))) H') v e := Dd.mono (hide_set (s := .dat d) (fun _ _ z => nomatch z)) o2
    exact ⟨u, v, rfl, k1 _ _ _ (g.trans (Gw.set_dat.trans Gw.set_dat)) (J1.set_dat o2') q⟩) (fun C H' δ' g J e => k5 C σ H' δ' g J e)
theorem vw3 {m : Addr → Prop} {H : Hp} {vs : List V} {w x y : Vw} (h : VwAll K m H δ vs [w, x, y]) : ∃ v u z, vs = [v, u, z] ∧ VwOk K m H δ v w ∧ VwOk K m H δ u x ∧ VwOk K m H δ z y := by
  cases h with
  | cons h r =>
    obtain ⟨u, z, rfl, h2, h3⟩ := vw2 r
    exact ⟨_, _, _, rfl, h, h2, h3⟩
theorem sx_par3 {i j l : Nat} (h : AX K W ta δ (fun ws δ' => ∃ d e f, ws = [.d d, .d e, .d f] ∧ R.nx (((δ'.set i (.dat d)).set j (.dat e)).set l (.dat f))) R.ex) : SX K W (tPar3 i j l ta) δ R := fun m H σ I D k1 k2 k3 k4 k5 =>
  h m H σ I _ (fun vs ws H' δ' g s J o ⟨d, e, f, ew, q⟩ => by
    subst ew
    obtain ⟨u, v, z, rfl, o1, o2, o3⟩ := vw3 o
    have J1 := J.set_dat (i := i) o1
    have o2' : Dd K (hide (hid m (δ'.set i (.dat d))) H') v e := Dd.mono (hide_set (s := .dat d) (fun _ _ z => nomatch z)) o2
    have J2 := J1.set_dat (i := j) o2'
    have o3' : Dd K (hide (hid m ((δ'.set i (.dat d)).set j (.dat e))) H') z f := Dd.mono (hide_set (s := .dat e) (fun _ _ z => nomatch z)) (Dd.mono (hide_set (s := .dat d) (fun _ _ z => nomatch z)) o3)
    exact ⟨u, v, z, rfl, k1 _ _ _ (g.trans (Gw.set_dat.trans (Gw.set_dat.trans Gw.set_dat))) (J2.set_dat o3') q⟩) (fun C H' δ' g J e => k5 C σ H' δ' g J e)
/-- a written constant of the top -/
theorem ex_k {v : V} {d : PyData} {post : Vw → Sto → Prop} {ex : XP} (h : ∀ H, Dd K H v d) (q : post (.d d) δ) : EX K W (tC v) δ post ex := ex_c h q
theorem dd_pair {a : Addr} {i j : Int} {zd : Option Addr} {za zb : Tok} {zn : Nat} {zs : Array (Option Value)} (h : K.lookup a = some ⟨.type "tuple", zd, .seq #[.int i za, .int j zb] zn, zs⟩) (H : Hp) : Dd K H (.ref a) (.tuple [.int i, .int j]) :=
  .tup (.inr ⟨_, #[.int i za, .int j zb], zn, h, rfl, rfl, by show (2 : Nat) ≤ sizeLine; decide, show Vals [V.int i, V.int j] [.int i za, .int j zb] from .cons ⟨_, rfl⟩ (.cons ⟨_, rfl⟩ .nil)⟩) (.cons (.int i) (.cons (.int j) .nil))
end
/-! ### in, not in a list of data -/
theorem units65 {k : Nat} {A : Around} (r : Room k A) : A.units + 65 < cLine := by have := r.un; omega
section
variable {K : PySem.W.Frag} {W : WX} {δ : Sto} {ex : XP} {post : Vw → Sto → Prop} {te : TE} {R : Ends3}
theorem dp_list_m {m : Addr → Prop} {H : Hp} {σ : L2.St} {i : Nat} {p : Addr} {ds : List PyData} (I : Env3 K m H σ δ) (hi : δ[i]? = some (.ml p ds)) (h : PyData.canLayAll0 ds = true) : Dp K H (.ref p) (.list ds) := by
  obtain ⟨_, _, xs, hx, r⟩ := I.ml i p ds hi
  exact .lst (.inl (.inl hx)) (dpAll_of (r.mono hide_same) h)
theorem lay_list {ds : List PyData} (h : SeqAt.shaped (.list ds) = true) : PyData.canLayAll0 ds = true := by
  have := SeqAt.canLay_of_shaped h
  simpa only [PyData.canLay0] using this
theorem rx_notInM {i : Nat} {p : Addr} {d : PyData} {ds : List PyData} (hi : δ[i]? = some (.ml p ds)) (h1 : SeqAt.shaped d = true) (h2 : SeqAt.shaped (.list ds) = true) (q : post (.d (.bool (!ds.any fun z => PyData.eqv z d))) δ) : RX K (rNotInD K) (.d d) (.m i) δ post := fun m H σ v1 v2 I o1 o2 Q k => by
  obtain ⟨p', ds', e, rfl⟩ := o2
  rw [hi] at e
  cases e
  exact ⟨d, ds, dp_of (Dd.mono hide_same o1) (SeqAt.canLay_of_shaped h1), dp_list_m I hi (lay_list h2), h1, h2, k _ (.d (.bool _)) H (.refl H) (.bl _) q⟩
theorem rx_inM {i : Nat} {p : Addr} {d : PyData} {ds : List PyData} (hi : δ[i]? = some (.ml p ds)) (h1 : SeqAt.shaped d = true) (h2 : SeqAt.shaped (.list ds) = true) (q : post (.d (.bool (ds.any fun z => PyData.eqv z d))) δ) : RX K (rInD K) (.d d) (.m i) δ post := fun m H σ v1 v2 I o1 o2 Q k => by
  obtain ⟨p', ds', e, rfl⟩ := o2
  rw [hi] at e
  cases e
  exact ⟨d, ds, dp_of (Dd.mono hide_same o1) (SeqAt.canLay_of_shaped h1), dp_list_m I hi (lay_list h2), h1, h2, k _ (.d (.bool _)) H (.refl H) (.bl _) q⟩
theorem rx_inL {d : PyData} {ds : List PyData} (h1 : SeqAt.shaped d = true) (h2 : SeqAt.shaped (.list ds) = true) (q : post (.d (.bool (ds.any fun z => PyData.eqv z d))) δ) : RX K (rInD K) (.d d) (.d (.list ds)) δ post := fun m H σ v1 v2 I o1 o2 Q k =>
  ⟨d, ds, dp_of (Dd.mono hide_same o1) (SeqAt.canLay_of_shaped h1), dp_of (Dd.mono hide_same o2) (SeqAt.canLay_of_shaped h2), h1, h2, k _ (.d (.bool _)) H (.refl H) (.bl _) q⟩
theorem rx_notInL {d : PyData} {ds : List PyData} (h1 : SeqAt.shaped d = true) (h2 : SeqAt.shaped (.list ds) = true) (q : post (.d (.bool (!ds.any fun z => PyData.eqv z d))) δ) : RX K (rNotInD K) (.d d) (.d (.list ds)) δ post := fun m H σ v1 v2 I o1 o2 Q k =>
  ⟨d, ds, dp_of (Dd.mono hide_same o1) (SeqAt.canLay_of_shaped h1), dp_of (Dd.mono hide_same o2) (SeqAt.canLay_of_shaped h2), h1, h2, k _ (.d (.bool _)) H (.refl H) (.bl _) q⟩
/-! ### a list of one's own: insert -/
abbrev rInsert : V → List V → Hp → VK → Prop := fun x vs H Q => ∃ (l : Addr) (xs : List V) (i : Int) (y : V), x = .ref l ∧ vs = [.int i, y] ∧ H l = some (.lst xs) ∧ xs.length < sizeLine ∧ 0 ≤ i ∧ i < 2 ^ 63 ∧ Q .non (upd H l (.lst (xs.take i.toNat ++ [y] ++ xs.drop i.toNat)))
theorem ex_insert {i : Nat} {t : TA} (h : AX K W t δ (fun ws δ' => ∃ (n : Nat) (d : PyData) (p : Addr) (ds : List PyData), ws = [.d (.int n), .d d] ∧ δ'[i]? = some (.ml p ds) ∧ ds.length < 1000000 ∧ n ≤ 1000000 ∧ post (.d .none) (δ'.set i (.ml p (ds.take n ++ [d] ++ ds.drop n)))) ex) (hi : ∃ p ds, δ[i]? = some (.ml p ds)) :
    EX K W (tBM K "list" rInsert (tVar i) t) δ post ex := fun m H σ I Q k k2 => by
  obtain ⟨p0, ds0, h0⟩ := hi
  obtain ⟨hσ, _, xs0, hx0, _⟩ := I.ml i p0 ds0 h0
  refine ⟨.ref p0, hσ, .inl ⟨rfl, xs0, .inl (.inl hx0)⟩, ?_⟩
  refine h m H σ I _ (fun vs ws H1 δ1 g1 s1 I1 o1 ⟨n, d, p, ds, e, h1, hl, hn, q⟩ => ?_) k2
  subst e
  obtain ⟨v, u, rfl, o2, o3⟩ := vw2 o1
  cases dd_int o2
  obtain ⟨es, e0⟩ := s1 i p0 ds0 h0
  rw [h1] at e0
  cases e0
  obtain ⟨_, np, xs, hx, r⟩ := I1.ml i p0 ds h1
  have o3' : Dd K (hide (hid m δ1) H1) u d := o3
  have hup : ∀ a, a ≠ p0 → upd H1 p0 (.lst (xs.take n ++ [u] ++ xs.drop n)) a = H1 a := fun a c => upd_ne c
  have sme : Same (erase p0 H1) (erase p0 (upd H1 p0 (.lst (xs.take n ++ [u] ++ xs.drop n)))) := .of fun a o z => by
    have ne : a ≠ p0 := fun q => by rw [q, erase_at] at z; cases z
    rw [erase_ne ne] at z ⊢
    rw [hup a ne]
    exact z
  have ee : erase p0 (upd H1 p0 (.lst (xs.take n ++ [u] ++ xs.drop n))) = erase p0 H1 := by
    funext a
    by_cases c : a = p0
    · rw [c, erase_at, erase_at]
    · rw [erase_ne c, erase_ne c, hup a c]
  have rr : Da K (hide (hid m δ1) H1) (xs.take n ++ [u] ++ xs.drop n) (ds.take n ++ [d] ++ ds.drop n) := ((da_take n r).append (.cons o3' .nil)).append (da_drop n r)
  have g2 : Gw m δ1 H1 (δ1.set i (.ml p0 (ds.take n ++ [d] ++ ds.drop n))) (upd H1 p0 (.lst (xs.take n ++ [u] ++ xs.drop n))) := .chg I1 h1 sme fun a ha => hup a fun z => np (z ▸ ha)
  have I2 : Env3 K m (upd H1 p0 (.lst (xs.take n ++ [u] ++ xs.drop n))) σ (δ1.set i (.ml p0 (ds.take n ++ [d] ++ ds.drop n))) := I1.chg h1 sme upd_same (by
    have e2 : hide (hid m δ1) (upd H1 p0 (.lst (xs.take n ++ [u] ++ xs.drop n))) = hide (hid m δ1) H1 := by
      rw [← hide_erase h1, ← hide_erase (H := H1) h1, ee]
    rw [hide_erase h1, e2]
    exact rr)
  exact ⟨p0, xs, n, u, rfl, rfl, hx, by rw [r.length]; exact Nat.lt_of_lt_of_le hl (by decide), by omega, by omega, k .non (.d .none) _ _ (g1.trans g2) (s1.trans (.chg h1)) I2 .non q⟩
end
/-! ### a comprehension over a list of one's own -/
section
variable {K : PySem.W.Frag} {W : WX} {δ : Sto} {ex : XP} {g : TG} {tt : TT} {te : TE} {vs : List Nat} {ok : PyData → Prop} {f : Sto → PyData → Sto} {ds : List PyData}
theorem fx_lcM {q : List PyData → Sto → Prop} (tg : TgC K g vs ok f) {j : Nat} {p : Addr} (Inv : Nat → List PyData → Sto → Prop) (hj : δ[j]? = some (.ml p ds)) (nv : NoMl δ vs) (i0 : Inv 0 [] (wipeD δ vs))
    (stay : ∀ k acc δ', Inv k acc δ' → δ'[j]? = some (.ml p ds)) (turn : LcI K tt te vs ok f ds Inv) (fin : ∀ acc δ', Inv ds.length acc δ' → q acc δ') : FX K W (tLc (iList K (tVar j)) g tt te vs) δ q ex :=
  fun m H σ I Q k k2 => by
    obtain ⟨hσ, np, xs, hp, r⟩ := I.ml j p ds hj
    refine ⟨.ref p, hσ, p, rfl, ⟨xs, .inl (.inl hp)⟩, fun D hD => ?_⟩
    have nD : ¬ m D := fun z => I.got D z hD
    refine ⟨fun i n H' => n = ds.length - i ∧ i ≤ ds.length ∧ ∃ δ' acc, LcS K m D vs σ δ H (Inv i) H' δ' acc, ⟨ds.length, rfl, Nat.zero_le _, _, _, lc_start I hD nv i0⟩, ?_⟩
    rintro i n H' ⟨en, hi, δ', acc, S⟩
    obtain ⟨_, _, ys, hy, ry⟩ := S.env.ml j p ds (stay i acc δ' S.inv)
    rw [hid_D] at ry
    have sy : SqL K H' p ys := .inl (.inl hy)
    have ly := ry.length
    by_cases c : i < ds.length
    · obtain ⟨x, hx, dd⟩ := ry.get (List.getElem?_eq_getElem c)
      refine .inr ⟨⟨ys, x, sy, hx⟩, fun H2 => ∃ δ2 acc2, LcS K m D vs σ δ H (Inv (i + 1)) H2 δ2 acc2, fun H2 ⟨δ2, acc2, S2⟩ => ⟨n - 1, by omega, by omega, c, δ2, acc2, S2⟩, fun v H2 hv => ?_⟩
      obtain ⟨rfl, fv⟩ := hv
      have ev : v = x := Option.some.inj ((fv _ sy).symm.trans hx)
      subst ev
      obtain ⟨hok, hb⟩ := turn i _ acc δ' (List.getElem?_eq_getElem c) S.inv
      exact lc_turn tg nD S dd hok hb fun H2 δ2 acc2 S2 => ⟨δ2, acc2, S2⟩
    · have e : i = ds.length := by omega
      subst e
      exact .inl ⟨⟨ys, sy, by omega⟩, lc_end nD .refl (.refl δ) S (fin acc δ' S.inv) k⟩
end
theorem Rp.shaped {k n : Nat} {d : PyData} (h : Rp k n d) (hk : k ≤ 60) : SeqAt.shaped d = true := by
  have := h.dep
  show (d.canLay0 && decide (d.depth ≤ 64)) = true
  rw [h.lay]
  simp
  omega
theorem rp_Rs {n : Nat} {rs : List Rat} (h : ∀ q ∈ rs, Sz n q) (hn : n ≤ 1900) : Rp 2 (3 * rs.length) (.list (rs.map dR)) := rp_lst (rp_map fun q hq => rp_dR (h q hq) hn)
theorem any_dR {rs : List Rat} {q : Rat} : ((rs.map dR).any fun z => PyData.eqv z (dR q)) = decide (q ∈ rs) := by
  induction rs with
  | nil => simp
  | cons r t ih =>
    rw [List.map_cons, List.any_cons, ih, eqv_dR]
    by_cases c : r = q
    · simp [c]
    · have c2 : ¬ q = r := fun z => c z.symm
      simp [c, c2]
/-! ### sorted lists of ratios -/
theorem ins_sorted {q : Rat} : ∀ {rs : List Rat}, rs.Pairwise (· < ·) → q ∉ rs → (rs.take (rs.filter fun r => decide (r < q)).length ++ [q] ++ rs.drop (rs.filter fun r => decide (r < q)).length).Pairwise (· < ·)
  | [], _, _ => by simp
  | r :: t, h, hn => by
    obtain ⟨h1, h2⟩ := List.pairwise_cons.mp h
    have hq : ¬ q = r := fun z => hn (by simp [z])
    have hn2 : q ∉ t := fun z => hn (List.mem_cons_of_mem _ z)
    by_cases c : r < q
    · have e : (List.filter (fun r => decide (r < q)) (r :: t)).length = (t.filter fun r => decide (r < q)).length + 1 := by simp [c]
      rw [e, List.take_succ_cons, List.drop_succ_cons]
      refine List.pairwise_cons.mpr ⟨fun x hx => ?_, ins_sorted h2 hn2⟩
      rcases List.mem_append.mp hx with hx | hx
      · rcases List.mem_append.mp hx with hx | hx
        · exact h1 x (List.mem_of_mem_take hx)
        · rw [List.mem_singleton.mp hx]; exact c
      · exact h1 x (List.mem_of_mem_drop hx)
    · have c2 : q < r := by grind
      have e : (List.filter (fun r => decide (r < q)) (r :: t)).length = 0 := by
        rw [List.length_eq_zero_iff, List.filter_eq_nil_iff]
        intro x hx
        rcases List.mem_cons.mp hx with rfl | hx
        · simp [c]
        · have := h1 x hx
          have : ¬ x < q := by grind
          simp [this]
      rw [e]
      refine List.pairwise_cons.mpr ⟨fun x hx => ?_, h⟩
      rcases List.mem_cons.mp hx with rfl | hx
      · exact c2
      · have := h1 x hx
        grind
theorem ins_mem {q x : Rat} {rs : List Rat} {n : Nat} : x ∈ rs.take n ++ [q] ++ rs.drop n ↔ x = q ∨ x ∈ rs := by
  have h : rs.take n ++ rs.drop n = rs := List.take_append_drop n rs
  have : x ∈ rs ↔ x ∈ rs.take n ∨ x ∈ rs.drop n := by rw [← List.mem_append, h]
  rw [this]
  simp only [List.mem_append, List.mem_singleton]
  grind
theorem sorted_unique : ∀ {rs ts : List Rat}, rs.Pairwise (· < ·) → ts.Pairwise (· < ·) → (∀ q, q ∈ rs ↔ q ∈ ts) → rs = ts
  | [], [], _, _, _ => rfl
  | [], t :: ts, _, _, h => by have := (h t).mpr List.mem_cons_self; cases this
  | r :: rs, [], _, _, h => by have := (h r).mp List.mem_cons_self; cases this
  | r :: rs, t :: ts, h1, h2, h => by
    obtain ⟨a1, b1⟩ := List.pairwise_cons.mp h1
    obtain ⟨a2, b2⟩ := List.pairwise_cons.mp h2
    have e : r = t := by
      have m1 := (h r).mp List.mem_cons_self
      have m2 := (h t).mpr List.mem_cons_self
      rcases List.mem_cons.mp m1 with e | m1
      · exact e
      · rcases List.mem_cons.mp m2 with e | m2
        · exact e.symm
        · have := a1 t m2
          have := a2 r m1
          grind
    subst e
    have : rs = ts := sorted_unique b1 b2 fun q => by
      have hq := h q
      simp only [List.mem_cons] at hq
      constructor
      · intro hm
        have := a1 q hm
        rcases hq.mp (.inr hm) with e | e
        · subst e; grind
        · exact e
      · intro hm
        have := a2 q hm
        rcases hq.mpr (.inr hm) with e | e
        · subst e; grind
        · exact e
    rw [this]
end M3
/-! ### all(.. for c in text), any(..): the table of the def's code object grows -/
namespace M3
open PySem PySem.Spec PyProof.Rows L2
variable [NmC]
section
variable {K : PySem.W.Frag} {W : WX} {δ : Sto} {ex : XP} {post : Vw → Sto → Prop} {te : TE} {P : Addr} {pb : Nat → Bool} {H H' : Hp}
theorem tabG_of (h : Tb H P) : GxR.TabG H P := by
  obtain ⟨ps, h, t, _⟩ := h
  exact ⟨ps, h, t⟩
theorem same_tabbed (hn : ∀ q, ¬ NmC.lm P q) (h : Tb H P) (t : GxR.Tabbed P H H') : Same H H' := fun b o e => by
  by_cases c : b = P
  · subst c
    obtain ⟨ps, h, t', _⟩ := h
    rw [e] at h
    cases h
    obtain ⟨⟨ps', h1, h2⟩, _⟩ := t
    exact .inr ⟨⟨ps, rfl, t'⟩, ps', h1, h2, fun q hq => absurd hq (hn q)⟩
  · exact .inl (by rw [t.2 b c]; exact e)
theorem ex_allS (hn : ∀ q, ¬ NmC.lm P q) (hP : TK K P) (h : EX K W te δ (fun w δ' => ∃ a : Str, w = .d (.str a) ∧ post (.d (.bool (a.cps.toList.all pb))) δ') ex) : EX K W (GxR.tAllS P pb te) δ post ex :=
  fun m H σ I Q k k2 => h m H σ I _ (fun v w H1 δ1 g1 s1 I1 o1 ⟨a, e, q⟩ => by
    subst e
    cases dd_str o1
    refine ⟨a, rfl, tabG_of (I1.tab.has P hP), fun H2 t => ?_⟩
    have sm := same_tabbed hn (I1.tab.has P hP) t
    exact k (.bl _) (.d (.bool _)) H2 δ1 (g1.trans (.of_same I1 sm)) s1 (I1.same sm) (.bl _) q) k2
theorem ex_anyS (hn : ∀ q, ¬ NmC.lm P q) (hP : TK K P) (h : EX K W te δ (fun w δ' => ∃ a : Str, w = .d (.str a) ∧ post (.d (.bool (a.cps.toList.any pb))) δ') ex) : EX K W (GxR.tAnyS P pb te) δ post ex :=
  fun m H σ I Q k k2 => h m H σ I _ (fun v w H1 δ1 g1 s1 I1 o1 ⟨a, e, q⟩ => by
    subst e
    cases dd_str o1
    refine ⟨a, rfl, tabG_of (I1.tab.has P hP), fun H2 t => ?_⟩
    have sm := same_tabbed hn (I1.tab.has P hP) t
    exact k (.bl _) (.d (.bool _)) H2 δ1 (g1.trans (.of_same I1 sm)) s1 (I1.same sm) (.bl _) q) k2
end
/-! ### is None, is not None -/
def isNon : PyData → Bool
  | .none => true
  | _ => false
section
variable {K : PySem.W.Frag} {δ : Sto} {post : Vw → Sto → Prop}
theorem non_iff {H : Hp} {v : V} {d : PyData} (h : Dd K H v d) : decide (v = V.non) = isNon d := by
  cases h <;> simp [isNon]
theorem rx_isN {d : PyData} (q : post (.d (.bool (isNon d))) δ) : RX K (fun x y H Q => y = V.non ∧ Q (V.bl (decide (x = V.non))) H) (.d d) (.d .none) δ post := fun m H σ v1 v2 I o1 o2 Q k => by
  cases dd_none o2
  exact ⟨rfl, by rw [non_iff o1]; exact k _ (.d (.bool _)) H (.refl H) (.bl _) q⟩
theorem rx_notN {d : PyData} (q : post (.d (.bool (!isNon d))) δ) : RX K (fun x y H Q => y = V.non ∧ Q (V.bl (!decide (x = V.non))) H) (.d d) (.d .none) δ post := fun m H σ v1 v2 I o1 o2 Q k => by
  cases dd_none o2
  exact ⟨rfl, by rw [non_iff o1]; exact k _ (.d (.bool _)) H (.refl H) (.bl _) q⟩
end
end M3
/-! ### list({x: True for x in e}), e's items tuples of ints and texts: the different ones, in the order of the first -/
namespace M3
open PySem PySem.Spec PyProof.Rows L2
variable [NmC]

def putT (acc : List (List L2.Key × Addr × Value)) (p : List L2.Key × Addr) : List (List L2.Key × Addr × Value) := storedH acc p.1 p.2 (.bool true)
def manyT (ps : List (List L2.Key × Addr)) : List (List L2.Key × Addr × Value) := ps.foldl putT []
theorem putT_len (acc : List (List L2.Key × Addr × Value)) (p : List L2.Key × Addr) : (putT acc p).length ≤ acc.length + 1 := by
  unfold putT storedH
  split <;> simp
theorem foldT_len : ∀ (ps : List (List L2.Key × Addr)) (acc : List (List L2.Key × Addr × Value)), (ps.foldl putT acc).length ≤ acc.length + ps.length
  | [], acc => by simp
  | p :: ps, acc => by
    have h1 := foldT_len ps (putT acc p)
    have h2 := putT_len acc p
    simp only [List.foldl_cons, List.length_cons] at *
    omega
theorem manyT_len (ps : List (List L2.Key × Addr)) : (manyT ps).length ≤ ps.length := by
  have := foldT_len ps []
  simpa [manyT] using this
theorem manyT_snoc {ps : List (List L2.Key × Addr)} {i : Nat} {p : List L2.Key × Addr} (h : ps[i]? = some p) : manyT (ps.take (i + 1)) = putT (manyT (ps.take i)) p := by
  unfold manyT
  rw [List.take_add_one, h]
  simp [List.foldl_append]
/-- the first ones -/
def firsts {α : Type} [DecidableEq α] : List α → List α → List α
  | acc, [] => acc
  | acc, x :: xs => firsts (if x ∈ acc then acc else acc ++ [x]) xs
theorem firsts_mem {α : Type} [DecidableEq α] : ∀ (xs acc : List α) (x : α), x ∈ firsts acc xs ↔ x ∈ acc ∨ x ∈ xs
  | [], acc, x => by simp [firsts]
  | y :: ys, acc, x => by
    unfold firsts
    rw [firsts_mem ys]
    by_cases c : y ∈ acc
    · rw [if_pos c, List.mem_cons]
      exact ⟨fun h => h.elim .inl fun h => .inr (.inr h), fun h => h.elim .inl fun h => h.elim (fun e => .inl (e ▸ c)) .inr⟩
    · rw [if_neg c, List.mem_cons, List.mem_append, List.mem_singleton, or_assoc]
theorem firsts_nodup {α : Type} [DecidableEq α] : ∀ (xs acc : List α), acc.Nodup → (firsts acc xs).Nodup
  | [], acc, h => h
  | y :: ys, acc, h => by
    unfold firsts
    refine firsts_nodup ys _ ?_
    by_cases c : y ∈ acc
    · rw [if_pos c]; exact h
    · rw [if_neg c, List.nodup_append]
      refine ⟨h, by simp, fun a ha b hb e => ?_⟩
      have : b = y := by simpa using hb
      exact c (by rw [← this, ← e]; exact ha)
theorem firsts_len {α : Type} [DecidableEq α] : ∀ (xs acc : List α), (firsts acc xs).length ≤ acc.length + xs.length
  | [], acc => by simp [firsts]
  | y :: ys, acc => by
    unfold firsts
    have := firsts_len ys (if y ∈ acc then acc else acc ++ [y])
    have h2 : (if y ∈ acc then acc else acc ++ [y]).length ≤ acc.length + 1 := by split <;> simp
    simp only [List.length_cons]
    omega
theorem putT_keys (acc : List (List L2.Key × Addr × Value)) (p : List L2.Key × Addr) : (putT acc p).map (·.1) = firsts (acc.map (·.1)) [p.1] := by
  unfold putT storedH firsts firsts
  have hk : (atKey acc p.1).isSome = true ↔ p.1 ∈ acc.map (·.1) := by
    unfold atKey
    rw [Option.isSome_map, List.find?_isSome]
    constructor
    · rintro ⟨x, hx, e⟩
      exact List.mem_map.mpr ⟨x, hx, of_decide_eq_true e⟩
    · intro h
      obtain ⟨x, hx, e⟩ := List.mem_map.mp h
      exact ⟨x, hx, decide_eq_true e⟩
  by_cases c : (atKey acc p.1).isSome = true
  · rw [if_pos c, if_pos (hk.mp c), keys_map_putAt]
  · rw [if_neg c, if_neg (fun z => c (hk.mpr z))]
    simp
theorem foldT_keys : ∀ (ps : List (List L2.Key × Addr)) (acc : List (List L2.Key × Addr × Value)), (ps.foldl putT acc).map (·.1) = firsts (acc.map (·.1)) (ps.map (·.1))
  | [], acc => rfl
  | p :: ps, acc => by
    rw [List.foldl_cons, foldT_keys ps, putT_keys, List.map_cons]
    rfl
theorem manyT_keys (ps : List (List L2.Key × Addr)) : (manyT ps).map (·.1) = firsts [] (ps.map (·.1)) := foldT_keys ps []
theorem foldT_from : ∀ (ps : List (List L2.Key × Addr)) (acc : List (List L2.Key × Addr × Value)) (e : List L2.Key × Addr × Value), e ∈ ps.foldl putT acc → (∃ f ∈ acc, f.1 = e.1 ∧ f.2.1 = e.2.1) ∨ (e.1, e.2.1) ∈ ps
  | [], acc, e, h => .inl ⟨e, h, rfl, rfl⟩
  | p :: ps, acc, e, h => by
    rw [List.foldl_cons] at h
    rcases foldT_from ps _ e h with ⟨f, hf, e1, e2⟩ | h
    · unfold putT storedH at hf
      split at hf
      · obtain ⟨g, hg, rfl⟩ := List.mem_map.mp hf
        refine .inl ⟨g, hg, ?_, ?_⟩
        · rw [← e1]; unfold putAt; split <;> rfl
        · rw [← e2]; unfold putAt; split <;> rfl
      · rcases List.mem_append.mp hf with hf | hf
        · exact .inl ⟨f, hf, e1, e2⟩
        · have : f = (p.1, p.2, .bool true) := by simpa using hf
          subst this
          exact .inr (by rw [← e1, ← e2]; exact List.mem_cons_self ..)
    · exact .inr (List.mem_cons_of_mem _ h)
theorem manyT_from {ps : List (List L2.Key × Addr)} {e : List L2.Key × Addr × Value} (h : e ∈ manyT ps) : (e.1, e.2.1) ∈ ps := by
  rcases foldT_from ps [] e h with ⟨f, hf, _⟩ | h
  · cases hf
  · exact h

section
variable {X : Cx} {pins : List (Addr × Obj)} {σ : L2.St} {H : Hp} {s : Shared}
theorem key_raw {b : Addr} {ks : List L2.Key} (I : Inv X pins σ H s) (h : SqT X.K H b (ks.map kV)) : (tupleKind (mixKind X.prog X.w)).is s.heap ks b := by
  obtain ⟨its, r, ⟨o, h1, h2, n, h3⟩, _⟩ := I.tuple h
  exact ⟨o, its.toArray, n, h1, h2, h3, by simpa using items_are r⟩
theorem dictH_at {P : Program} {w : World} {h h' : Heap} {D : Addr} {es : List (List L2.Key × Addr × Value)} {o : Obj} (d : h.DictOfH (tupleKind (mixKind P w)) D es) (e0 : h.get? D = some o) (e : h'.get? D = some o)
    (k : ∀ x ∈ es, (tupleKind (mixKind P w)).is h' x.1 x.2.1) : h'.DictOfH (tupleKind (mixKind P w)) D es := by
  obtain ⟨o', fs, ep, h1, h2, h3, h4, h5, h6⟩ := d
  rw [e0] at h1
  cases h1
  exact ⟨o, fs, ep, e, h2, h3, h4, k, h6⟩
/-- the items of a walked list: addresses with their keys -/
def KeyedL (K : PySem.W.Frag) (H : Hp) (ps : List (List L2.Key × Addr)) : Prop := ∀ p ∈ ps, SqT K H p.2 (p.1.map kV)
/-- {x: True for x in e}: the dict stands at D, untracked -/
def DictAtT (X : Cx) (pins : List (Addr × Obj)) (σ : L2.St) (Qd : List (List L2.Key × Addr) → Hp → Prop) (v : Value) (s' : Shared) : Prop :=
  ∃ (D : Addr) (ps : List (List L2.Key × Addr)) (H1 : Hp), v = .ref D ∧ Inv X pins σ H1 s' ∧ FpOk X pins H1 D ∧ s'.heap.DictOfH (tupleKind (mixKind X.prog X.w)) D (manyT ps) ∧ (D == sysModules) = false ∧ KeyedL X.K H1 ps ∧ ps.length ≤ sizeLine ∧ Qd ps H1
def tKeyed (K : PySem.W.Frag) (tl : TE) (Qd : List (List L2.Key × Addr) → Hp → Prop) : L2.St → Hp → Prop := fun σ H => iList K tl σ H fun J H1 => ∃ a ps, J = Itl K a ∧ SqL K H1 a (ps.map fun p => V.ref p.2) ∧ KeyedL K H1 ps ∧ Qd ps H1
theorem dT_core {kx vx tg iter : Expr} {scope : Scope} {own : List (Str × Nat)} {pos : Pos} {tl : TE} {i0 : Nat} {Qd : List (List L2.Key × Addr) → Hp → Prop} (hc : X.calm = true) (hN : X.N.Nodup) (hu : X.A.units < cLine)
    (I : Inv X pins σ H s) (hl : PE X iter tl) (ok : BlkOk X.N X.env.scope scope own) (hi0 : i0 ∈ own.map (·.2)) (hlen : i0 < σ.length)
    (hg : ∀ (s : Shared) (H : Hp) (C : Addr) (cl : List (Str × Addr)) (fp : List Addr), PG (X.blk s H scope (compEnvC scope cl C X.env) fp) tg (gName i0))
    (hk : ∀ (s : Shared) (H : Hp) (C : Addr) (cl : List (Str × Addr)) (fp : List Addr), PE (X.blk s H scope (compEnvC scope cl C X.env) fp) kx (tVar i0))
    (he : ∀ (s : Shared) (H : Hp) (C : Addr) (cl : List (Str × Addr)) (fp : List Addr), PE (X.blk s H scope (compEnvC scope cl C X.env) fp) vx (tC (.bl true))) (hs : ∀ x, foldedSetIterable iter X.env x = pure x)
    (h : tKeyed X.K tl Qd σ H) :
    wpAny (model X.prog X.w) X.A (eval (.DictComp kx vx [⟨tg, iter, [], 0⟩] scope pos) X.env) (DictAtT X pins σ Qd) X.xe s := by
  have frees : ∀ y ∈ scope.names, y.2 = .free → ∃ c, X.env.cells.lookup y.1 = some c := fun y hy e => (ok.free y hy e).elim (fun k => I.ok.has _ (.inl k)) fun k => I.ok.has _ (.inr k)
  rw [arm_eval_DictComp]
  refine wpAny_comprehension_free rfl hs (closure_ok frees) ok.kind (fun y hy e => by rw [ok.uniq y hy, e]) ?_
  refine thn ((pi_list (tg := tg) hl).run pins s σ H _ I h) fun xv s1 hx => thn hx fun itv s2 h2 => ?_
  obtain ⟨it, fp, tn, J, H2, e, I2, T, st2, f2, a, ps, rfl, hsq, hkey, hqd⟩ := h2
  subst e
  have hps : ps.length ≤ sizeLine := by
    obtain ⟨_, _, _, z⟩ := I2.list hsq
    rwa [List.length_map] at z
  refine wpAny_newObj_type (newEnv_comp ?_)
  generalize eD : s2.heap.objs.size = D
  have hDn : H2 D = none := I2.hok.fresh (Nat.le_of_eq eD)
  have fD : FpOk X pins H2 D := I2.fpOk (Nat.le_of_eq eD) hDn
  have small : ∀ b ∈ fp, b < D := fun b hb => by
    obtain ⟨o, q, _⟩ := T.obj _ _ st2 b hb
    rw [← eD]
    exact Heap.lt_size q
  have big := I2.big
  generalize es3 : ({ s2 with heap := s2.heap.push { cls := .type "dict", data := .dict #[] } } : Shared) = s3
  have hp3 : s3.heap = s2.heap.push { cls := .type "dict", data := .dict #[] } := by rw [← es3]
  have I3 : Inv X pins σ H2 s3 := by
    rw [← es3]
    exact I2.kept (t' := s2.toks) fun b o q => Heap.get?_push_of_some _ q
  have d3 : s3.heap.DictOfH (tupleKind (mixKind X.prog X.w)) D [] := by
    rw [hp3, ← eD]
    exact Heap.DictOfH.new _
  have sz3 : s3.heap.objs.size = D + 1 := by rw [hp3, Heap.size_push, eD]
  have fp3 : ∀ b ∈ D :: fp, FpOk X pins H2 b ∧ b < s3.heap.objs.size := fun b hb => by
    rw [sz3]
    rcases List.mem_cons.mp hb with rfl | hb
    · exact ⟨fD, Nat.lt_succ_self _⟩
    · exact ⟨f2 b hb, Nat.lt_succ_of_lt (small b hb)⟩
  have I4 := block_start I3 ok hN fp3
  have ts4 : tn 0 (pushCells (s3.heap.push { cls := .type "dict", data := .dict #[] }) scope.names) := T.keep _ _ _ st2 fun b _ o q => pushCells_keeps _ _ _ _ (Heap.get?_push_of_some _ (by rw [hp3]; exact Heap.get?_push_of_some _ q))
  have nfp : ∀ b ∈ D :: fp, H2 b = none := fun b hb => (fp3 b hb).1.1
  have k4 : ∀ b o, s3.heap.get? b = some o → (pushCells (s3.heap.push { cls := .type "dict", data := .dict #[] }) scope.names).get? b = some o := fun b o q => pushCells_keeps _ _ _ _ (Heap.get?_push_of_some _ q)
  have pg := hg s3 H2 s3.heap.objs.size (cellsFrom (s3.heap.objs.size + 1) scope.names (cloFrom X.env.cells scope.names [])) (D :: fp)
  have pk := hk s3 H2 s3.heap.objs.size (cellsFrom (s3.heap.objs.size + 1) scope.names (cloFrom X.env.cells scope.names [])) (D :: fp)
  have pv := he s3 H2 s3.heap.objs.size (cellsFrom (s3.heap.objs.size + 1) scope.names (cloFrom X.env.cells scope.names [])) (D :: fp)
  show codeAny _ _ (.compStart (.DictComp kx vx [⟨tg, iter, [], 0⟩] scope pos) 0 (.ref it) (.ref D) (compEnvC scope (cellsFrom (s3.heap.objs.size + 1) scope.names (cloFrom X.env.cells scope.names [])) s3.heap.objs.size X.env)) (compPost (model X.prog X.w) X.A X.xe none (DictAtT X pins σ Qd) (.ref D) s3.heap.objs.size) { s3 with heap := pushCells (s3.heap.push { cls := .type "dict", data := .dict #[] }) scope.names }
  generalize ece : compEnvC scope (cellsFrom (s3.heap.objs.size + 1) scope.names (cloFrom X.env.cells scope.names [])) s3.heap.objs.size X.env = ce at I4 pg pk pv ⊢
  have cL : ce.locals = s3.heap.objs.size := by subst ece; rfl
  have d4 : (pushCells (s3.heap.push { cls := .type "dict", data := .dict #[] }) scope.names).DictOfH (tupleKind (mixKind X.prog X.w)) D [] := by
    obtain ⟨o, fs, ep, q1, q2⟩ := d3
    exact ⟨o, fs, ep, k4 _ _ q1, q2.1, q2.2.1, q2.2.2.1, (fun x hx => nomatch hx), by simp⟩
  generalize es4 : ({ s3 with heap := pushCells (s3.heap.push { cls := .type "dict", data := .dict #[] }) scope.names } : Shared) = s4 at I4 ⊢
  have ts4' : tn 0 s4.heap := by rw [← es4]; exact ts4
  have d4' : s4.heap.DictOfH (tupleKind (mixKind X.prog X.w)) D (manyT (ps.take 0)) := by rw [← es4]; exact d4
  clear ts4 d4
  -- what a record of the walk may do in the block
  have stat : ∀ {pl : List (Addr × Obj)} {σ' : L2.St} {s' : Shared}, Inv (X.blk s3 H2 scope ce (D :: fp)) pl σ' H2 s' → ∀ b ∈ D :: fp, (∀ p ∈ pl, p.1 ≠ b) → FpOk (X.blk s3 H2 scope ce (D :: fp)) pl H2 b := fun {pl σ' s'} J b hb np =>
    ⟨nfp b hb, (J.ok.exf b hb).1, J.ok.exfs b hb, .inl hb, fun x c q => (J.ok.exf b hb).2 x c q, fun p hp => np p (by simpa using hp)⟩
  have noDict : ∀ {o : Obj} {fs : Array DictEntry} {ep : Nat}, o.data = .dict fs ep → ∀ v, o.data ≠ .cell v := fun q v z => by rw [q] at z; cases z
  have pinD : ∀ {σ' : L2.St} {s' : Shared} {es : List (List L2.Key × Addr × Value)}, Inv (X.blk s3 H2 scope ce (D :: fp)) [] σ' H2 s' → s'.heap.DictOfH (tupleKind (mixKind X.prog X.w)) D es → Inv (X.blk s3 H2 scope ce (D :: fp)) ([] ++ pinsAt [D] s'.heap) σ' H2 s' := fun {σ' s' es} J ⟨o, fs, ep, q1, _, q3, _⟩ =>
    J.pinned (fun b hb => stat J b (by rw [List.mem_singleton.mp hb]; exact List.mem_cons_self ..) fun p hp => nomatch hp) fun b hb => by
      rw [List.mem_singleton.mp hb]
      exact ⟨o, q1, noDict q3⟩
  have ofD : ∀ {h : Heap} {p : Addr × Obj}, p ∈ pinsAt [D] h → p.1 = D := fun {h p} hp => List.mem_singleton.mp (of_pinsAt hp).1
  have nD : D ∉ fp := fun z => Nat.lt_irrefl _ (small D z)
  have keyed : ∀ {σ' : L2.St} {s' : Shared} {i : Nat} {pl : List (Addr × Obj)}, Inv (X.blk s3 H2 scope ce (D :: fp)) pl σ' H2 s' → ∀ x ∈ manyT (ps.take i), (tupleKind (mixKind X.prog X.w)).is s'.heap x.1 x.2.1 := fun {σ' s' i pl} J x hx =>
    key_raw (X := X.blk s3 H2 scope ce (D :: fp)) J (hkey _ (List.mem_of_mem_take (manyT_from hx)))
  have loop : codeAny (model X.prog X.w) X.A (.compLoop (.DictComp kx vx [⟨tg, iter, [], 0⟩] scope pos) 0 (.ref it) (.ref D) ce) (compPost (model X.prog X.w) X.A X.xe none (DictAtT X pins σ Qd) (.ref D) s3.heap.objs.size) s4 := by
    refine compLoop_anyD (fun n s' => ∃ i, n = ps.length - i ∧ i ≤ ps.length ∧ Inv (X.blk s3 H2 scope ce (D :: fp)) [] (wipe σ (own.map (·.2))) H2 s' ∧ tn i s'.heap ∧ s'.heap.DictOfH (tupleKind (mixKind X.prog X.w)) D (manyT (ps.take i))) ?_ ps.length ⟨0, rfl, Nat.zero_le _, I4, ts4', d4'⟩
    rintro n s5 ⟨i, rfl, hi, I5, ts5, d5⟩
    have I5p := pinD I5 d5
    obtain ⟨oD, fD5, epD, gD, xD, dD, _⟩ := id d5
    have inD : (D, oD) ∈ pinsAt [D] s5.heap := mem_pinsAt (List.mem_cons_self ..) gD
    have stp : ∀ {σ' : L2.St} {s' : Shared}, Inv (X.blk s3 H2 scope ce (D :: fp)) ([] ++ pinsAt [D] s5.heap) σ' H2 s' → ∀ b ∈ fp, FpOk (X.blk s3 H2 scope ce (D :: fp)) ([] ++ pinsAt [D] s5.heap) H2 b := fun J b hb => stat J b (List.mem_cons_of_mem _ hb) fun p hp z => by
      rw [List.nil_append] at hp
      exact nD (by rw [← ofD hp, z]; exact hb)
    by_cases hlt : i < ps.length
    · obtain ⟨p, hp⟩ : ∃ p, ps[i]? = some p := ⟨_, List.getElem?_eq_getElem hlt⟩
      have hx : (ps.map fun p => V.ref p.2)[i]? = some (V.ref p.2) := by rw [List.getElem?_map, hp]; rfl
      refine thnF (T.item (X.blk s3 H2 scope ce (D :: fp)) rfl rfl rfl hc i _ s5 _ H2 (fun _ _ => False) I5p (stp I5p) ts5 ⟨_, _, hsq, hx⟩) fun r s6 ⟨u, hr, h6⟩ => ?_
      subst hr
      refine thnF h6 fun _ s7 ⟨x, H7, I7, r7, y7, ts7, n7⟩ => ?_
      obtain ⟨e7, y7⟩ := y7
      subst e7
      have ex : x = V.ref p.2 := Option.some.inj ((y7 _ hsq).symm.trans hx)
      subst ex
      have I7p := I7.pinned (stp I7) (T.obj _ _ ts7)
      refine thnF (pg.run _ s7 _ H7 _ u (fun σ' H' => σ' = (wipe σ (own.map (·.2))).set i0 (some (V.ref p.2)) ∧ H' = H7) I7p r7 ⟨rfl, rfl⟩) fun _ s8 ⟨σ8, H8, I8, e8, e8'⟩ => ?_
      subst e8 e8'
      refine wpAny_tests_nil ?_
      rw [if_pos rfl]
      have at8 : ((wipe σ (own.map (·.2))).set i0 (some (V.ref p.2)))[i0]? = some (some (V.ref p.2)) := List.getElem?_set_self (by rw [wipe_length]; exact hlen)
      refine thnF (pk.run _ s8 _ H8 (fun v H' => v = V.ref p.2 ∧ H' = H8) I8 ⟨_, at8, rfl, rfl⟩) fun z s9 ⟨yk, H9, I9, r9, e9, e9'⟩ => ?_
      subst e9 e9'
      refine thnF (pv.run _ s9 _ H9 (fun v H' => v = V.bl true ∧ H' = H9) I9 ⟨rfl, rfl⟩) fun z2 s10 ⟨yv, H10, I10, r10, e10, e10'⟩ => ?_
      subst e10 e10'
      cases r9
      cases r10
      have gD10 : s10.heap.get? D = some oD := (I10.pin (D, oD) (List.mem_append_right _ (List.mem_append_left _ (List.mem_append_right _ inD)))).1
      have d10 : s10.heap.DictOfH (tupleKind (mixKind X.prog X.w)) D (manyT (ps.take i)) := dictH_at d5 gD gD10 (keyed I10)
      have pinF : ∀ b ∈ fp, ∀ o, s7.heap.get? b = some o → s10.heap.get? b = some o := fun b hb o q => (I10.pin (b, o) (List.mem_append_right _ (List.mem_append_right _ (mem_pinsAt hb q)))).1
      have I10u : Inv (X.blk s3 H10 scope ce (D :: fp)) [] _ H10 s10 := (I10.unpinned).unpinned
      refine wpAny_dictSet_heap (k := p.1) hu (key_raw (X := X.blk s3 H10 scope ce (D :: fp)) I10 (hkey p (List.mem_of_getElem? hp))) d10 (fun h' d' sb => ?_) (Nat.le_trans (manyT_len _) (by rw [List.length_take]; omega))
      have kb : ∀ b o, b ≠ D → s10.heap.get? b = some o → h'.get? b = some o := fun b o hb q => sb.extBut b o hb q
      have fD10 := stat I10u D (List.mem_cons_self ..) fun p hp => nomatch hp
      have I11 := I10u.turned (t' := s10.toks + (tupleKind (mixKind X.prog X.w)).draws p.1) kb fD10.1 fD10.2.1 fD10.2.2.2.1 fD10.2.2.2.2.1 fD10.2.2.2.2.2
      refine ⟨ps.length - (i + 1), by omega, i + 1, rfl, hlt, I11.weak (by rw [List.length_set]) (fun j v q => ?_), ?_, ?_⟩
      · obtain ⟨q1, q2⟩ := wipe_some q
        have : i0 ≠ j := fun z => q2 (by rw [← z]; exact hi0)
        rw [List.getElem?_set_ne this]
        exact q
      · refine T.keep _ _ _ ts7 fun b hb o q => kb b o (fun z => nD (by rw [← z]; exact hb)) (pinF b hb o q)
      · rw [manyT_snoc hp]
        exact d'
    · have ei : i = ps.length := by omega
      subst ei
      refine thnF (T.done (X.blk s3 H2 scope ce (D :: fp)) rfl rfl rfl hc ps.length _ s5 _ H2 (fun _ _ => False) I5p (stp I5p) ts5 ⟨_, hsq, by rw [List.length_map]; exact Nat.le_refl _⟩) fun r s6 ⟨hr, I6⟩ => ?_
      subst hr
      have I7 : Inv X pins σ H2 s6 := I3.call' (ch := D :: fp) I6.os I6.base I6.hok I6.bare fun b hb => ⟨(fp3 b hb).1.2.2.2.1, (fp3 b hb).1.2.1, (fp3 b hb).1.2.2.2.2.1, (fp3 b hb).1.2.2.2.2.2⟩
      have gD6 : s6.heap.get? D = some oD := (I6.pin (D, oD) (List.mem_append_right _ (List.mem_append_right _ inD))).1
      have d6 : s6.heap.DictOfH (tupleKind (mixKind X.prog X.w)) D (manyT (ps.take ps.length)) := dictH_at d5 gD gD6 (keyed I6)
      rw [List.take_length] at d6
      have nC : H2 s3.heap.objs.size = none := by
        have z : H2 ce.locals = none := I6.free
        rw [cL] at z
        exact z
      obtain ⟨mm, hn, _⟩ := I6.loc
      have hn : s6.heap.Ns ce.locals mm := hn
      rw [cL] at hn
      have fC : FpOk X pins H2 s3.heap.objs.size := I3.fpOk (Nat.le_refl _) nC
      obtain ⟨f0, f1, f3, f4, f5, f6⟩ := fC
      refine ⟨mm, hn, fun h'' sb => ?_⟩
      have kC : ∀ b o, b ≠ s3.heap.objs.size → s6.heap.get? b = some o → h''.get? b = some o := fun b o hb q => (sb.2 b hb).trans q
      have I8 : Inv X pins σ H2 { s6 with heap := h'' } := I7.turned (t' := s6.toks) kC f0 f1 f4 f5 f6
      refine ⟨D, ps, H2, rfl, I8, fD, ?_, ?_, hkey, hps, hqd⟩
      · exact dictH_at d6 gD6 (kC D oD (by rw [sz3]; exact Nat.ne_of_lt (Nat.lt_succ_self _)) gD6) fun x hx => key_raw I8 (hkey _ (manyT_from hx))
      · rw [← eD]
        exact beq_eq_false_iff_ne.mpr (Ne.symm (Nat.ne_of_lt big))
  exact codeAny_compStart_dict loop (T.self X.A 0 _ _ _ ts4' loop)
end

section
variable {X : Cx}
/-- list({x: True for x in e}) -/
def tListD (K : PySem.W.Frag) (tl : TE) : TE := fun σ H Q => tKeyed K tl (fun ps H1 => ∀ q, H1 q = none → Q (.ref q) (upd H1 q (.lst ((manyT ps).map fun e => V.ref e.2.1)))) σ H
theorem vals_refs {β : Type} (f : β → Addr) : ∀ l : List β, Vals (l.map fun e => V.ref (f e)) (l.map fun e => Value.ref (f e))
  | [] => .nil
  | _ :: l => .cons rfl (vals_refs f l)
theorem pe_listDict {kx vx tg iter : Expr} {scope : Scope} {own : List (Str × Nat)} {p pos pos2 : Pos} {tl : TE} {i0 : Nat} (hc : X.calm = true) (hN : X.N.Nodup) (hu : X.A.units < cLine) (hgl : Gl X "list") (hm : X.mg "list" = none)
    (hl : PE X iter tl) (ok : BlkOk X.N X.env.scope scope own) (hi0 : i0 ∈ own.map (·.2)) (hlen : i0 < X.N.length)
    (hg : ∀ (s : Shared) (H : Hp) (C : Addr) (cl : List (Str × Addr)) (fp : List Addr), PG (X.blk s H scope (compEnvC scope cl C X.env) fp) tg (gName i0))
    (hk : ∀ (s : Shared) (H : Hp) (C : Addr) (cl : List (Str × Addr)) (fp : List Addr), PE (X.blk s H scope (compEnvC scope cl C X.env) fp) kx (tVar i0))
    (he : ∀ (s : Shared) (H : Hp) (C : Addr) (cl : List (Str × Addr)) (fp : List Addr), PE (X.blk s H scope (compEnvC scope cl C X.env) fp) vx (tC (.bl true))) (hs : ∀ x, foldedSetIterable iter X.env x = pure x := by intro _; rfl)
    (nb : starEach [.DictComp kx vx [⟨tg, iter, [], 0⟩] scope pos2] X.env = (false, eval (.DictComp kx vx [⟨tg, iter, [], 0⟩] scope pos2) X.env) :: starEach [] X.env := by rfl) :
    PE X (.Call (.Name "list" p) [.DictComp kx vx [⟨tg, iter, [], 0⟩] scope pos2] [] pos) (tListD X.K tl) := by
  refine ⟨fun pins s σ H Q I h => ?_⟩
  have hln : i0 < σ.length := by rw [I.len]; exact hlen
  refine Call_ (ld_blt I hgl hm boot_list (PyProof.Rows.callWith_type1 (args_cons (thn (dT_core hc hN hu I hl ok hi0 hln hg hk he hs h) fun x s1 ⟨D, ps, H1, ex, I1, fD, dh, lo, hkey, hz, q⟩ => args_nil ?_) nb) nb))
  subst ex
  obtain ⟨o, es, ep, g1, g2, g3, g4, g5, g6⟩ := dh
  have sz := size_of_entries g4
  refine PySem.W.kdl_call (KdlSrc.rawDict (d := D) (es := es) (ep := ep) lo) (I1.ok.hd hc) ⟨o, g1, g2, g3⟩ (by rw [sz]; exact Nat.le_trans (manyT_len ps) hz) fun h' tk acc c' kp hL hi => ?_
  have ea : acc.toList = (manyT ps).map fun e => Value.ref e.2.1 := by
    refine List.ext_getElem? fun j => ?_
    have hs1 : acc.size = es.size := hi.1
    by_cases c : j < es.size
    · have hj : acc[j]? = some acc[j] := Array.getElem?_eq_getElem (by omega)
      obtain ⟨hlt, q2⟩ := hi.2 j acc[j] hj
      have e2 := entry_at g4 j
      rw [Array.getElem?_eq_getElem hlt] at e2
      rw [Array.getElem?_toList, hj, q2, List.getElem?_map]
      cases r : (manyT ps)[j]? with
      | none => rw [r] at e2; cases e2
      | some e =>
        rw [r] at e2
        have e3 : es[j] = entryOfKey (tupleKind (mixKind X.prog X.w)) e := Option.some.inj e2
        rw [e3]
        rfl
    · rw [List.getElem?_eq_none (by simp; omega), List.getElem?_eq_none (by simp; omega)]
  refine ⟨.ref _, upd H1 _ (.lst ((manyT ps).map fun e => V.ref e.2.1)), I1.laid (t' := tk) kp (Nat.le_refl _) ⟨?_, acc.toList, c', ?_, ?_⟩, rfl, q _ (I1.hok.fresh (Nat.le_refl _))⟩
  · rw [List.length_map]
    exact Nat.le_trans (manyT_len ps) hz
  · rw [ea]
    exact vals_refs (fun e : List L2.Key × Addr × Value => e.2.1) _
  · rw [Array.toArray_toList]
    exact hL
end
section
variable {K : PySem.W.Frag} {W : WX} {δ : Sto} {ex : XP} {te : TE}
abbrev tupD (ks : List L2.Key) : PyData := .tuple (ks.map kD)
theorem dd_kD {H : Hp} {v : V} {k : L2.Key} (h : Dd K H v (kD k)) : v = kV k := by
  cases k with
  | inl i => exact dd_int h
  | inr x => exact dd_str h
theorem da_kD {H : Hp} : ∀ {vs : List V} {ks : List L2.Key}, Da K H vs (ks.map kD) → vs = ks.map kV
  | _, [], .nil => rfl
  | _, k :: ks, .cons h r => by rw [List.map_cons, ← dd_kD h, ← da_kD r]
theorem keyed_of {H : Hp} : ∀ {xs : List V} {kss : List (List L2.Key)}, Da K H xs (kss.map tupD) → ∃ ps : List (List L2.Key × Addr), ps.map (·.1) = kss ∧ xs = ps.map (fun p => V.ref p.2) ∧ KeyedL K H ps
  | _, [], .nil => ⟨[], rfl, rfl, fun _ h => nomatch h⟩
  | _, ks :: kss, .cons h r => by
    obtain ⟨ps, e1, e2, e3⟩ := keyed_of r
    obtain ⟨b, ys, rfl, hs, ry⟩ := dd_tup h
    rw [da_kD ry] at hs
    refine ⟨(ks, b) :: ps, by rw [List.map_cons, e1], by rw [List.map_cons, e2], fun p hp => ?_⟩
    rcases List.mem_cons.mp hp with rfl | hp
    · exact hs
    · exact e3 p hp
theorem da_kV {H : Hp} : ∀ ks : List L2.Key, Da K H (ks.map kV) (ks.map kD)
  | [] => .nil
  | .inl i :: ks => .cons (.int i) (da_kV ks)
  | .inr x :: ks => .cons (.str x) (da_kV ks)
theorem keyed_da {H : Hp} : ∀ (l : List (List L2.Key × Addr × Value)), (∀ e ∈ l, SqT K H e.2.1 (e.1.map kV)) → Da K H (l.map fun e => V.ref e.2.1) (l.map fun e => tupD e.1)
  | [], _ => .nil
  | e :: l, h => .cons (.tup (h e (List.mem_cons_self ..)) (da_kV _)) (keyed_da l fun f hf => h f (List.mem_cons_of_mem _ hf))
theorem fx_listD {pq : List PyData → Sto → Prop} (h : EX K W te δ (fun w δ1 => ∃ kss : List (List L2.Key), w = .d (.list (kss.map tupD)) ∧ pq ((firsts [] kss).map tupD) δ1) ex) : FX K W (tListD K te) δ pq ex :=
  fun m H σ I Q k k2 => h m H σ I _ (fun v w H1 δ1 g1 s1 I1 o1 ⟨kss, e, pp⟩ => by
    subst e
    obtain ⟨a, xs, rfl, hs, r⟩ := dd_lst o1
    obtain ⟨ps, rfl, rfl, hk⟩ := keyed_of r
    refine ⟨a, rfl, ⟨_, (Same.seq hide_same hs)⟩, a, ps, rfl, (Same.seq hide_same hs), fun p hp => Same.tup hide_same (hk p hp), fun q hq => ?_⟩
    have ee := erase_upd (o := .lst ((manyT ps).map fun e => V.ref e.2.1)) hq
    refine k q _ ((firsts [] (ps.map (·.1))).map tupD) _ δ1 (by rw [ee]; exact g1) s1 (by rw [ee]; exact I1) upd_same ?_ pp
    rw [ee, ← manyT_keys, List.map_map]
    exact keyed_da (manyT ps) fun (e : List L2.Key × Addr × Value) he => hk (e.1, e.2.1) (manyT_from he)) k2
end
end M3
/-! ### sorted(e, key=lambda x: ..) -/
namespace M3
open PySem PySem.Spec PyProof.Rows L2
variable [NmC]

/-! an expression that lays new objects at most -/
def Kp (h h' : Heap) : Prop := ∀ b o, h.get? b = some o → h'.get? b = some o
def RawE (prog : Program) (w : World) (A : Around) (env : Env) (C : Heap → Prop) (e : Expr) (U : Heap → Value → Prop) : Prop :=
  ∀ (s : Shared) (Q E : Value → Shared → Prop), C s.heap → (∀ u h' tk, Kp s.heap h' → U h' u → Q u { s with heap := h', toks := tk }) → wpAny (model prog w) A (eval e env) Q E s
section
variable {prog : Program} {w : World} {A : Around} {env : Env} {C : Heap → Prop} {a b : Expr} {pos : Pos} {x : Str}
theorem raw_local {v : Value} (hk : env.scope.kind = .function) (hl : env.kindOf x = some .local) (hC : ∀ h, C h → ∃ m, h.Ns env.locals m ∧ m x = some v) (hd : (x == ("__debug__" : Str)) = false := by decide) : RawE prog w A env C (.Name x pos) (fun _ u => u = v) := fun s Q E c k => by
  obtain ⟨m, hn, hm⟩ := hC _ c
  exact wpAny_Name (wpAny_loadName_local hk hl hn hm (k v s.heap s.toks (fun _ _ e => e) rfl)) hd
theorem raw_free {v : Value} {d : Addr} (hk : env.scope.kind = .function) (hl : env.kindOf x = some .free) (hc : env.cells.lookup x = some d) (hC : ∀ h, C h → h.IsCell d (some v)) (hd : (x == ("__debug__" : Str)) = false := by decide) (hcd : (x == ("__classdict__" : Str)) = false := by decide) :
    RawE prog w A env C (.Name x pos) (fun _ u => u = v) := fun s Q E c k =>
  wpAny_Name (wpAny_loadName_free hk hl hc (hC _ c) (k v s.heap s.toks (fun _ _ e => e) rfl) hcd) hd
theorem raw_int {i : Int} {j : Nat} : RawE prog w A env C (.Constant (.int i) j pos) (fun _ u => ∃ t, u = .int i t) := fun s Q E c k => wpAny_Constant_int (k _ s.heap _ (fun _ _ e => e) ⟨_, rfl⟩)
theorem raw_ixT {p : Addr} {xs : List V} {its : List Value} {i : Int} {y : V} (st : ∀ h h', C h → Kp h h' → C h') (ha : RawE prog w A env C a (fun _ u => u = .ref p)) (hb : RawE prog w A env C b (fun _ u => ∃ t, u = .int i t)) (hT : ∀ h, C h → IsTup h p its.toArray) (rv : Vals xs its) (hy : atI xs i = some y) (hz : xs.length ≤ sizeLine)
    (hs : ∀ o i, subscripted b false o i = operate [o, i] (getItem o i)) : RawE prog w A env C (.Subscript a b pos) (fun _ u => RelV y u) := fun s Q E c k => by
  refine Subscript_ (ha s _ E c fun u h1 tk1 k1 e1 => hb _ _ E (st _ _ c k1) fun u2 h2 tk2 k2 e2 => ?_)
  obtain ⟨t, rfl⟩ := e2
  subst e1
  have pl := hT _ (st _ _ (st _ _ c k1) k2)
  obtain ⟨j, q1, q2, q3, q4, q5⟩ := atI_get hy
  obtain ⟨u, eu, ru⟩ := rv.get q2
  have hl := rv.length
  have hn := line63
  exact subscriptTail_builtinR (x := u) pl.typeIs slot_tuple_getitem.lookup (getItem_tuple (j := j) (Q := fun r s' => r = u ∧ Q r s') pl (by omega) (by omega) (by rw [List.size_toArray, ← hl]; exact q1) (by simpa using eu) ⟨rfl, k u h2 tk2 (fun b o e => k2 b o (k1 b o e)) ru⟩) (hs _ _)
theorem raw_rel {y : V} {i : Int} (e : y = .int i) (h : RawE prog w A env C a (fun _ u => RelV y u)) : RawE prog w A env C a (fun _ u => ∃ t, u = .int i t) := fun s Q E c k => h s Q E c fun u h' tk kp r => k u h' tk kp (by subst e; exact r)
theorem raw_mul {i j : Int} (st : ∀ h h', C h → Kp h h' → C h') (ha : RawE prog w A env C a (fun _ u => ∃ t, u = .int i t)) (hb : RawE prog w A env C b (fun _ u => ∃ t, u = .int j t)) (hc : IntMulOk i j) : RawE prog w A env C (.BinOp a .Mult b pos) (fun _ u => ∃ t, u = .int (i * j) t) := fun s Q E c k => by
  refine wpAny_BinOp (ha s _ E c fun u h1 tk1 k1 e1 => hb _ _ E (st _ _ c k1) fun u2 h2 tk2 k2 e2 => ?_)
  obtain ⟨t1, rfl⟩ := e1
  obtain ⟨t2, rfl⟩ := e2
  exact mul_int (k _ h2 _ (fun b o e => k2 b o (k1 b o e)) ⟨_, rfl⟩) hc
end
section
variable {prog : Program} {w : World} {A : Around} {s : Shared} {name q : Str} {params : Arguments} {body : Expr} {scope : Scope} {clos : List (Str × Addr)} {pm ctv v : Value} {f c' : Addr} {x : Str} {key : PyData}
/-- the call of a lambda with one parameter -/
theorem lam1_call (hf : s.heap.get? f = some (PySem.W.kla_obj "<lambda>" q params body scope clos pm c' ctv)) (hrec : s.heap.CodeRec (.ref c') q) (room : A.depth < recursionLimit) (lim : s.heap.NoLimit)
    (hbind : bindArgs (PySem.W.kla_fn "<lambda>" q params body scope clos pm (.ref c') ctv) ⟨[v], []⟩ = pure [(x, v)]) (hx : scope.names.lookup x = some .local) (hco : scope.isCoroutine = false) (hgen : scope.isGenerator = false) (hkind : scope.kind = .function)
    (hcell : ∀ y ∈ scope.names, y.2 ≠ .cell)
    (hb : ∀ (B : Around) (L : Addr) (h₁ : Heap), Kp s.heap h₁ → (∃ m, h₁.Ns L m ∧ m x = some v) → ∃ C : Heap → Prop, C h₁ ∧ RawE prog w B (PySem.W.envX q scope L f (.ref c') clos) C body (fun h u => Reads h u key [])) :
    wpAny (model prog w) A (call (.ref f) [v]) (PySem.W.KeyPure key s) (fun _ _ => False) s := by
  refine wpAny_call ?_
  refine PySem.W.kla_callFunE room hf rfl hco hgen rfl hrec ?_
  rw [hbind]
  refine wpAny_pure (wpAny_newFunctionEnv hcell (fun y hy => ?_) (fun h₁ hns hsb => ⟨lim.fresh _ hsb, ?_⟩) hkind)
  · have e : y = (x, v) := by simpa using hy
    rw [e]
    exact hx
  · have kp : Kp s.heap h₁ := fun b o e => hsb.extBut b o (Nat.ne_of_lt (Heap.lt_size e)) (Heap.get?_push_of_some _ e)
    obtain ⟨C, c, hr⟩ := hb (A.deeper (PySem.W.envX q scope s.heap.objs.size f (.ref c') clos)) s.heap.objs.size h₁ kp ⟨_, hns, by simp [List.lookup_cons]⟩
    exact PySem.W.kla_codeExpr (hr _ _ _ c fun u h' tk k r => ⟨h', tk, rfl, fun b o e => k b o (kp b o e), r⟩)
end

section
variable {X : Cx} {pins : List (Addr × Obj)} {σ : L2.St} {H : Hp} {s : Shared}
/-- what the making of a lambda leaves -/
def Lam1 (H H1 : Hp) (P c' : Addr) (q : Str) : Prop := H1 c' = some (LamX.CodeO c' q) ∧ (H1 = H ∨ ∃ (ps more : Array Value), H P = some (.tbl ps) ∧ H c' = none ∧ H1 = upd (upd H P (.tbl (ps ++ more))) c' (LamX.CodeO c' q) ∧ TriplesOk (ps ++ more).toList ∧ Tells H1 (ps ++ more) q)
theorem lam_made {c P : Addr} {params : Arguments} {body : Expr} {scope : Scope} {pos : Pos} {E Q : Value → Shared → Prop} (I : Inv X pins σ H s) (TB : LamX.TabB X.base X.mg c P) (hcode : X.env.code = .ref c)
    (hlm : NmC.lm P (X.env.qual ++ "<lambda>")) (hT : Tb H P) (hdef : defaultsOf params X.env = ([], [])) (hfree : ∀ y ∈ scope.names, y.2 = .free → ∃ c, X.env.cells.lookup y.1 = some c)
    (k : ∀ (f c' : Addr) (pm ctv : Value) (H1 : Hp) (s' : Shared), Inv X pins σ H1 s' → Lam1 H H1 P c' (X.env.qual ++ "<lambda>") →
      s'.heap.get? f = some (PySem.W.kla_obj "<lambda>" (X.env.qual ++ "<lambda>") params body scope (cloFrom X.env.cells scope.names []) pm c' ctv) → Q (.ref f) s') :
    wpAny (model X.prog X.w) X.A (eval (.Lambda params body scope pos) X.env) Q E s := by
  obtain ⟨ps, hP, ht, hn⟩ := hT
  have tells := hn _ hlm
  have hPo : s.heap.get? P = some { cls := .none, data := .fields ps } := I.hok P _ hP
  have bP : s.heap.BuiltinsAt X.mg P := TB.bm.keeps I.bk
  refine PySem.W.kla_eval hdef ?_
  cases hc : codeAmong pos ps.toList with
  | some cv =>
    obtain ⟨c', rfl, e2⟩ := tells pos cv hc
    exact PySem.W.kla_makeFunctionHit (mg := X.mg) (P := P) (ps := ps) (closure_ok hfree) I.ok.glob (I.mod.glob.keeps I.bk) hcode (TB.code.keeps I.bk) hPo ht hc bP fun ctv h' tk hx _ =>
      k _ c' _ ctv H _ (I.kept fun b o e => Heap.get?_push_of_some _ (hx b o e)) ⟨e2, .inl rfl⟩ (Heap.get?_push_size _ rfl)
  | none =>
    refine PySem.W.kla_makeFunction (mg := X.mg) (P := P) (ps := ps) (closure_ok hfree) I.ok.glob (I.mod.glob.keeps I.bk) hcode (TB.code.keeps I.bk) hPo ht hc TB.gP bP fun c' ctv h' tk hx hge _ hrec htb => ?_
    obtain ⟨c2, oc, vs, t, e2, ho, hd, hv⟩ := hrec
    cases e2
    have nC : H c' = none := I.hok.fresh hge
    have nP : P ≠ c' := ne_of_none hP nC
    have grow := LamX.inv_table (t' := tk) (more := #[rawInt pos.line, rawInt pos.col, .ref c']) (h' := h'.push (PySem.W.kla_obj "<lambda>" (X.env.qual ++ "<lambda>") params body scope (cloFrom X.env.cells scope.names []) ((X.mg "__name__").getD .none) c' ctv)) I hP
      (fun b o hb e => Heap.get?_push_of_some _ (hx b o hb e)) (Heap.get?_push_of_some _ htb) hge ⟨oc, vs, t, Heap.get?_push_of_some _ ho, hd, hv⟩
    have e3 : (ps ++ #[rawInt pos.line, rawInt pos.col, Value.ref c']).toList = ps.toList ++ [rawInt pos.line, rawInt pos.col, .ref c'] := by simp
    refine k _ c' _ ctv _ _ grow ⟨upd_same, .inr ⟨ps, _, hP, nC, rfl, by rw [e3]; exact PySem.TriplesOk_snoc _ _ _ _ ht, fun p' cv hcv => ?_⟩⟩ (Heap.get?_push_size _ rfl)
    rw [e3] at hcv
    rcases LamX.among_app _ ht hcv with z | rfl
    · obtain ⟨c0, q1, q2⟩ := tells p' cv z
      refine ⟨c0, q1, ?_⟩
      rw [upd_ne (ne_of_none q2 nC), upd_ne fun z => by
        rw [z, hP] at q2
        exact LamX.codeO_ne ps (Option.some.inj q2).symm]
      exact q2
    · exact ⟨c', rfl, upd_same⟩
theorem Lam1.same {H1 : Hp} {P c' : Addr} {q : Str} (l : Lam1 H H1 P c' q) (hu : ∀ q', NmC.lm P q' → q' = q) (hT : Tb H P) : Same H H1 := fun b o e => by
  rcases l.2 with rfl | ⟨ps, more, hP, hc, rfl, ht, tl⟩
  · exact .inl e
  · have nc : b ≠ c' := ne_of_none e hc
    by_cases hb : b = P
    · subst hb
      rw [hP] at e
      cases e
      obtain ⟨ps', h1, h2, _⟩ := hT
      rw [hP] at h1
      cases h1
      exact .inr ⟨⟨ps, rfl, h2⟩, ps ++ more, by rw [upd_ne nc, upd_same], ht, fun q' hq => by rw [hu q' hq]; exact tl⟩
    · exact .inl (by rw [upd_ne nc, upd_ne hb]; exact e)
end

/-! ### the sort -/
section
variable {X : Cx}
/-- what the lambda makes of the item v, wherever the heap of its call stands -/
def LamKey (X : Cx) (scope : Scope) (x : Str) (body : Expr) (σ : L2.St) (H : Hp) (v : V) (key : PyData) : Prop :=
  ∀ (B : Around) (env : Env) (u : Value) (C : Heap → Prop), env.scope = scope → env.cells = cloFrom X.env.cells scope.names [] → RelV v u → (∀ h h', C h → Kp h h' → C h') → (∀ h, C h → ∃ m, h.Ns env.locals m ∧ m x = some u) →
    (∀ (y : Str) (i : Nat) (z : V), X.N[i]? = some y → σ[i]? = some (some z) → scope.names.lookup y = some .free → ∃ d r, env.cells.lookup y = some d ∧ (∀ h, C h → h.IsCell d (some r)) ∧ RelV z r) →
    (∀ a xs, SqT X.K H a xs → ∃ its : List Value, Vals xs its ∧ (∀ h, C h → IsTup h a its.toArray) ∧ xs.length ≤ sizeLine) → RawE X.prog X.w B env C body (fun h u => Reads h u key [])
def SortB (X : Cx) (scope : Scope) (x : Str) (body : Expr) (P : Addr) (σ : L2.St) (Q : VK) (v : V) (H1 : Hp) : Prop :=
  ∃ (a : Addr) (ps : List (V × PyData)) (kd : PyData → PyData), v = .ref a ∧ SqL X.K H1 a (ps.map (·.1)) ∧ Tb H1 P ∧ PySem.W.AllAlike (ps.map fun b => kd b.2) ∧ PySem.W.Sortable (ps.map fun b => kd b.2) ∧ (∀ b ∈ ps, (kd b.2).depth ≤ 8) ∧
    (∀ H2, Same H1 H2 → ∀ b ∈ ps, LamKey X scope x body σ H2 b.1 (kd b.2)) ∧ ∀ H2 q, Same H1 H2 → H2 q = none → Q (.ref q) (upd H2 q (.lst ((ps.mergeSort (PySem.W.dataLe false fun b => kd b.2)).map (·.1))))
def tSortLam (X : Cx) (scope : Scope) (x : Str) (body : Expr) (P : Addr) (te : TE) : TE := fun σ H Q => te σ H fun v H1 => SortB X scope x body P σ Q v H1
theorem boot_sorted : bootBuiltins "sorted" = some (.builtin "sorted") := by decide +kernel
theorem each_vals {ps : List (V × PyData)} {its : List Value} (r : Vals (ps.map (·.1)) its) : PySem.W.EachIs (fun v (b : V × PyData) => RelV b.1 v) its ps := by
  induction ps generalizing its with
  | nil => cases r; exact .nil
  | cons p ps ih =>
    rw [List.map_cons] at r
    cases r with
    | cons h r => exact .cons h (ih r)
theorem vals_each {out : List Value} {ps : List (V × PyData)} (e : PySem.W.EachIs (fun v (b : V × PyData) => RelV b.1 v) out ps) : Vals (ps.map (·.1)) out := by
  induction e with
  | nil => exact .nil
  | cons h _ ih => exact .cons h ih
theorem cell_of {pins : List (Addr × Obj)} {σ : L2.St} {H : Hp} {s : Shared} {scope : Scope} {y : Str} {i : Nat} {z : V} (I : Inv X pins σ H s) (hfr : ∀ y ∈ scope.names, y.2 = .free → X.env.scope.names.lookup y.1 = some .cell ∨ X.env.scope.names.lookup y.1 = some .free)
    (hi : X.N[i]? = some y) (hz : σ[i]? = some (some z)) (hy : scope.names.lookup y = some .free) : ∃ d r, (cloFrom X.env.cells scope.names []).lookup y = some d ∧ s.heap.IsCell d (some r) ∧ RelV z r := by
  have hm : (y, NameKind.free) ∈ scope.names := PySem.mem_of_lookup hy
  have hv := hfr _ hm rfl
  obtain ⟨m, _, hl⟩ := I.loc
  obtain ⟨r, rv, q⟩ := hl i y z hi hz (hv.elim (fun k => .inr (.inl k)) fun k => .inr (.inr k))
  rcases q with ⟨k, _⟩ | ⟨_, c, hc, hcell⟩
  · have k : X.env.scope.names.lookup y = some .local := k
    rcases hv with k2 | k2 <;> rw [show X.env.scope.names.lookup y = _ from k2] at k <;> cases k
  · obtain ⟨d, hd⟩ := mem_lookup (cloFrom_has (cells := X.env.cells) (acc := []) hm)
    refine ⟨d, r, hd, ?_, rv⟩
    rcases cloFrom_mem (PySem.mem_of_lookup hd) with w | ⟨_, e⟩
    · cases w
    · have e : d = c := by
        have hc2 : X.env.cells.lookup y = some c := hc
        rw [e, hc2]
        rfl
      rw [e]
      exact hcell
theorem cell_keep {h h' : Heap} {d : Addr} {v : Option Value} (k : Kp h h') (c : h.IsCell d v) : h'.IsCell d v := by
  obtain ⟨o, e, q⟩ := c
  exact ⟨o, k _ _ e, q⟩
theorem pe_sortedLam {e : Expr} {te : TE} {p pos lpos kpos : Pos} {params : Arguments} {body : Expr} {scope : Scope} {x : Str} {c P : Addr} {k : Nat} (hu : X.A.units + 10 < cLine) (hr : Room (k + 1) X.A) (TB : LamX.TabB X.base X.mg c P) (hcode : X.env.code = .ref c)
    (hlm : ∀ q, NmC.lm P q ↔ q = X.env.qual ++ "<lambda>") (hg : Gl X "sorted") (hm : X.mg "sorted" = none) (ha : PA X [e] (tCons te tNil)) (hdef : defaultsOf params X.env = ([], []))
    (hbind : ∀ (q : Str) (cl : List (Str × Addr)) (pm cv ctv v : Value), bindArgs (PySem.W.kla_fn "<lambda>" q params body scope cl pm cv ctv) ⟨[v], []⟩ = pure [(x, v)]) (hx : scope.names.lookup x = some .local)
    (hco : scope.isCoroutine = false) (hgen : scope.isGenerator = false) (hkind : scope.kind = .function) (hcell : ∀ y ∈ scope.names, y.2 ≠ .cell)
    (hfr : ∀ y ∈ scope.names, y.2 = .free → X.env.scope.names.lookup y.1 = some .cell ∨ X.env.scope.names.lookup y.1 = some .free)
    (hes : backTo pos (starEach [e] X.env) = (false, eval e X.env) :: backTo pos (starEach [] X.env) := by rfl) (hpl : (backTo pos (starEach [e] X.env)).any (·.1) = false := by rfl)
    (hall : (backToKw pos (keywordEach [⟨some "key", .Lambda params body scope lpos, kpos⟩] X.env)).all (·.1.isSome) = true := by rfl) (hnone : (backToKw pos (keywordEach [⟨some "key", .Lambda params body scope lpos, kpos⟩] X.env)).any (·.1.isNone) = false := by rfl)
    (hks : (backToKw pos (keywordEach [⟨some "key", .Lambda params body scope lpos, kpos⟩] X.env)).filterMap (·.1) = [Str.ofString "key"] := by rfl) :
    PE X (.Call (.Name "sorted" p) [e] [⟨some "key", .Lambda params body scope lpos, kpos⟩] pos) (tSortLam X scope x body P te) := by
  refine ⟨fun pins s σ H Q I h => ?_⟩
  refine wpAny_Call_Name_kw (ld_blt I hg hm boot_sorted ?_ (by decide) (by decide))
  refine PyProof.Rows.callWith_kw (thn (ha.run pos pins s σ H (fun vs H1 => match vs with | [v] => SortB X scope x body P σ Q v H1 | _ => False) I h) fun us s1 ⟨vs, H1, I1, r1, q1⟩ => ?_) hes hpl hall hnone
  have one : ∃ v, vs = [v] ∧ SortB X scope x body P σ Q v H1 := by
    match vs, q1 with
    | [v], q1 => exact ⟨v, rfl, q1⟩
  obtain ⟨v, rfl, a, ps, kd, rfl, hsq, hT, hal, hso, hdp, hkey, q⟩ := one
  obtain rfl := Vals.ref1 r1
  rw [hks]
  refine PyProof.Rows.kwAll_cons (lam_made I1 TB hcode ((hlm _).mpr rfl) hT hdef (fun y hy e => (hfr y hy e).elim (fun k => I1.ok.has _ (.inl k)) fun k => I1.ok.has _ (.inr k)) fun f c' pm ctv H2 s2 I2 l hf => PyProof.Rows.kwAll_nil ?_)
  have sm : Same H1 H2 := l.same (fun q' hq => (hlm q').mp hq) hT
  obtain ⟨its, rv, hl, hz⟩ := I2.list (sm.seq hsq)
  obtain ⟨⟨oc, vs, t, ho, hd, hv⟩, _, _⟩ := I2.hok c' _ l.1
  refine PySem.W.sorted_key_data (β := V × PyData) (b := false) (fun b => kd b.2) hl.isList (each_vals rv) hal hso (by rw [← List.length_map (f := fun b : V × PyData => b.1)]; exact hz) (fun b hb => ?_) (PyProof.Rows.ksk_s1 _ _) (fun _ => PyProof.Rows.ksk_l1 _ _) (fun _ => PyProof.Rows.ksk_t1 _ _)
    (fun v b hR hb h tk kp => ?_) fun out ep h' tk kp hfree hD hlen eo => ?_
  · have := hdp b hb
    omega
  · refine lam1_call (s := { s2 with heap := h, toks := tk }) (kp _ _ hf) ⟨c', oc, vs, t, rfl, kp _ _ ho, hd, hv⟩ hr.depth (I2.nolimit.keeps kp) (hbind _ _ _ _ _ _) hx hco hgen hkind hcell fun B L h₁ k1 hns => ⟨Kp h₁, fun _ _ e => e, ?_⟩
    have kk : Kp s2.heap h₁ := fun b o e => k1 b o (kp b o e)
    refine hkey H2 sm b hb B (PySem.W.envX (X.env.qual ++ "<lambda>") scope L f (.ref c') (cloFrom X.env.cells scope.names [])) v (Kp h₁) rfl rfl hR (fun h h' c k b o e => k b o (c b o e)) (fun h c => ?_) (fun y i z hi hz hy => ?_) fun a xs hs => ?_
    · obtain ⟨m, hn, hm⟩ := hns
      exact ⟨m, hn.keeps c, hm⟩
    · obtain ⟨d, r, e1, e2, e3⟩ := cell_of I2 hfr hi hz hy
      exact ⟨d, r, e1, fun h c => cell_keep c (cell_keep kk e2), e3⟩
    · obtain ⟨its, r, pt, z⟩ := I2.tuple hs
      exact ⟨its, r, fun h c => (pt.keeps kk).keeps c, z⟩
  · have hle : s2.heap.objs.size ≤ s2.heap.objs.size + 1 := Nat.le_succ _
    have zl : ((ps.mergeSort (PySem.W.dataLe false fun b => kd b.2)).map (·.1)).length ≤ sizeLine := by
      rw [List.length_map] at hz ⊢
      rw [List.length_mergeSort]
      exact hz
    exact ⟨.ref _, upd H2 _ (.lst ((ps.mergeSort (PySem.W.dataLe false fun b => kd b.2)).map (·.1))), I2.laid (t' := tk) kp hle ⟨zl, out, ep, vals_each eo, hD⟩, rfl, q H2 _ sm (I2.hok.fresh hle)⟩
end
end M3
/-! ### sorted(e, key=lambda x: ..) over stores -/
namespace M3
open PySem PySem.Spec PyProof.Rows L2
variable [NmC]
section
variable {X : Cx} {W : WX} {δ : Sto} {ex : XP} {te : TE} {scope : Scope} {x : Str} {body : Expr} {P : Addr}
theorem da_zip {K : PySem.W.Frag} {H : Hp} : ∀ {xs : List V} {ds : List PyData}, Da K H xs ds → ∀ b ∈ xs.zip ds, Dd K H b.1 b.2
  | _, _, .nil, _, h => nomatch h
  | _, _, .cons h r, b, hb => by
    rw [List.zip_cons_cons] at hb
    rcases List.mem_cons.mp hb with rfl | hb
    · exact h
    · exact da_zip r b hb
theorem da_pairs {K : PySem.W.Frag} {H : Hp} : ∀ (ps : List (V × PyData)), (∀ b ∈ ps, Dd K H b.1 b.2) → Da K H (ps.map (·.1)) (ps.map (·.2))
  | [], _ => .nil
  | b :: ps, h => .cons (h b (List.mem_cons_self ..)) (da_pairs ps fun c hc => h c (List.mem_cons_of_mem _ hc))
theorem fx_sortLam {K : PySem.W.Frag} {pq : List PyData → Sto → Prop} (hK : X.K = K) (hP : NmC.tb P) (h : EX K W te δ (fun w δ1 => ∃ (ds : List PyData) (kd : PyData → PyData), w = .d (.list ds) ∧ PySem.W.AllAlike (ds.map kd) ∧ PySem.W.Sortable (ds.map kd) ∧ (∀ d ∈ ds, (kd d).depth ≤ 8) ∧
      (∀ m H σ, Env3 K m H σ δ1 → ∀ v, ∀ d ∈ ds, Dd K (hide (hid m δ1) H) v d → LamKey X scope x body σ H v (kd d)) ∧ pq (ds.mergeSort (PySem.W.dataLe false kd)) δ1) ex) : FX K W (tSortLam X scope x body P te) δ pq ex :=
  by
  subst hK
  exact fun m H σ I Q k k2 => h m H σ I _ (fun v w H1 δ1 g1 s1 I1 o1 ⟨ds, kd, e, hal, hso, hdp, hk, pp⟩ => by
    subst e
    obtain ⟨a, xs, rfl, hs, r⟩ := dd_lst o1
    have hl := r.length
    have e1 : (xs.zip ds).map (·.1) = xs := List.map_fst_zip (Nat.le_of_eq hl)
    have e2 : (xs.zip ds).map (·.2) = ds := List.map_snd_zip (Nat.le_of_eq hl.symm)
    have e3 : (xs.zip ds).map (fun b => kd b.2) = ds.map kd := by
      have := congrArg (List.map kd) e2
      rwa [List.map_map] at this
    have mem : ∀ b ∈ xs.zip ds, b.2 ∈ ds := fun b hb => (List.of_mem_zip hb).2
    have hz := da_zip r
    refine ⟨a, xs.zip ds, kd, rfl, by rw [e1]; exact Same.seq hide_same hs, I1.tab.has P hP, by rw [e3]; exact hal, by rw [e3]; exact hso, fun b hb => hdp _ (mem b hb), fun H2 sm b hb => ?_, fun H2 q sm hq => ?_⟩
    · have I2 := I1.same sm
      exact hk m H2 σ I2 b.1 b.2 (mem b hb) ((hz b hb).mono (hide_mono (I1.lists' sm) sm))
    · have I2 := I1.same sm
      have ee := erase_upd (o := .lst (((xs.zip ds).mergeSort (PySem.W.dataLe false fun b => kd b.2)).map (·.1))) hq
      have em : ((xs.zip ds).mergeSort (PySem.W.dataLe false fun b => kd b.2)).map (·.2) = ds.mergeSort (PySem.W.dataLe false kd) := by
        exact (PySem.W.sort_maps (r := PySem.W.dataLe false fun b : V × PyData => kd b.2) (s := PySem.W.dataLe false kd) (fun b : V × PyData => b.2) fun a _ b _ => rfl).trans (by rw [e2])
      refine k q _ (ds.mergeSort (PySem.W.dataLe false kd)) _ δ1 (by rw [ee]; exact g1.trans (.of_same I1 sm)) s1 (by rw [ee]; exact I2) upd_same ?_ pp
      rw [ee, ← em]
      exact da_pairs _ fun b hb => (hz b (List.mem_mergeSort.mp hb)).mono (hide_mono (I1.lists' sm) sm)) k2
theorem lt64 {a : Nat} (h : a + 64 < cLine) : a < cLine := by omega
theorem lt64b {a : Nat} (h : a + 64 < cLine) : a + 10 < cLine := by omega
theorem hcell_by {scope : Scope} (h : (scope.names.all fun y => !decide (y.2 = .cell)) = true) : ∀ y ∈ scope.names, y.2 ≠ .cell := fun y hy => by
  have := List.all_eq_true.mp h y hy
  simpa using this
theorem hfr_by {sc scope : Scope} (h : (scope.names.all fun y => !decide (y.2 = .free) || decide (sc.names.lookup y.1 = some .cell) || decide (sc.names.lookup y.1 = some .free)) = true) :
    ∀ y ∈ scope.names, y.2 = .free → sc.names.lookup y.1 = some .cell ∨ sc.names.lookup y.1 = some .free := fun y hy e => by
  have := List.all_eq_true.mp h y hy
  simpa [e] using this
/-- x[0] * (y // x[1]), y captured -/
theorem raw_fdiv {prog : Program} {w : World} {A : Around} {env : Env} {C : Heap → Prop} {a b : Expr} {pos : Pos} {i j : Int} (st : ∀ h h', C h → Kp h h' → C h') (ha : RawE prog w A env C a (fun _ u => ∃ t, u = .int i t)) (hb : RawE prog w A env C b (fun _ u => ∃ t, u = .int j t)) (h0 : j ≠ 0) (hl : j.natAbs.log2 < 9000) :
    RawE prog w A env C (.BinOp a .FloorDiv b pos) (fun _ u => ∃ t, u = .int (i.fdiv j) t) := fun s Q E c k => by
  refine wpAny_BinOp (ha s _ E c fun u h1 tk1 k1 e1 => hb _ _ E (st _ _ c k1) fun u2 h2 tk2 k2 e2 => ?_)
  obtain ⟨t1, rfl⟩ := e1
  obtain ⟨t2, rfl⟩ := e2
  exact floordiv_int h0 (k _ h2 _ (fun b o e => k2 b o (k1 b o e)) ⟨_, rfl⟩) (.inl (PyProof.noPylong_of_log2 hl))
theorem raw_imp {prog : Program} {w : World} {A : Around} {env : Env} {C : Heap → Prop} {e : Expr} {U V : Heap → Value → Prop} (h : RawE prog w A env C e U) (q : ∀ h u, U h u → V h u) : RawE prog w A env C e V := fun s Q E c k => h s Q E c fun u h' tk kp r => k u h' tk kp (q _ _ r)
theorem key_scaled {σ : L2.St} {H : Hp} {v : V} {y : Str} {i j1 j2 : Nat} {L n m : Int} {p1 p2 p3 p4 p5 p6 p7 p8 p9 : Pos} (hk : scope.kind = .function) (hx : scope.names.lookup x = some .local) (hy : scope.names.lookup y = some .free) (hi : X.N[i]? = some y) (hL : σ[i]? = some (some (.int L)))
    (hv : ∃ b, v = .ref b ∧ SqT X.K H b [.int n, .int m]) (h0 : m ≠ 0) (hl : m.natAbs.log2 < 9000) (hm : IntMulOk n (L.fdiv m)) (dx : (x == ("__debug__" : Str)) = false) (dy : (y == ("__debug__" : Str)) = false) (dc : (y == ("__classdict__" : Str)) = false) :
    LamKey X scope x (.BinOp (.Subscript (.Name x p1) (.Constant (.int 0) j1 p2) p3) .Mult (.BinOp (.Name y p4) .FloorDiv (.Subscript (.Name x p5) (.Constant (.int 1) j2 p6) p7) p8) p9) σ H v (.int (n * L.fdiv m)) := by
  intro B env u C hs hc ru st hn hcap hT
  obtain ⟨b, rfl, hq⟩ := hv
  cases ru
  obtain ⟨its, rv, ht, hz⟩ := hT b _ hq
  obtain ⟨d, r, e1, e2, e3⟩ := hcap y i _ hi hL hy
  have kx : env.kindOf x = some .local := by unfold Env.kindOf; rw [hs]; exact hx
  have ky : env.kindOf y = some .free := by unfold Env.kindOf; rw [hs]; exact hy
  have kf : env.scope.kind = .function := by rw [hs]; exact hk
  have rx : ∀ {p : Pos}, RawE X.prog X.w B env C (.Name x p) (fun _ u => u = .ref b) := raw_local kf kx hn dx
  have r0 := raw_rel rfl (raw_ixT (i := 0) (pos := p3) st (rx (p := p1)) (raw_int (j := j1) (pos := p2)) ht rv (y := .int n) rfl hz (fun _ _ => rfl))
  have r1 := raw_rel rfl (raw_ixT (i := 1) (pos := p7) st (rx (p := p5)) (raw_int (j := j2) (pos := p6)) ht rv (y := .int m) rfl hz (fun _ _ => rfl))
  have ry : RawE X.prog X.w B env C (.Name y p4) (fun _ u => ∃ t, u = .int L t) := raw_imp (raw_free kf ky e1 e2 dy dc) fun h u e => by
    obtain ⟨t, q⟩ := e3
    exact ⟨t, e.trans q⟩
  exact raw_imp (raw_mul st r0 (raw_fdiv st ry r1 h0 hl) hm) fun h u ⟨t, e⟩ => by rw [e]; exact .int _ _
end
end M3
/-! ### the end of a law's row, what tables are asked for is said in it -/
namespace M3
open PySem PySem.Spec PyProof.Rows L2
theorem walk_law2 {l : PySem.W.OpenLaw} {k : Nat} {q : Program} {loose : List Str} {XP : (Str → Option Value) → Heap → Prop} {YP : World → Heap → Prop} {d : DefRec} {K : Params → PySem.W.Frag} {x : Str}
    (hn : l.most = some 63) (hdf : d.params.defaults = []) (hr : Room k callerA) (hY : ∀ (w : World) (h : Heap), YP w h → (K w.params).In h)
    (F : ∀ (w : World) (mg : Str → Option Value) (fa : Addr) (h : Heap), YP w h → (K w.params).In h → h.Ns mainGlobals mg → mg d.name = some (.ref fa) →
      ∃ (N : NmC) (fd : FuncData) (cs : List (Addr × Addr)), (∀ p ∈ cs, h.get? p.2 = some emptyT) ∧ (∀ p ∈ cs, (K w.params).lookup p.2 = none) ∧ (∀ p ∈ cs, PySem.W.CodeHd h p.1 p.2) ∧ (∀ Q, N.tb Q → Q ∈ cs.map (·.2)) ∧
        (∀ (s : Shared) (u : Value), BindsTo s fd ⟨[u], []⟩ [(x, u)]) ∧ ∀ base : Heap, (K w.params).In base → base.Ns mainGlobals mg → (∀ p ∈ cs, TabX base mg p.1 p.2) → FnG l.prog w (K w.params) mg base k fa fd [x] (@spScript N (K w.params))) :
    PySem.W.WalkO q loose XP YP l.row.toRowW d [] (fun f vs => PySem.call f vs) :=
  Att.attach_call hn hdf fun w s₀ s₁ mg mb fa o pm cd doc a vs ns G Y _ _ _ hmg hobj hints hlen hg => by
    have KX := hY w _ Y
    obtain ⟨N, fd, cs, t1, t2, t3, t4, hb, hF⟩ := F w mg fa _ Y KX G.T.g hmg
    letI := N
    exact run_law KX G.T.g G.T.b G.T.builtins G.T.nolimit hg t1 t2 t3 t4 G.T.bmain hobj hints hlen hr hF hb
end M3
/-! ### texts -/
namespace M3
open PySem PySem.Spec PyProof.Rows L2
variable [NmC]
section
variable {K : PySem.W.Frag} {W : WX} {δ : Sto} {ex : XP} {post : Vw → Sto → Prop} {te to ta : TE} {tl th : TO} {t : TA}
theorem rx_addS {x y : Str} (hl : x.length + y.length ≤ 1000000) (q : post (.d (.str (x ++ y))) δ) : RX K (fun x y H Q => ∃ i j, x = V.str i ∧ y = V.str j ∧ i.length + j.length ≤ sizeLine ∧ Q (V.str (i ++ j)) H) (.d (.str x)) (.d (.str y)) δ post := fun m H σ v1 v2 I o1 o2 Q k => by
  cases dd_str o1
  cases dd_str o2
  exact ⟨x, y, rfl, rfl, Nat.le_trans hl (by decide), k _ (.d (.str _)) H (.refl H) (.str _) q⟩
theorem rx_inS {c : Nat} {z : Str} (q : post (.d (.bool (decide (c ∈ z.cps.toList)))) δ) : RX K (fun x y H Q => ∃ (c : Nat) (z : Str), x = V.str ⟨#[c]⟩ ∧ y = V.str z ∧ Q (V.bl (decide (c ∈ z.cps.toList))) H) (.d (.str ⟨#[c]⟩)) (.d (.str z)) δ post := fun m H σ v1 v2 I o1 o2 Q k => by
  cases dd_str o1
  cases dd_str o2
  exact ⟨c, z, rfl, rfl, k _ (.d (.bool _)) H (.refl H) (.bl _) q⟩
theorem rx_notInS {c : Nat} {z : Str} (q : post (.d (.bool (!decide (c ∈ z.cps.toList)))) δ) : RX K (fun x y H Q => ∃ (c : Nat) (z : Str), x = V.str ⟨#[c]⟩ ∧ y = V.str z ∧ Q (V.bl (!decide (c ∈ z.cps.toList))) H) (.d (.str ⟨#[c]⟩)) (.d (.str z)) δ post := fun m H σ v1 v2 I o1 o2 Q k => by
  cases dd_str o1
  cases dd_str o2
  exact ⟨c, z, rfl, rfl, k _ (.d (.bool _)) H (.refl H) (.bl _) q⟩
theorem rx_ixS {z : Str} {i : Int} {c : Nat} (hz : z.length ≤ 1000000) (h : atI z.cps.toList i = some c) (q : post (.d (.str ⟨#[c]⟩)) δ) : RX K rIxS (.d (.str z)) (.d (.int i)) δ post := fun m H σ v1 v2 I o1 o2 Q k => by
  cases dd_str o1
  cases dd_int o2
  exact ⟨z, i, c, rfl, rfl, Nat.le_trans hz (by decide), h, k _ (.d (.str _)) H (.refl H) (.str _) q⟩
/-- z[lo:hi] -/
theorem ex_slS (h : EX K W te δ (fun w δ1 => OX K W tl δ1 (fun lo δ2 => OX K W th δ2 (fun hi δ3 => ∃ z : Str, w = .d (.str z) ∧ z.length ≤ 1000000 ∧ post (.d (.str (Txt.slice z lo hi))) δ3) ex) ex) ex) : EX K W (tSl rSlS te tl th) δ post ex :=
  fun m H σ I Q k k2 => h m H σ I _ (fun v1 w1 H1 δ1 g1 s1 I1 o1 hb => hb m H1 σ I1 _ (fun lo H2 δ2 g2 s2 I2 hc => hc m H2 σ I2 _ (fun hi H3 δ3 g3 s3 I3 ⟨z, e, hz, q⟩ => by
      subst e
      cases dd_str o1
      refine ⟨z, rfl, Nat.le_trans hz (by decide), ?_⟩
      rw [← C8.cutS_slice] at q
      exact k _ (.d (.str _)) H3 δ3 ((g1.trans g2).trans g3) ((s1.trans s2).trans s3) I3 (.str _) q)
    (fun C H' δ' g J e => k2 C H' δ' ((g1.trans g2).trans g) J e))
    (fun C H' δ' g J e => k2 C H' δ' (g1.trans g) J e)) k2
/-- a method of a text with one text -/
theorem ex_m1 {r : V → List V → Hp → VK → Prop} (h : EX K W to δ (fun w δ1 => ∃ a : Str, w = .d (.str a) ∧ EX K W te δ1 (fun w2 δ2 => ∃ b : Str, w2 = .d (.str b) ∧
      ∀ (m : Addr → Prop) (H : Hp) (σ : L2.St), Env3 K m H σ δ2 → ∀ Q : VK, (∀ v w H', Same H H' → VwOk K m H' δ2 v w → post w δ2 → Q v H') → r (.str a) [.str b] H Q) ex) ex) : EX K W (tM1 r to te) δ post ex :=
  fun m H σ I Q k k2 => h m H σ I _ (fun v w H1 δ1 g1 s1 I1 o1 ⟨a, e, hb⟩ => by
    subst e
    cases dd_str o1
    refine ⟨⟨a, rfl⟩, hb m H1 σ I1 _ (fun v2 w2 H2 δ2 g2 s2 I2 o2 ⟨b, e2, q⟩ => ?_) fun C H' δ' g J e => k2 C H' δ' (g1.trans g) J e⟩
    subst e2
    cases dd_str o2
    exact q m H2 σ I2 Q fun v w H' sm o p => k v w H' δ2 ((g1.trans g2).trans (.of_same I2 sm)) (s1.trans s2) (I2.same sm) o p) k2
theorem ex_starts (h : EX K W to δ (fun w δ1 => ∃ a : Str, w = .d (.str a) ∧ EX K W te δ1 (fun w2 δ2 => ∃ b : Str, w2 = .d (.str b) ∧ post (.d (.bool (Txt.startswith a b))) δ2) ex) ex) :
    EX K W (tM1 (fun x xs H Q => ∃ a b, x = V.str a ∧ xs = [V.str b] ∧ Q (V.bl (Txt.startswith a b)) H) to te) δ post ex :=
  ex_m1 (h.imp (fun w δ1 ⟨a, e, hb⟩ => ⟨a, e, hb.imp (fun w2 δ2 ⟨b, e2, q⟩ => ⟨b, e2, fun m H σ I Q k => ⟨a, b, rfl, rfl, k _ (.d (.bool _)) H (.refl H) (.bl _) q⟩⟩) fun _ _ e => e⟩) fun _ _ e => e)
theorem ex_partition (h : EX K W to δ (fun w δ1 => ∃ a : Str, w = .d (.str a) ∧ EX K W te δ1 (fun w2 δ2 => ∃ b : Str, w2 = .d (.str b) ∧ (b.length == 0) = false ∧ a.length ≤ 1000000 ∧ post (.d (.tuple [.str (Txt.partition a b).1, .str (Txt.partition a b).2.1, .str (Txt.partition a b).2.2])) δ2) ex) ex) :
    EX K W (tM1 (fun x xs H Q => ∃ a b, x = V.str a ∧ xs = [V.str b] ∧ (b.length == 0) = false ∧ a.length ≤ sizeLine ∧
      ∀ p, H p = none → Q (.ref p) (upd H p (.tup [.str (Txt.partition a b).1, .str (Txt.partition a b).2.1, .str (Txt.partition a b).2.2]))) to te) δ post ex :=
  ex_m1 (h.imp (fun w δ1 ⟨a, e, hb⟩ => ⟨a, e, hb.imp (fun w2 δ2 ⟨b, e2, hl, hz, q⟩ => ⟨b, e2, fun m H σ I Q k => ⟨a, b, rfl, rfl, hl, Nat.le_trans hz (by decide), fun p hp => by
    have sm := same_upd (o := .tup [.str (Txt.partition a b).1, .str (Txt.partition a b).2.1, .str (Txt.partition a b).2.2]) hp
    refine k (.ref p) (.d (.tuple _)) _ sm ?_ q
    exact .tup (.inl (.inl (hide_some (not_hid I hp) upd_same))) (.cons (.str _) (.cons (.str _) (.cons (.str _) .nil)))⟩⟩) fun _ _ e => e⟩) fun _ _ e => e)
theorem da_strs {H : Hp} : ∀ ys : List Str, Da K H (ys.map V.str) (ys.map PyData.str)
  | [] => .nil
  | y :: ys => .cons (.str y) (da_strs ys)
theorem strs_da {H : Hp} : ∀ {vs : List V} {ys : List Str}, Da K H vs (ys.map PyData.str) → vs = ys.map V.str
  | _, [], .nil => rfl
  | _, y :: ys, .cons h r => by rw [List.map_cons, dd_str h, strs_da r]
theorem fx_split {pq : List PyData → Sto → Prop} (h : EX K W to δ (fun w δ1 => ∃ a : Str, w = .d (.str a) ∧ EX K W te δ1 (fun w2 δ2 => ∃ b : Str, w2 = .d (.str b) ∧ (b.length == 0) = false ∧ a.length ≤ 1000000 ∧ pq ((Txt.split a b).map PyData.str) δ2) ex) ex) :
    FX K W (tM1 (fun x xs H Q => ∃ a b, x = V.str a ∧ xs = [V.str b] ∧ (b.length == 0) = false ∧ a.length + 2 ≤ sizeLine ∧ rNewStrs (Txt.split a b) H Q) to te) δ pq ex :=
  fun m H σ I Q k k2 => h m H σ I _ (fun v w H1 δ1 g1 s1 I1 o1 ⟨a, e, hb⟩ => by
    subst e
    cases dd_str o1
    refine ⟨⟨a, rfl⟩, hb m H1 σ I1 _ (fun v2 w2 H2 δ2 g2 s2 I2 o2 ⟨b, e2, hl, hz, q⟩ => ?_) fun C H' δ' g J e => k2 C H' δ' (g1.trans g) J e⟩
    subst e2
    cases dd_str o2
    refine ⟨a, b, rfl, rfl, hl, Nat.le_trans (Nat.add_le_add_right hz 2) (by decide), fun p hp => ?_⟩
    have ee := erase_upd (o := .lst ((Txt.split a b).map V.str)) hp
    exact k p _ _ _ δ2 (by rw [ee]; exact g1.trans g2) (s1.trans s2) (by rw [ee]; exact I2) upd_same (by rw [ee]; exact da_strs _) q) k2
/-- a.join(list of texts) -/
theorem ex_join (h : EX K W to δ (fun w δ1 => ∃ a : Str, w = .d (.str a) ∧ EX K W te δ1 (fun w2 δ2 => ∃ ys : List Str, w2 = .d (.list (ys.map PyData.str)) ∧ (ys.map (·.length)).sum + ys.length * a.length ≤ 1000000 ∧ post (.d (.str (Txt.join a ys))) δ2) ex) ex) :
    EX K W (tM1 (fun x xs H Q => ∃ a p, ∃ ys : List Str, x = V.str a ∧ xs = [V.ref p] ∧ (SqL K H p (ys.map V.str) ∨ SqT K H p (ys.map V.str)) ∧ (ys.map (·.length)).sum + ys.length * a.length ≤ 16777216 ∧ Q (.str (Txt.join a ys)) H) to te) δ post ex :=
  fun m H σ I Q k k2 => h m H σ I _ (fun v w H1 δ1 g1 s1 I1 o1 ⟨a, e, hb⟩ => by
    subst e
    cases dd_str o1
    refine ⟨⟨a, rfl⟩, hb m H1 σ I1 _ (fun v2 w2 H2 δ2 g2 s2 I2 o2 ⟨ys, e2, hz, q⟩ => ?_) fun C H' δ' g J e => k2 C H' δ' (g1.trans g) J e⟩
    subst e2
    obtain ⟨b, xs, rfl, hs, r⟩ := dd_lst o2
    rw [strs_da r] at hs
    exact ⟨a, b, ys, rfl, rfl, .inl (Same.seq hide_same hs), by omega, k _ (.d (.str _)) H2 δ2 (g1.trans g2) (s1.trans s2) I2 (.str _) q⟩) k2
/-- e[::-1] -/
theorem fx_revL {pq : List PyData → Sto → Prop} (h : EX K W te δ (fun w δ1 => ∃ ds, pq ds.reverse δ1 ∧ (w = .d (.list ds) ∨ ∃ i q, w = .m i ∧ δ1[i]? = some (.ml q ds))) ex) : FX K W (tRevL K te) δ pq ex :=
  fun m H σ I Q k k2 => h m H σ I _ (fun v w H1 δ1 g1 s1 I1 o1 ⟨ds, pp, hw⟩ => by
    have fin : ∀ l xs, v = .ref l → SqL K H1 l xs → Da K (hide (hid m δ1) H1) xs ds → ∃ a xs, v = .ref a ∧ SqL K H1 a xs ∧ ∀ p, H1 p = none → Q (.ref p) (upd H1 p (.lst xs.reverse)) := fun l xs e hs r => by
      refine ⟨l, xs, e, hs, fun q hq => ?_⟩
      have ee := erase_upd (o := .lst xs.reverse) hq
      exact k q xs.reverse ds.reverse _ δ1 (by rw [ee]; exact g1) s1 (by rw [ee]; exact I1) upd_same (by rw [ee]; exact da_rev r) pp
    rcases hw with e | ⟨i, q, e, hi⟩
    · subst e
      obtain ⟨a, xs, rfl, hs, r⟩ := dd_lst o1
      exact fin a xs rfl (Same.seq hide_same hs) r
    · subst e
      obtain ⟨q', ds', e2, e3⟩ := o1
      rw [hi] at e2
      cases e2
      obtain ⟨_, _, xs, hx, r⟩ := I1.ml i q ds hi
      exact fin q xs e3 (.inl (.inl hx)) r) k2
theorem vx_strI {i : Int} (hz : i.natAbs.log2 < 1920) (q : post (.d (.str (toString i))) δ) : VX K (fun xs H Q => ∃ i, xs = [V.int i] ∧ i.natAbs.log2 < 1920 ∧ Q (V.str (toString i)) H) [.d (.int i)] δ post := fun m H σ vs I o Q k => by
  obtain ⟨v, rfl, h1⟩ := vw1 o
  cases dd_int h1
  exact ⟨i, rfl, hz, k _ (.d (.str _)) H (.refl H) (.str _) q⟩
theorem vx_intS {a : Str} {n : Int} (hn : PySem.intText? a = some n) (hl : a.length ≤ 640) (q : post (.d (.int n)) δ) : VX K (fun xs H Q => ∃ a n, xs = [V.str a] ∧ PySem.intText? a = some n ∧ a.length ≤ 640 ∧ Q (V.int n) H) [.d (.str a)] δ post := fun m H σ vs I o Q k => by
  obtain ⟨v, rfl, h1⟩ := vw1 o
  cases dd_str h1
  exact ⟨a, n, rfl, hn, hl, k _ (.d (.int _)) H (.refl H) (.int _) q⟩
theorem vx_lenS {a : Str} (hl : a.length ≤ 1000000) (q : post (.d (.int a.length)) δ) : VX K (fun xs H Q => ∃ z, xs = [V.str z] ∧ z.length ≤ sizeLine ∧ Q (V.int z.length) H) [.d (.str a)] δ post := fun m H σ vs I o Q k => by
  obtain ⟨v, rfl, h1⟩ := vw1 o
  cases dd_str h1
  exact ⟨a, rfl, Nat.le_trans hl (by decide), k _ (.d (.int _)) H (.refl H) (.int _) q⟩
end
section
variable {K : PySem.W.Frag} {W : WX} {δ : Sto} {ex : XP} {tl : TE} {tt : TT} {te : TE} {g : TG} {vs : List Nat} {ok : PyData → Prop} {f : Sto → PyData → Sto}
theorem lc_str {z : Str} {g : TG} {tt : TT} {te : TE} {vs : List Nat} {σ : L2.St} {H1 : Hp} {D : Addr} {Qd : Hp → Prop} (Pv : Nat → Hp → Prop) (h0 : Pv 0 (upd H1 D (.lst [])))
    (hs : ∀ i (c : Nat) H, z.cps[i]? = some c → Pv i H → g (.str ⟨#[c]⟩) (wipe σ vs) H fun σ2 H2 => wipe σ2 vs = wipe σ vs ∧ tt σ2 H2 fun b H3 =>
      if b = true then te σ2 H3 fun y H4 => ∃ acc, H4 D = some (.lst acc) ∧ acc.length < sizeLine ∧ Pv (i + 1) (upd H4 D (.lst (acc ++ [y]))) else Pv (i + 1) H3) (hd : ∀ H, Pv z.cps.size H → Qd H) :
    ∃ W : Nat → Nat → Hp → Prop, (∃ m, W 0 m (upd H1 D (.lst []))) ∧ ∀ i m H, W i m H →
      ((Its z).stop i H ∧ Qd H) ∨ ((Its z).go i H ∧ ∃ Nx : Hp → Prop, (∀ H', Nx H' → ∃ m', m' < m ∧ W (i + 1) m' H') ∧ ∀ x H', (Its z).yld i H x H' → g x (wipe σ vs) H' fun σ2 H2 => wipe σ2 vs = wipe σ vs ∧ tt σ2 H2 fun b H3 =>
        if b = true then te σ2 H3 fun y H4 => ∃ acc, H4 D = some (.lst acc) ∧ acc.length < sizeLine ∧ Nx (upd H4 D (.lst (acc ++ [y]))) else Nx H3) := by
  refine ⟨fun i n H => n = z.cps.size - i ∧ i ≤ z.cps.size ∧ Pv i H, ⟨z.cps.size, by simp, Nat.zero_le _, h0⟩, ?_⟩
  rintro i n H ⟨rfl, hi, pv⟩
  by_cases hlt : i < z.cps.size
  · refine .inr ⟨hlt, Pv (i + 1), fun H' p' => ⟨z.cps.size - (i + 1), by omega, rfl, hlt, p'⟩, ?_⟩
    rintro x H' ⟨rfl, c, hc, rfl⟩
    exact hs i c _ hc pv
  · have e : i = z.cps.size := by omega
    subst e
    exact .inl ⟨Nat.le_refl _, hd H pv⟩
theorem fx_lcS {p : List PyData → Sto → Prop} (tg : TgC K g vs ok f) (Inv : Str → Nat → List PyData → Sto → Prop)
    (h : EX K W tl δ (fun w δ1 => ∃ z : Str, w = .d (.str z) ∧ NoMl δ1 vs ∧ Inv z 0 [] (wipeD δ1 vs) ∧ LcI K tt te vs ok f (z.cps.toList.map fun c => PyData.str ⟨#[c]⟩) (Inv z) ∧ ∀ acc δ', Inv z z.cps.size acc δ' → p acc δ') ex) : FX K W (tLc (iStr tl) g tt te vs) δ p ex :=
  fun m H σ I Q k k2 => h m H σ I _ (fun v w H1 δ1 g1 s1 I1 o1 ⟨z, e, nv, i0, turn, fin⟩ => by
    subst e
    cases dd_str o1
    refine ⟨z, rfl, fun D hD => ?_⟩
    have nD : ¬ m D := fun y => I1.got D y hD
    refine lc_str (z := z) (fun k H' => ∃ δ' acc, LcS K m D vs σ δ1 H1 (Inv z k) H' δ' acc) ⟨_, _, lc_start I1 hD nv i0⟩ ?_ ?_
    · rintro k c H' hx ⟨δ', acc, S⟩
      have hd : (z.cps.toList.map fun c => PyData.str ⟨#[c]⟩)[k]? = some (.str ⟨#[c]⟩) := by rw [List.getElem?_map, Array.getElem?_toList, hx]; rfl
      obtain ⟨hok, hb⟩ := turn k _ acc δ' hd S.inv
      exact lc_turn tg nD S (.str _) hok hb fun H2 δ2 acc2 S2 => ⟨δ2, acc2, S2⟩
    · rintro H' ⟨δ', acc, S⟩
      exact lc_end nD g1 s1 S (fin acc δ' S.inv) k) k2
/-- a, b = e, e a list -/
theorem sx_unpackL {K : PySem.W.Frag} {W : WX} {δ : Sto} {R : Ends3} {te : TE} {n : Nat} {is : List Nat} (h : EX K W te δ (fun w δ' => ∃ ds, w = .d (.list ds) ∧ ds.length = n ∧ R.nx (setAll δ' is ds)) R.ex) (hn : is.length = n) : SX K W (tAsg te (gLst K n (gNames is))) δ R := fun m H σ I D k1 k2 k3 k4 k5 =>
  h m H σ I _ (fun v w H' δ' g s J o ⟨ds, e, hl, q⟩ => by
    subst e
    obtain ⟨a, xs, rfl, hs, r⟩ := dd_lst o
    refine ⟨a, xs, rfl, Same.seq hide_same hs, by rw [r.length, hl], ?_⟩
    exact names_go is ds xs m H' σ δ' J r (by rw [hl, hn]) fun σ' g' J' => k1 σ' H' _ (g.trans g') J' q) (fun C H' δ' g J e => k5 C σ H' δ' g J e)
end
end M3
/-! ### all(test for x in text), the test any expression that lays new objects at most and reads globals -/
namespace M3
open PySem PySem.Spec PyProof.Rows L2
variable [NmC]
section
variable {X : Cx} {pins : List (Addr × Obj)} {σ : L2.St} {H : Hp} {s : Shared}
/-- the test's answer for each sign -/
def SignE (X : Cx) (scope : Scope) (x : Str) (elt : Expr) (pb : Nat → Bool) : Prop :=
  ∀ (cenv : Env) (B : Around) (c : Nat) (t : Tok) (C : Heap → Prop), cenv.scope = scope → cenv.globals = mainGlobals → (∀ h h', C h → Kp h h' → C h') → (∀ h, C h → ∃ m, h.Ns cenv.locals m ∧ m x = some (.str ⟨#[c]⟩ t)) → (∀ h, C h → h.Ns mainGlobals X.mg) →
    RawE X.prog X.w B cenv C elt (fun _ y => y = .bool (pb c))
/-- a namespace object that stands under a later heap -/
theorem ns_under {h h' : Heap} {b : Addr} {m : Str → Option Value} (n : h.Ns b m) (k : ∀ o, h.get? b = some o → h'.get? b = some o) : h'.Ns b m := by
  obtain ⟨o, es, ep, e, r⟩ := n
  exact ⟨o, es, ep, k o e, r⟩
/-- what the walk gives back, told of the abstract heap -/
theorem signs_back {P it : Addr} {ps qs : Array Value} {hp hh : Heap} {t1 : Nat} {gs : GenState} {s' : Shared} (I : Inv X pins σ H s) (hP : H P = some (.tbl ps)) (grown : ∃ more, qs = ps ++ more) (trip : TriplesOk qs.toList) (bare : gs.bare = true)
    (at3 : hp.get? P = some { cls := .none, data := .fields qs }) (kept : ∀ b u, b ≠ P → s.heap.get? b = some u → hp.get? b = some u) (kh : ∀ b u, hp.get? b = some u → hh.get? b = some u) (lit : s.heap.objs.size ≤ it) (big : s.heap.objs.size ≤ hp.objs.size)
    (mv : Moved (hp.objs.size :: [it]) (GenOnlyQ s.gens.size) { s with heap := hh, gens := s.gens.push gs, toks := t1 } s') : ∃ H2, GxR.Tabbed P H H2 ∧ Inv X pins σ H2 s' := by
  obtain ⟨more, rfl⟩ := grown
  have young : ∀ b u, s.heap.get? b = some u → b ∉ hp.objs.size :: [it] := fun b u e z => by
    have lt := Heap.lt_size e
    rcases List.mem_cons.mp z with z | z
    · rw [z] at lt
      exact Nat.lt_irrefl _ (Nat.lt_of_lt_of_le lt big)
    · rw [List.mem_singleton.mp z] at lt
      exact Nat.lt_irrefl _ (Nat.lt_of_lt_of_le lt lit)
  have oP : s.heap.get? P = some { cls := .none, data := .fields ps } := I.hok P _ hP
  have r := GxR.inv_tab (more := more) (h' := s'.heap) (g' := s'.gens) (d' := s'.drawn) (t' := s'.toks) I hP (fun b u nb e => mv.heap b u (young b u e) (kh b u (kept b u nb e))) (mv.heap P _ (young P _ oP) (kh P _ at3)) (AllBare.movedS (I.bare.push bare) mv)
  rw [GxR.sh_eta s s' mv.os] at r
  exact ⟨_, ⟨⟨_, upd_same, trip⟩, fun b nb => upd_ne nb⟩, r⟩
/-- the code object of a generator expression, found or made -/
theorem code_any {prog : Program} {w : World} {A : Around} {E : Value → Shared → Prop} {env : Env} {c P : Addr} {ps : Array Value} {pos : Pos} {q : Str} {scope : Scope} {Q : Value → Shared → Prop} {s : Shared}
    (hcode : env.code = .ref c) (cd : PySem.W.CodeHd s.heap c P) (oP : s.heap.get? P = some { cls := .none, data := .fields ps }) (ht : TriplesOk ps.toList)
    (k : ∀ (cv : Value) (hp : Heap) (tk : Nat) (qs : Array Value), Heap.ExtBut P s.heap hp → s.heap.objs.size ≤ hp.objs.size → hp.get? P = some { cls := .none, data := .fields qs } → (∃ more, qs = ps ++ more) → TriplesOk qs.toList → Q cv { s with heap := hp, toks := tk }) :
    wpAny (model prog w) A (genexprCode env pos q scope) Q E s := by
  cases hf : codeAmong pos ps.toList with
  | some cv => exact wpAny_genexprCode_hit hcode (cd.code oP ht) hf (k cv s.heap s.toks ps (Heap.ExtBut.refl _ _) (Nat.le_refl _) oP ⟨#[], by simp⟩ ht)
  | none =>
    refine wpAny_genexprCodeX hcode (cd.code oP ht) (cd.tab oP) hf fun c' h' tk0 hx hge hlt hco _ htab _ => ?_
    obtain ⟨_, _, _, _, _, _, _, _, _, _, _, _, _, _, _, _, _, _, _, trip, _⟩ := hco
    exact k (.ref c') h' tk0 _ hx (Nat.le_trans hge (Nat.le_of_lt hlt)) htab.2 ⟨_, rfl⟩ trip
theorem signs_gen {c P : Addr} {elt iter : Expr} {x : Str} {px gpos : Pos} {scope : Scope} {pb : Nat → Bool} {te : TE} {k : Nat} {Q' : Value → Shared → Prop} {R : Str → Hp → Prop}
    (hr : Room k X.A) (TB : LamX.TabB X.base X.mg c P) (hcode : X.env.code = .ref c) (S : GxR.GenS X.env scope x) (hi : PE X iter te) (hel : SignE X scope x elt pb) (hs : ∀ v, genFold iter X.env v = pure v)
    (I : Inv X pins σ H s) (h : te σ H fun v H1 => ∃ a : Str, v = .str a ∧ GxR.TabG H1 P ∧ R a H1) (fin : ∀ a H1 g s5, R a H1 → GxR.Ready X pins σ H1 P a pb g s5 → Q' (.ref g) s5) :
    wpAny (model X.prog X.w) X.A (eval (.GeneratorExp elt [⟨.Name x px, iter, [], 0⟩] scope gpos) X.env) Q' X.xe s := by
  refine wpAny_GeneratorExp_walksQ hr.hd S.co (closure_ok S.free) S.cell S.dot S.loc S.kind (by have := hr.dp; omega) (thn (hi.run pins s σ H _ I h) fun xv s1 ⟨v, H1, I1, r1, a, ev, ⟨ps, hP, ht⟩, post⟩ => ?_) hs
  subst ev
  obtain ⟨t, rfl⟩ := id r1
  refine wpAny_pyIter_str fun o St Wk st0 => ⟨I1.nolimit.push o, ?_⟩
  have lim := I1.nolimit.push o
  have oP : s1.heap.get? P = some { cls := .none, data := .fields ps } := I1.hok P _ hP
  have oP2 : (s1.heap.push o).get? P = some { cls := .none, data := .fields ps } := Heap.get?_push_of_some _ oP
  have cd : PySem.W.CodeHd (s1.heap.push o) c P := TB.code.keeps fun b u e => Heap.get?_push_of_some _ (I1.bk b u e)
  have nS : cStatics ≠ P := fun e => by
    obtain ⟨_, ⟨_, _, _, g, d, _⟩, _⟩ := I1.nolimit
    rw [e, oP] at g
    cases g
    cases d
  have ltS : cStatics < s1.heap.objs.size := by
    obtain ⟨_, n, _⟩ := I1.nolimit
    exact n.lt
  refine code_any hcode cd oP2 ht fun cv hp tk0 qs ext big at3 more trip => ?_
  have glob3 : Heap.Ns hp mainGlobals X.mg := ((I1.mod.glob.keeps I1.bk).push o).extBut ext TB.gP
  have kept : ∀ b u, b ≠ P → s1.heap.get? b = some u → Heap.get? hp b = some u := fun b u nb e => ext b u nb (Heap.get?_push_of_some _ e)
  have ltP := Heap.lt_size oP
  obtain ⟨bm, ob, b1, b2, b3, b4, b5, b6, b7, b8⟩ := id TB.bm
  refine wpAny_builtinsFor (m := X.mg) (by rw [I1.ok.glob]; exact glob3) b1 b2 (kept _ _ b4 (I1.bk _ _ b5)) b6 b7 b8 ?_
  refine ⟨s1.heap.objs.size, [s1.heap.objs.size], [s1.heap.objs.size], a.cps.size, SignAt a, St, fun _ => true, fun i y => ∃ c, a.cps[i]? = some c ∧ y = .bool (pb c), rfl, Wk, ?_, fun b hb => ?_, lim.extBut ext nS, fun z => ?_, fun hq khq => ⟨fun B E i v r m hB hv hn hm hk => ?_, fun B E i v r m hB hv _ hn hm hk => ?_⟩, fun ga hh tk gs bare _ _ kh wk at0 => ?_⟩
  · refine (Wk X.A hr.hd).frame _ _ _ st0 fun b hb u e => ext b u (fun z => ?_) e
    rw [List.mem_singleton.mp hb] at z
    rw [z] at ltP
    exact Nat.lt_irrefl _ ltP
  · rw [List.mem_singleton.mp hb]
    exact Nat.lt_of_lt_of_le (by rw [Heap.size_push]; exact Nat.lt_succ_self _) big
  · rw [List.mem_singleton.mp z] at ltS
    exact Nat.lt_irrefl _ ltS
  · rw [List.forIn_nil]
    exact wpAny_pure ⟨rfl, GxR.keeps_refl _⟩
  · obtain ⟨c, t, hc, rfl⟩ := hv
    have gl : r.heap.Ns mainGlobals X.mg := ns_under glob3 fun u e => hk mainGlobals (List.mem_range.mpr (Heap.lt_size e)) (fun z => by
      obtain ⟨g0, _, _, ge, _⟩ := I1.mod.glob.keeps I1.bk
      have lg := Heap.lt_size ge
      rw [List.mem_singleton.mp z] at lg
      exact Nat.lt_irrefl _ lg) u (khq _ _ e)
    exact hel (genEnv scope (cloFrom X.env.cells scope.names []) _ cv _ X.env) B c t (Kp r.heap) rfl I1.ok.glob (fun h h' c k b u e => k b u (c b u e)) (fun h k => ⟨m, hn.keeps k, hm⟩) (fun h k => gl.keeps k) r _ E (fun _ _ e => e) fun y h' tk k e => ⟨⟨c, hc, e⟩, h', tk, rfl, k⟩
  · simp only [GxR.passing_true, List.length_range] at wk
    refine fin a H1 ga _ post ⟨_, _, _, _, _, wk.in4_1, at0, fun j y sj Qj Ej hy hQj => ?_, fun s' mv => signs_back I1 hP more trip bare at3 kept kh (Nat.le_refl _) (Nat.le_trans (by rw [Heap.size_push]; exact Nat.le_succ _) big) mv⟩
    obtain ⟨i, hi, c, hc, rfl⟩ := hy
    obtain ⟨_, ei⟩ := List.getElem?_eq_some_iff.mp hi
    rw [List.getElem_range] at ei
    subst ei
    have hQ2 : Qj (GxR.trF pb a.cps.toList j) sj := hQj
    rw [GxR.trF_some (by rw [Array.getElem?_toList]; exact hc)] at hQ2
    exact wpAny_truthy_bool hQ2
theorem boot_all : bootBuiltins "all" = some (.builtin "all") := by decide +kernel
theorem pe_allG {c P : Addr} {elt iter : Expr} {x : Str} {px p pos gpos : Pos} {scope : Scope} {pb : Nat → Bool} {te : TE} {k : Nat}
    (hr : Room k X.A) (hg : Gl X "all") (hm : X.mg "all" = none) (TB : LamX.TabB X.base X.mg c P) (hcode : X.env.code = .ref c) (S : GxR.GenS X.env scope x) (hi : PE X iter te) (hel : SignE X scope x elt pb) (hs : ∀ v, genFold iter X.env v = pure v)
    (he : starEach [.GeneratorExp elt [⟨.Name x px, iter, [], 0⟩] scope gpos] X.env = (false, eval (.GeneratorExp elt [⟨.Name x px, iter, [], 0⟩] scope gpos) X.env) :: starEach [] X.env := by rfl) :
    PE X (.Call (.Name "all" p) [.GeneratorExp elt [⟨.Name x px, iter, [], 0⟩] scope gpos] [] pos) (GxR.tAllS P pb te) := by
  refine ⟨fun pins s σ H Q I h => wpAny_Call_Name_kw (ld_blt I hg hm boot_all (PyProof.Rows.callWith_builtin1 ?_ he (by rfl)))⟩
  rw [he]
  show wpAny _ _ (spliced ((false, eval (.GeneratorExp elt [⟨.Name x px, iter, [], 0⟩] scope gpos) X.env) :: backTo pos (starEach [] X.env))) _ _ s
  refine Calls.spliced_cons (signs_gen (R := fun a H1 => ∀ H2, GxR.Tabbed P H1 H2 → Q (.bl (a.cps.toList.all pb)) H2) hr TB hcode S hi hel hs I h fun a H1 g s5 hR hG => ?_)
  obtain ⟨fp, wr, G, F, St, W, st, tr, back⟩ := hG
  refine Calls.spliced_nil (call_all_walkS (W.self 0 _ _ _ st ⟨g, fp, wr, G, _, F, St, _, rfl, W, st, tr, fun s' mv => ?_⟩))
  obtain ⟨H2, hT, J⟩ := back s' mv
  refine ⟨.bl _, H2, J, rfl, ?_⟩
  rw [GxR.all_signs a pb]
  exact hR H2 hT
end
end M3
/-! ### texts, more: a text times an int, two except clauses, tests of a sign with a text of the top -/
namespace M3
open PySem PySem.Spec PyProof.Rows L2
variable [NmC]
section
variable {X : Cx}
theorem iteT' {c : Prop} [Decidable c] {a b : Prop} (h : c) (ha : a) : (if c then a else b) := by rw [if_pos h]; exact ha
theorem iteF' {c : Prop} [Decidable c] {a b : Prop} (h : ¬ c) (hb : b) : (if c then a else b) := by rw [if_neg h]; exact hb
def timesS (x : Str) (n : Nat) : Str := ⟨(List.replicate n x.cps).foldl (· ++ ·) #[]⟩
theorem fold_cat (b : Array Nat) : ∀ (n : Nat) (acc : Array Nat), ((List.replicate n b).foldl (· ++ ·) acc).toList = acc.toList ++ (List.replicate n b.toList).flatten
  | 0, acc => by simp
  | n + 1, acc => by
    rw [List.replicate_succ, List.foldl_cons, fold_cat b n, List.replicate_succ, List.flatten_cons, Array.toList_append, List.append_assoc]
theorem timesS_tl (x : Str) (n : Nat) : (timesS x n).cps.toList = (List.replicate n x.cps.toList).flatten := by
  have := fold_cat x.cps n #[]
  simpa [timesS] using this
theorem timesS_len (x : Str) (n : Nat) : (timesS x n).length = n * x.length := by
  have e : (timesS x n).length = (timesS x n).cps.toList.length := (Array.length_toList ..).symm
  rw [e, timesS_tl]
  simp [Str.length]
theorem op_mul_str : OpR X (binaryOp .Mult) (fun x y H Q => ∃ (a : Str) (n : Nat), x = .str a ∧ y = .int n ∧ 2 ≤ n ∧ n ≤ 1000 ∧ 1 ≤ a.length ∧ a.length ≤ 1000 ∧ Q (.str (timesS a n)) H) := by
  intro pins s σ H x y v u Q I rx ry h
  obtain ⟨a, n, rfl, rfl, h2, h3, h4, h5, q⟩ := h
  obtain ⟨t, rfl⟩ := rx
  obtain ⟨t', rfl⟩ := ry
  have n1 : ¬ (n : Int) < 1 := by omega
  have n2 : ((n : Int) == 1 || a.length == 0) = false := by
    rw [Bool.or_eq_false_iff, beq_eq_false_iff_ne, beq_eq_false_iff_ne]
    omega
  have small : a.length * n ≤ 1000000 := Nat.le_trans (Nat.mul_le_mul h5 h3) (by decide)
  refine PySem.P.mul_str ?_ (fun _ _ => ?_) (fun _ _ => ?_) ?_
  · rw [decide_eq_false (by omega), decide_eq_false (by omega)]; rfl
  · have : (1000 : Int) ≤ (2 ^ 63 - 1) / (n : Int) := by
      rw [Int.le_ediv_iff_mul_le (by omega)]
      omega
    omega
  · rw [Int.toNat_natCast]
    have hz : (1000000 : Nat) ≤ sizeLine := by decide
    unfold Builtin.Str.tooLong
    exact decide_eq_false (by omega)
  · rw [if_neg n1, n2, Int.toNat_natCast]
    refine ⟨?_, ?_⟩
    · have hz : (1000000 : Nat) ≤ sizeLine := by decide
      have := timesS_len a n
      rw [Nat.mul_comm] at this
      show (timesS a n).length ≤ sizeLine
      omega
    · exact ⟨.str _, H, I.tok _, ⟨_, rfl⟩, q⟩
end
section
variable {K : PySem.W.Frag} {W : WX} {δ : Sto} {ex : XP} {post : Vw → Sto → Prop} {te to ta : TE} {R : Ends3}
theorem rx_mulS {a : Str} {n : Nat} (h2 : 2 ≤ n) (h3 : n ≤ 1000) (h4 : 1 ≤ a.length) (h5 : a.length ≤ 1000) (q : post (.d (.str (timesS a n))) δ) :
    RX K (fun x y H Q => ∃ (a : Str) (n : Nat), x = V.str a ∧ y = V.int n ∧ 2 ≤ n ∧ n ≤ 1000 ∧ 1 ≤ a.length ∧ a.length ≤ 1000 ∧ Q (V.str (timesS a n)) H) (.d (.str a)) (.d (.int n)) δ post := fun m H σ v1 v2 I o1 o2 Q k => by
  cases dd_str o1
  cases dd_int o2
  exact ⟨a, n, rfl, rfl, h2, h3, h4, h5, k _ (.d (.str _)) H (.refl H) (.str _) q⟩
theorem rx_isnB {a b : Bool} (q : post (.d (.bool (!decide (a = b)))) δ) : RX K (fun x y H Q => ∃ a b, x = V.bl a ∧ y = V.bl b ∧ Q (V.bl (!decide (a = b))) H) (.d (.bool a)) (.d (.bool b)) δ post := fun m H σ v1 v2 I o1 o2 Q k => by
  cases o1
  cases o2
  exact ⟨a, b, rfl, rfl, k _ (.d (.bool _)) H (.refl H) (.bl _) q⟩
/-- a chain of two comparisons of ints -/
theorem ex_chainI {f g : Int → Int → Bool} {tb tc : TE} (h : EX K W ta δ (fun w δ1 => ∃ i : Int, w = .d (.int i) ∧ EX K W tb δ1 (fun w2 δ2 => ∃ j : Int, w2 = .d (.int j) ∧ (f i j = true → EX K W tc δ2 (fun w3 δ3 => ∃ k : Int, w3 = .d (.int k) ∧ post (.d (.bool (g j k))) δ3) ex) ∧ (f i j = false → post (.d (.bool false)) δ2)) ex) ex) :
    EX K W (tChain (rI0 fun a b => .bl (f a b)) (rI0 fun a b => .bl (g a b)) ta tb tc) δ post ex :=
  fun m H σ I Q k k2 => h m H σ I _ (fun v1 w1 H1 δ1 g1 s1 I1 o1 ⟨i, e1, hb⟩ => by
    subst e1
    cases dd_int o1
    exact hb m H1 σ I1 _ (fun v2 w2 H2 δ2 g2 s2 I2 o2 ⟨j, e2, q1, q2⟩ => by
      subst e2
      cases dd_int o2
      refine ⟨i, j, rfl, rfl, f i j, rfl, ?_⟩
      by_cases hc : f i j = true
      · exact iteT' hc (q1 hc m H2 σ I2 _ (fun v3 w3 H3 δ3 g3 s3 I3 o3 ⟨k', e3, q⟩ => by
          subst e3
          cases dd_int o3
          exact ⟨j, k', rfl, rfl, k _ (.d (.bool _)) H3 δ3 ((g1.trans g2).trans g3) ((s1.trans s2).trans s3) I3 (.bl _) q⟩) fun C H' δ' g J e => k2 C H' δ' ((g1.trans g2).trans g) J e)
      · exact iteF' hc (k _ (.d (.bool false)) H2 δ2 (g1.trans g2) (s1.trans s2) I2 (.bl false) (q2 (Bool.eq_false_iff.mpr hc)))) fun C H' δ' g J e => k2 C H' δ' (g1.trans g) J e) k2
theorem ex_listL {t : TA} (h : AX K W t δ (fun ws δ' => ∃ ds : List PyData, ws = ds.map .d ∧ ds.length ≤ 100000 ∧ post (.d (.list ds)) δ') ex) : EX K W (tLst t) δ post ex := ex_F (p := fun ds δ' => post (.d (.list ds)) δ') (fx_lst h) fun ds δ' h => h
theorem ex_callF {t : TA} {n : Nat} {α : Type} {enc : α → List PyData} {pre : α → Prop} {postF : α → List PyData → Prop} {E : L2.St → XK} (h : AX K W t δ (fun ws δ' => ∃ (ds : List PyData) (a : α), ws = ds.map .d ∧ enc a = ds ∧ (enc a).length = n ∧ pre a ∧ ∀ es, postF a es → post (.d (.list es)) δ') ex) :
    EX K W (tCallG (spF K n enc pre postF) [] E t) δ post ex := ex_F (fx_call (pq := fun es δ' => post (.d (.list es)) δ') h) fun ds δ' h => h
theorem da_rep {H : Hp} {xs : List V} {ds : List PyData} (r : Da K H xs ds) : ∀ n : Nat, Da K H (List.replicate n xs).flatten (List.replicate n ds).flatten
  | 0 => .nil
  | n + 1 => by
    rw [List.replicate_succ, List.replicate_succ, List.flatten_cons, List.flatten_cons]
    exact r.append (da_rep r n)
/-- a fresh list times a number -/
theorem fx_repC {n : Nat} {pq : List PyData → Sto → Prop} (h : FX K W te δ (fun ds δ1 => ds.length * n ≤ 100000 ∧ n ≤ 100000 ∧ pq (List.replicate n ds).flatten δ1) ex) : FX K W (tOp rRep te (tC (.int n))) δ pq ex :=
  fun m H σ I Q k k2 => h m H σ I _ (fun p xs ds H' δ' g s J e r ⟨h1, h2, q⟩ => by
    have hl := r.length
    refine ⟨p, n, xs, rfl, rfl, e, by omega, by omega, ?_, fun p2 hp2 => ?_⟩
    · rw [Int.toNat_natCast, hl]
      exact Nat.le_trans h1 (by decide)
    · rw [Int.toNat_natCast]
      have ee := erase_upd (o := .lst (List.replicate n xs).flatten) hp2
      exact k p2 _ _ _ δ' (by rw [ee]; exact gw_erase g J) s (by rw [ee]; exact J.same erase_same) upd_same (by rw [ee]; exact da_rep (r.mono (hide_mono (J.lists' erase_same) erase_same)) n) q) k2
/-- try with two clauses -/
theorem sx_try2 {c1 c2 : Value} {tb : WX → TS} {t1 t2 : Addr → Value → Option Addr → TS}
    (h : ∀ W', SX K W' (tb W') δ (R.catch fun C δ' => PySem.W.exmOne K C c1 = some true ∧ ∀ a, SX K W (t1 a C none) δ' R)) :
    SX K W (fun D σ H => tb (wMany K W D [(c1, t1), (c2, t2)]) D σ H) δ R := fun m H σ I D k1 k2 k3 k4 k5 =>
  h (wMany K W D [(c1, t1), (c2, t2)]) m H σ I D k1 k2 k3 k4 fun C σ' H' δ' g J ⟨e, q1⟩ => ⟨true, e, fun hb a ha => q1 a m H' σ' J D (fun σ2 H2 δ2 g2 J2 q => k1 σ2 H2 δ2 (g.trans g2) J2 q) (fun v w σ2 H2 δ2 g2 J2 o q => k2 v w σ2 H2 δ2 (g.trans g2) J2 o q)
      (fun σ2 H2 δ2 g2 J2 q => k3 σ2 H2 δ2 (g.trans g2) J2 q) (fun σ2 H2 δ2 g2 J2 q => k4 σ2 H2 δ2 (g.trans g2) J2 q) (fun C σ2 H2 δ2 g2 J2 q => k5 C σ2 H2 δ2 (g.trans g2) J2 q),
    fun hb => nomatch hb⟩
end
section
variable {X : Cx}
/-- x in G, G a text of the top -/
theorem el_inG {scope : Scope} {x n : Str} {z : Str} {tz : Tok} {p1 p2 p3 : Pos} (hg : X.mg n = some (.str z tz)) (hk : scope.kind = .function) (hx : scope.names.lookup x = some .local) (hn : scope.names.lookup n = some .globalImplicit) (hd : (x == ("__debug__" : Str)) = false := by decide) (hd2 : (n == ("__debug__" : Str)) = false := by decide) :
    SignE X scope x (.Compare (.Name x p1) [.In] [.Name n p2] p3) (fun c => decide (c ∈ z.cps.toList)) := by
  intro cenv B c t C es eg st hl hG s Q E hc k
  obtain ⟨m, hm, hx2⟩ := hl _ hc
  refine wpAny_Compare1 ?_
  refine wpAny_Name (wpAny_loadName_local (by rw [es]; exact hk) (show cenv.scope.names.lookup x = some .local by rw [es]; exact hx) hm hx2 ?_) hd
  refine Calls.Name_function_global (by rw [es]; exact hk) (show cenv.scope.names.lookup n = some .globalImplicit by rw [es]; exact hn) (Calls.loadGlobal_global (by rw [eg]; exact hG _ hc) hg ?_) hd2
  refine in_str ?_
  have e := StrLaws.found_one z c
  exact k _ s.heap s.toks (fun _ _ z => z) (congrArg Value.bool e)
theorem gens_by {env : Env} {scope : Scope} {x : Str} (h : (decide (scope.kind = .function) && !scope.isCoroutine && scope.names.all (fun y => !decide (y.2 = .cell) && !decide (y.2 = .free)) && decide (scope.names.lookup (".0" : Str) = some .local) && decide (scope.names.lookup x = some .local)) = true) : GxR.GenS env scope x := by
  simp only [Bool.and_eq_true, Bool.not_eq_true', decide_eq_true_eq, List.all_eq_true, decide_eq_false_iff_not] at h
  obtain ⟨⟨⟨⟨h1, h2⟩, h3⟩, h4⟩, h5⟩ := h
  exact ⟨h1, h2, fun y hy => (h3 y hy).1, h4, h5, fun y hy e => absurd e (h3 y hy).2⟩
end
end M3
/-! ### the end of a law's row, the tables of defs with a generator expression from the ground -/
namespace M3
open PySem PySem.Spec PyProof.Rows L2
/-- the table of a code object -/
def tabAt (K : PySem.W.Frag) (c : Addr) : Addr := match K.lookup c with
  | some ⟨_, _, .fields vs, _⟩ => (match (vs[11]? : Option Value) with | some (.ref P) => P | _ => 0)
  | _ => 0
/-- the defs' tables are empty -/
def OwnTabs (K : PySem.W.Frag) (q : Program) (mg : Str → Option Value) (h : Heap) : Prop := ∀ (x : Str) (f : Addr), ((recsOf q).any fun e => e.name == x) = true → mg x = some (.ref f) → LamX.OwnTab K f h
theorem own_get {K : PySem.W.Frag} {h : Heap} {f c P : Addr} {oc : Value} {od : Option Addr} {fd : FuncData} {sl : Array (Option Value)} (own : LamX.OwnTab K f h) (l : K.lookup f = some ⟨oc, od, .func fd, sl⟩) (e : fd.code = .ref c) (hC : PySem.W.codeHdIn K c P = true) : h.get? P = some emptyT := by
  unfold PySem.W.codeHdIn at hC
  split at hC
  · rename_i vs _ hk
    simp only [Bool.and_eq_true] at hC
    obtain ⟨⟨⟨⟨⟨e1, _⟩, _⟩, _⟩, _⟩, _⟩ := hC
    split at e1
    · rename_i P' h11
      have hP : P' = P := beq_iff_eq.mp e1
      subst hP
      exact own c _ _ _ _ _ _ _ l rfl e hk h11
    · cases e1
  · cases hC
theorem walk_law3 {l : PySem.W.OpenLaw} {k : Nat} {q : Program} {loose : List Str} {XP : (Str → Option Value) → Heap → Prop} {YP : World → Heap → Prop} {d : DefRec} {K : Params → PySem.W.Frag} {x : Str}
    (hn : l.most = some 63) (hdf : d.params.defaults = []) (hr : Room k callerA) (hY : ∀ (w : World) (h : Heap), YP w h → (K w.params).In h)
    (F : ∀ (w : World) (mg : Str → Option Value) (fa : Addr) (h : Heap), YP w h → (K w.params).In h → h.Ns mainGlobals mg → mg d.name = some (.ref fa) → OwnTabs (K w.params) q mg h →
      ∃ (N : NmC) (fd : FuncData) (cs : List (Addr × Addr)), (∀ p ∈ cs, h.get? p.2 = some emptyT) ∧ (∀ p ∈ cs, (K w.params).lookup p.2 = none) ∧ (∀ p ∈ cs, PySem.W.CodeHd h p.1 p.2) ∧ (∀ Q, N.tb Q → Q ∈ cs.map (·.2)) ∧
        (∀ (s : Shared) (u : Value), BindsTo s fd ⟨[u], []⟩ [(x, u)]) ∧ ∀ base : Heap, (K w.params).In base → base.Ns mainGlobals mg → (∀ p ∈ cs, TabX base mg p.1 p.2) → FnG l.prog w (K w.params) mg base k fa fd [x] (@spScript N (K w.params))) :
    PySem.W.WalkO q loose XP YP l.row.toRowW d [] (fun f vs => PySem.call f vs) :=
  Att.attach_call hn hdf fun w s₀ s₁ mg mb fa o pm cd doc a vs ns G Y _ _ _ hmg hobj hints hlen hg => by
    have KX := hY w _ Y
    have own : OwnTabs (K w.params) q mg s₁.heap := by
      intro nm f isRec atF c P ob fn ec od vals slots lF eFn eC lC eP
      obtain ⟨rc, inR, same⟩ := List.any_eq_true.mp isRec
      have atF' : mg rc.name = some (.ref f) := (congrArg mg (eq_of_beq same)).trans atF
      obtain ⟨u, obU, fnU, cU, PU, n1, n2, n3, n4, n5, ⟨codeO, codeV, r1, r2, r3, r4⟩, empty⟩ := G.T.tab rc inR
      have eu : u = f := by injection (Option.some.inj (n1.symm.trans atF'))
      subst eu
      have eo : obU = ob := Option.some.inj (n2.symm.trans (KX u ob lF))
      subst eo
      have efn : fnU = fn := by injection (n3.symm.trans eFn)
      subst efn
      have ec : cU = c := by injection (n4.symm.trans eC)
      subst ec
      have eco := Option.some.inj (r1.symm.trans (KX cU _ lC))
      subst eco
      have ev : vals = codeV := by injection r3
      subst ev
      have ep : P = PU := by injection (Option.some.inj (eP.symm.trans r4))
      subst ep
      exact empty
    obtain ⟨N, fd, cs, t1, t2, t3, t4, hb, hF⟩ := F w mg fa _ Y KX G.T.g hmg own
    letI := N
    exact run_law KX G.T.g G.T.b G.T.builtins G.T.nolimit hg t1 t2 t3 t4 G.T.bmain hobj hints hlen hr hF hb
end M3
open PySem PySem.Spec PyProof.Rows L2 M3

local macro_rules | `(tactic| walk_at "m3e") => `(tactic| first
  | (with_reducible refine tx_test ?_) | (with_reducible refine tx_B ?_) | (with_reducible refine tx_not ?_) | (with_reducible refine tx_tru ?_) | (with_reducible refine tx_yes ?_)
  | (with_reducible refine tx_and ?_) | (with_reducible refine tx_or ?_)
  | (with_reducible refine ex_op ?_) | (with_reducible refine ex_un ?_) | (with_reducible refine ex_CB ?_) | (with_reducible refine ex_tup ?_) | (with_reducible refine ex_andV ?_) | (with_reducible refine ex_orV ?_) | (with_reducible refine ex_notV ?_) | (with_reducible refine ex_if ?_)
  | (with_reducible refine ax_cons ?_) | (with_reducible refine ax_nil ?_)
  | (refine ex_var rfl ?_) | (refine ex_mvar rfl ?_) | (with_reducible refine ex_int ?_) | (with_reducible refine ex_str ?_) | (with_reducible refine ex_bl ?_) | (with_reducible refine ex_non ?_) | (with_reducible refine ex_cv ?_)
  | (with_reducible refine rx_ii ?_) | (with_reducible refine rx_ib ?_) | (with_reducible refine ux_i ?_) | (with_reducible refine vx_gcd ?_) | (with_reducible refine vx_abs ?_) | (with_reducible refine vx_intI ?_) | (with_reducible refine vx_intB ?_)
  | (with_reducible refine vx_lenT ?_) | (with_reducible refine vx_lenL ?_) | (refine vx_isi (kit_int _) ?_) | (refine vx_isi (kit_bool _) ?_) | (refine vx_isi (kit_tuple _) ?_) | (refine vx_isi (kit_str _) ?_) | (refine vx_isi (kit_list _) ?_)
  | (with_reducible refine rx_eqD (shaped_int _) (shaped_int _) ?_) | (with_reducible refine rx_neD (shaped_int _) (shaped_int _) ?_) | (with_reducible refine rx_eqD (shaped_dR _) (shaped_dR _) ?_) | (with_reducible refine rx_neD (shaped_dR _) (shaped_dR _) ?_)
  | (refine vx_lenT ?_) | (refine vx_lenL ?_) | (refine rx_ixT rfl ?_) | (refine rx_ixL rfl ?_)
  | (refine ⟨[_, _], rfl, Nat.le_of_ble_eq_true rfl, ?_⟩) | (refine ⟨[_], rfl, Nat.le_of_ble_eq_true rfl, ?_⟩) | (refine ⟨[_, _, _], rfl, Nat.le_of_ble_eq_true rfl, ?_⟩) | (refine ⟨[], rfl, Nat.le_of_ble_eq_true rfl, ?_⟩)
  | (refine ⟨_, rfl, ?_⟩))
local macro_rules | `(tactic| walk_at "m3") => `(tactic| first
  | (with_reducible refine sx_seq ?_) | (with_reducible refine sx_ret ?_) | (with_reducible refine sx_next ?_) | (with_reducible refine sx_raise ?_)
  | (with_reducible refine sx_if (tx_or ?_)) | (with_reducible refine sx_if (tx_and ?_)) | (with_reducible refine sx_if ?_)
  | (with_reducible refine sx_asg ?_) | (with_reducible refine sx_drop ?_)
  | walk_at "m3e")
local macro_rules | `(tactic| walk_at "m3s") => `(tactic| simp only [eqv_int, eqv_dR, beq_iff_eq, decide_eq_true_eq, decide_eq_false_iff_not, beq_eq_false_iff_ne, Bool.not_eq_true', Bool.not_eq_false', ne_eq, Decidable.not_not, Int.natCast_inj] at *)
namespace K01
open PySem PySem.Spec PyProof.Rows L2 M3
section
variable [NmC]

theorem exm_self {K : PySem.W.Frag} {S : Addr} (h1 : PySem.W.subIn K (.ref S) (.type "BaseException") = some true) (h2 : PySem.W.isClsIn K S = true) (h3 : PySem.W.typeIn K (.ref S) = some (.type "type"))
    (h4 : PySem.W.subIn K (.ref S) (.ref S) = some true) : PySem.W.exmOne K (.ref S) (.ref S) = some true := by
  have a : (PySem.W.subIn K (.ref S) (.type "BaseException") == some true) = true := by rw [h1]; rfl
  have b : ((PySem.W.clsIn K S).isSome && PySem.W.typeIn K (.ref S) == some (.type "type")) = true := by
    rw [show (PySem.W.clsIn K S).isSome = true from h2, h3]
    rfl
  unfold PySem.W.exmOne
  rw [if_pos a]
  unfold PySem.W.kitCls
  dsimp only
  rw [if_pos b]
  exact h4

/-- what the draws are: whole numbers from 0, not large -/
def Drw (ds : List PyData) : Prop := ∃ L : List Int, ds = L.map .int ∧ ∀ x ∈ L, 0 ≤ x ∧ x < 2147483648
theorem fmod_in {i j : Int} (h : 0 < j) : 0 ≤ i.fmod j ∧ i.fmod j < j := ⟨Int.fmod_nonneg_of_pos _ h, Int.fmod_lt_of_pos _ h⟩
theorem in_snoc {L : List Int} {y : Int} (h : ∀ x ∈ L, 0 ≤ x ∧ x < 2147483648) (h2 : 0 ≤ y ∧ y < 2147483648) : ∀ x ∈ L ++ [y], 0 ≤ x ∧ x < 2147483648 := fun x hx => by
  rcases List.mem_append.mp hx with hx | hx
  · exact h x hx
  · rw [List.mem_singleton.mp hx]; exact h2
theorem map_snoc (L : List Int) (y : Int) : L.map PyData.int ++ [.int y] = (L ++ [y]).map .int := by simp
/-! ### texts of ratios, on code points -/
section
open SX TL NumText
theorem foldl_lt : ∀ (cs : List Nat) (a : Nat), AllDigits cs → cs.foldl (fun acc c => acc * 10 + (c - 48)) a < (a + 1) * 10 ^ cs.length
  | [], a, _ => by simp
  | c :: cs, a, h => by
    have h1 := foldl_lt cs (a * 10 + (c - 48)) h.tail
    have hc := h.head
    refine Nat.lt_of_lt_of_le h1 ?_
    rw [List.length_cons, Nat.pow_succ, Nat.mul_comm (10 ^ cs.length) 10, ← Nat.mul_assoc]
    exact Nat.mul_le_mul_right _ (by omega)
theorem val_lt {cs : List Nat} (h : AllDigits cs) : digitsVal cs < 10 ^ cs.length := by
  have := foldl_lt cs 0 h
  simpa [digitsVal] using this
theorem len30 {n : Nat} : (numL n).length ≤ 30 ↔ n < 10 ^ 30 := ⟨fun h => by
  have h1 := val_lt (numL_digits n)
  rw [numL_val] at h1
  exact Nat.lt_of_lt_of_le h1 (Nat.pow_le_pow_right (by decide) h), fun h => numL_len (by decide) h⟩
theorem len_pos (n : Nat) : 1 ≤ (numL n).length := List.length_pos_iff.mpr (numL_ne n)
theorem numL_back {cs : List Nat} (h : AllDigits cs) (hne : cs ≠ []) (h0 : cs.length = 1 ∨ ∃ c r, cs = c :: r ∧ 49 ≤ c) : numL (digitsVal cs) = cs := by
  obtain ⟨k, hk⟩ : ∃ k, cs.length = k + 1 := ⟨cs.length - 1, by have := List.length_pos_iff.mpr hne; omega⟩
  have e := toDigits_digitsVal k cs hk h (h0.imp (fun h0 => by omega) id)
  unfold numL
  rw [e, List.map_map]
  clear e hk hne h0
  induction cs with
  | nil => rfl
  | cons c cs ih =>
    rw [List.map_cons, ih h.tail]
    have hc := h.head
    have : (Char.ofNat c).toNat = c := by
      have : ∀ c : Nat, c < 58 → (Char.ofNat c).toNat = c := by decide
      exact this c (by omega)
    show (Char.ofNat c).toNat :: cs = _
    rw [this]
theorem numL_first (n : Nat) : (numL n).length = 1 ∨ ∃ c r, numL n = c :: r ∧ 49 ≤ c := by
  induction n using Nat.strongRecOn with
  | _ n ih =>
    by_cases h : n < 10
    · rw [numL_lt h]
      exact .inl rfl
    · rw [numL_step (by omega)]
      rcases ih (n / 10) (by omega) with h1 | ⟨c, r, e, hc⟩
      · right
        by_cases h2 : n / 10 < 10
        · rw [numL_lt h2]
          exact ⟨_, _, rfl, by omega⟩
        · rw [numL_step (by omega)] at h1
          rw [List.length_append, List.length_singleton] at h1
          have := len_pos (n / 10 / 10)
          omega
      · rw [e]
        exact .inr ⟨c, _, rfl, hc⟩
def Small (p : Rat) : Prop := p.num.natAbs < 10 ^ 30 ∧ p.den < 10 ^ 30
theorem small_sz {p : Rat} (h : Sz 62 p) : Small p := ⟨Nat.lt_of_lt_of_le h.num.lt (by decide), by
  have := h.den.lt
  rw [Int.natAbs_natCast] at this
  exact Nat.lt_of_lt_of_le this (by decide)⟩
def sgn (i : Int) : List Nat := if i < 0 then [45] else []
def wrL (p : Rat) : List Nat := sgn p.num ++ numL p.num.natAbs ++ (if p.den = 1 then [] else 47 :: numL p.den)
theorem no47n (n : Nat) : 47 ∉ numL n := numL_free (by decide)
theorem no45n (n : Nat) : 45 ∉ numL n := numL_free (by decide)
theorem no47s (i : Int) (n : Nat) : 47 ∉ sgn i ++ numL n := fun h => by
  rcases List.mem_append.mp h with h | h
  · unfold sgn at h
    split at h
    · simp at h
    · simp at h
  · exact no47n _ h
theorem cut47 {a a' b b' : List Nat} (h : a ++ 47 :: b = a' ++ 47 :: b') (ha : 47 ∉ a) (ha' : 47 ∉ a') : a = a' ∧ b = b' := by
  induction a generalizing a' with
  | nil =>
    cases a' with
    | nil => exact ⟨rfl, List.tail_eq_of_cons_eq h⟩
    | cons c r =>
      have := List.head_eq_of_cons_eq h
      exact absurd (by rw [this]; exact List.mem_cons_self ..) ha'
  | cons c r ih =>
    cases a' with
    | nil =>
      have := List.head_eq_of_cons_eq h
      exact absurd (by rw [← this]; exact List.mem_cons_self ..) ha
    | cons c' r' =>
      have e1 := List.head_eq_of_cons_eq h
      obtain ⟨e2, e3⟩ := ih (List.tail_eq_of_cons_eq h) (fun z => ha (List.mem_cons_of_mem _ z)) (fun z => ha' (List.mem_cons_of_mem _ z))
      exact ⟨by rw [e1, e2], e3⟩
theorem cut_or (l : List Nat) : 47 ∉ l ∨ ∃ a b, l = a ++ 47 :: b ∧ 47 ∉ a := by
  induction l with
  | nil => exact .inl (by simp)
  | cons c r ih =>
    by_cases hc : c = 47
    · exact .inr ⟨[], r, by rw [hc]; rfl, by simp⟩
    · rcases ih with h | ⟨a, b, e, h⟩
      · exact .inl fun z => by rcases List.mem_cons.mp z with z | z; exact hc z.symm; exact h z
      · exact .inr ⟨c :: a, b, by rw [e]; rfl, fun z => by rcases List.mem_cons.mp z with z | z; exact hc z.symm; exact h z⟩
theorem sgn_inj {i j : Int} (h : sgn i ++ numL i.natAbs = sgn j ++ numL j.natAbs) : i = j := by
  unfold sgn at h
  have n45 : ∀ n l, (45 : Nat) :: l ≠ numL n := fun n l e => no45n n (by rw [← e]; exact List.mem_cons_self ..)
  split at h <;> split at h
  · have := numL_inj (List.append_cancel_left h)
    omega
  · exact absurd h (n45 _ _)
  · exact absurd h.symm (n45 _ _)
  · have := numL_inj (List.append_cancel_left h)
    omega
/-- what stands of a ratio without a stroke, and with one -/
theorem wr_one {p : Rat} {l : List Nat} (h : l = wrL p) (h47 : 47 ∉ l) : p.den = 1 ∧ l = sgn p.num ++ numL p.num.natAbs := by
  unfold wrL at h
  split at h
  · exact ⟨by assumption, by rw [h, List.append_nil]⟩
  · exact absurd (by rw [h]; simp) h47
theorem wr_two {p : Rat} {a b : List Nat} (h : a ++ 47 :: b = wrL p) (ha : 47 ∉ a) : p.den ≠ 1 ∧ a = sgn p.num ++ numL p.num.natAbs ∧ b = numL p.den := by
  unfold wrL at h
  split at h
  · rw [List.append_nil] at h
    exact absurd (by rw [← h]; simp) (no47s p.num p.num.natAbs)
  · obtain ⟨e1, e2⟩ := cut47 h ha (no47s _ _)
    exact ⟨by assumption, e1, e2⟩
theorem wr_inj {p q : Rat} (h : wrL p = wrL q) : p = q := by
  rcases cut_or (wrL p) with h1 | ⟨a, b, e, h1⟩
  · obtain ⟨d1, e1⟩ := wr_one rfl h1
    obtain ⟨d2, e2⟩ := wr_one h h1
    have := sgn_inj (e1.symm.trans e2)
    exact Rat.ext this (by omega)
  · obtain ⟨_, e1, e2⟩ := wr_two e.symm h1
    obtain ⟨_, e3, e4⟩ := wr_two (e.symm.trans h) h1
    have := sgn_inj (e1.symm.trans e3)
    exact Rat.ext this (numL_inj (e2.symm.trans e4))
/-- what is due of a text -/
def Due (l : List Nat) (r : PyData) : Prop := (∃ p : Rat, Small p ∧ l = wrL p ∧ r = dR p) ∨ (r = .str "none" ∧ ¬ ∃ p : Rat, Small p ∧ l = wrL p)
theorem due_same {l : List Nat} {r r' : PyData} (h : Due l r) (h' : Due l r') : r = r' := by
  rcases h with ⟨p, hp, e, rfl⟩ | ⟨rfl, hn⟩ <;> rcases h' with ⟨q, hq, e', rfl⟩ | ⟨rfl, hn'⟩
  · rw [wr_inj (e.symm.trans e')]
  · exact absurd ⟨p, hp, e⟩ hn'
  · exact absurd ⟨q, hq, e'⟩ hn
  · rfl
theorem due_wr {p : Rat} {r : PyData} (hp : Small p) (h : Due (wrL p) r) : r = dR p := due_same h (.inl ⟨p, hp, rfl, rfl⟩)
theorem wr_len {p : Rat} (h : Small p) : (wrL p).length ≤ 62 := by
  have h1 := len30.mpr h.1
  have h2 := len30.mpr h.2
  unfold wrL sgn
  split <;> split <;> simp <;> omega
/-! the text's operations -/
theorem strS (x : Str) : x = S x.cps.toList := (S_tl x).symm
theorem part_none {l : List Nat} (h : 47 ∉ l) : Txt.partition (S l) "/" = (S l, S [], S []) := SX.partition_none (b := [47]) (by simp) (par_head_none h)
theorem part_some {a b : List Nat} (h : 47 ∉ a) : Txt.partition (S (a ++ 47 :: b)) "/" = (S a, S [47], S b) := SX.partition_some (b := [47]) (by simp) (par_head b h)
theorem spl_none {l : List Nat} (h : 47 ∉ l) : Txt.split (S l) "/" = [S l] := by
  rw [show ("/" : Str) = S [47] from rfl, split_S (by simp) (by decide)]
  have := spl_join (c := 47) (sep := []) (parts := [l]) (by simp) (by simpa using h)
  rw [show TL.joinL [47] [l] = l from by simp [TL.joinL]] at this
  rw [this] <;> rfl
end
section
open SX TL NumText
theorem S_len' (l : List Nat) : (S l).length = l.length := S_len l
theorem starts45 (l : List Nat) : Txt.startswith (S l) "-" = decide (l.head? = some 45) := by
  have h : Txt.startswith (S l) (S [45]) = decide (l.head? = some 45) := by
    unfold Txt.startswith
    rw [StrLaws.subAt_eq, S_len, S_len]
    cases l with
    | nil => rfl
    | cons c r =>
      have e : (decide ([45].length ≤ (c :: r).length)) = true := decide_eq_true (by simp)
      rw [Nat.zero_add, e, Bool.true_and]
      show ([c] == [45]) = decide (some c = some 45)
      by_cases h : c = 45
      · subst h; rfl
      · rw [decide_eq_false (fun z => h (Option.some.inj z))]
        exact beq_eq_false_iff_ne.mpr (fun z => h (List.head_eq_of_cons_eq z))
  exact h
def bare (l : List Nat) : List Nat := if l.head? = some 45 then l.tail else l
def isD (l : List Nat) : Bool := decide (1 ≤ l.length) && decide (l.length ≤ 30) && l.all fun c => decide (48 ≤ c) && decide (c ≤ 57)
theorem isD_iff {l : List Nat} : isD l = true ↔ 1 ≤ l.length ∧ l.length ≤ 30 ∧ AllDigits l := by
  unfold isD AllDigits
  simp [and_assoc]
theorem isD_num {n : Nat} (h : n < 10 ^ 30) : isD (numL n) = true := isD_iff.mpr ⟨len_pos n, len30.mpr h, numL_digits n⟩
theorem bare_sgn (i : Int) (n : Nat) : bare (sgn i ++ numL n) = numL n := by
  unfold bare sgn
  split
  · split
    · rfl
    · rename_i h
      exact absurd rfl h
  · split
    · rename_i h
      have : 45 ∈ numL n := List.mem_of_mem_head? h
      exact absurd this (no45n n)
    · rfl
/-- int(text): the value of a sign and digits -/
def valI (l : List Nat) : Int := if l.head? = some 45 then -(digitsVal l.tail : Nat) else (digitsVal l : Nat)
theorem int_bare {l : List Nat} (h : isD (bare l) = true) : intText? (S l) = some (valI l) ∧ (S l).length ≤ 640 := by
  obtain ⟨h1, h2, h3⟩ := isD_iff.mp h
  unfold bare at h1 h2 h3
  unfold valI
  rw [S_len]
  split at h1
  · rename_i hc
    rw [if_pos hc] at h2 h3 ⊢
    obtain ⟨r, rfl⟩ : ∃ r, l = 45 :: r := by
      cases l with
      | nil => cases hc
      | cons c r => exact ⟨r, by cases hc; rfl⟩
    refine ⟨intText_neg rfl h3 (List.length_pos_iff.mp h1) ?_, ?_⟩
    · rw [S_len]
      simp at h2 ⊢
      omega
    · simp at h2 ⊢
      omega
  · rename_i hc
    rw [if_neg hc] at h2 h3 ⊢
    exact ⟨intText_digits h3 (List.length_pos_iff.mp h1) (by rw [S_len]; omega), by omega⟩
theorem valI_lt {l : List Nat} (h : isD (bare l) = true) : (valI l).natAbs < 10 ^ 30 := by
  obtain ⟨h1, h2, h3⟩ := isD_iff.mp h
  have h4 := val_lt h3
  have h5 : (valI l).natAbs = digitsVal (bare l) := by
    unfold valI bare
    split <;> simp
  rw [h5]
  exact Nat.lt_of_lt_of_le h4 (Nat.pow_le_pow_right (by decide) h2)
theorem valI_sgn (i : Int) : valI (sgn i ++ numL i.natAbs) = i := by
  unfold valI
  have hb := bare_sgn i i.natAbs
  unfold bare at hb
  split
  · rename_i h
    rw [if_pos h] at hb
    rw [hb, numL_val]
    unfold sgn at h
    split at h
    · omega
    · exact absurd (List.mem_of_mem_head? h) (no45n _)
  · rename_i h
    rw [if_neg h] at hb
    rw [hb, numL_val]
    unfold sgn at h
    split at h
    · exact absurd rfl h
    · omega
theorem digits_list : ("0123456789" : Str).cps.toList = [48, 49, 50, 51, 52, 53, 54, 55, 56, 57] := by decide +kernel
theorem in_digits (c : Nat) : decide (c ∈ ("0123456789" : Str).cps.toList) = (decide (48 ≤ c) && decide (c ≤ 57)) := by
  rw [digits_list, ← Bool.decide_and]
  apply decide_eq_decide.mpr
  simp
  omega
theorem bd30 {i : Int} (h : i.natAbs < 10 ^ 30) : Bd 100 i := ⟨Nat.lt_of_lt_of_le h (by decide)⟩
theorem small_div {a b : Int} (hb : b ≠ 0) (ha : a.natAbs < 10 ^ 30) (hb2 : b.natAbs < 10 ^ 30) : Small (Rat.divInt a b) := by
  have num : (Rat.divInt a b).num.natAbs ≤ a.natAbs := by
    rw [Rat.num_divInt]
    have h1 : (b.sign * a / (Int.gcd b a : Nat)).natAbs ≤ (b.sign * a).natAbs := Int.natAbs_ediv_le_natAbs _ _
    rw [Int.natAbs_mul] at h1
    have h2 : b.sign.natAbs ≤ 1 := by
      rcases Int.lt_trichotomy b 0 with q | q | q
      · rw [Int.sign_eq_neg_one_of_neg q]; decide
      · exact absurd q hb
      · rw [Int.sign_eq_one_of_pos q]; decide
    have h3 : b.sign.natAbs * a.natAbs ≤ 1 * a.natAbs := Nat.mul_le_mul_right _ h2
    omega
  have den : (Rat.divInt a b).den ≤ b.natAbs := by
    rw [Rat.den_divInt, if_neg hb]
    exact Nat.div_le_self _ _
  exact ⟨Nat.lt_of_le_of_lt num ha, Nat.lt_of_le_of_lt den hb2⟩
end
/-! ### is_ratio, parts -/
def isT2 : PyData → Bool
  | .tuple [_, _] => true
  | _ => false
def isR : PyData → Bool
  | .tuple [.int a, .int b] => decide (1 ≤ b) && decide (Nat.gcd a.natAbs b.natAbs = 1)
  | _ => false
/-- what the law asks is_ratio about -/
def okR : PyData → Prop
  | .tuple ds => ds.length ≤ 5 ∧ (∀ a b, ds = [a, b] → (∃ i : Int, a = .int i ∧ Bd 9000 i) ∨ ∃ c, a = .bool c) ∧ (∀ a b, ds = [a, b] → (∃ i : Int, b = .int i ∧ Bd 9000 i) ∨ ∃ c, b = .bool c)
  | _ => True
section
open SX TL NumText
def isP (w : List Nat) : Bool := isD w && (!decide (w.head? = some 48) || decide (w = [48]))
def partV (w : List Nat) : PyData := if isP w = true then .int (digitsVal w : Nat) else .none
theorem isP_num {n : Nat} (h : n < 10 ^ 30) : isP (numL n) = true := by
  unfold isP
  rw [isD_num h, Bool.true_and, Bool.or_eq_true, decide_eq_true_eq, Bool.not_eq_true', decide_eq_false_iff_not]
  rcases numL_first n with h1 | ⟨c, r, e, h2⟩
  · by_cases hn : n < 10
    · rw [numL_lt hn]
      by_cases h0 : n = 0
      · right; rw [h0]
      · left
        show ¬ some (48 + n) = some 48
        intro z
        have := Option.some.inj z
        omega
    · rw [numL_step (by omega), List.length_append, List.length_singleton] at h1
      have := len_pos (n / 10)
      omega
  · left
    rw [e]
    intro z
    have := Option.some.inj z
    omega
theorem part_num {n : Nat} (h : n < 10 ^ 30) : partV (numL n) = .int n := by
  unfold partV
  rw [if_pos (isP_num h), numL_val]
theorem isP_back {w : List Nat} (h : isP w = true) : digitsVal w < 10 ^ 30 ∧ numL (digitsVal w) = w := by
  unfold isP at h
  rw [Bool.and_eq_true] at h
  obtain ⟨h1, h2⟩ := h
  obtain ⟨l1, l2, ad⟩ := isD_iff.mp h1
  refine ⟨Nat.lt_of_lt_of_le (val_lt ad) (Nat.pow_le_pow_right (by decide) l2), numL_back ad (List.length_pos_iff.mp l1) ?_⟩
  cases w with
  | nil => simp at l1
  | cons c r =>
    by_cases hc : c = 48
    · subst hc
      rw [Bool.or_eq_true, decide_eq_true_eq] at h2
      rcases h2 with h2 | h2
      · simp at h2
      · left; rw [h2]; rfl
    · have := ad c (List.mem_cons_self ..)
      exact .inr ⟨c, r, rfl, by omega⟩
theorem partV_not {w : List Nat} (h : partV w = .none) : isP w = false := by
  unfold partV at h
  cases hp : isP w with
  | true => rw [hp, if_pos rfl] at h; cases h
  | false => rfl
end
section
open SX TL NumText
theorem num_str (n : Nat) : (Str.ofString (toString ((n : Nat) : Int))) = S (numL n) := num_S n
theorem ofString_tl (x : String) : (Str.ofString x).cps.toList = x.toList.map Char.toNat := by
  rw [PySem.Str.ofString_eq_toList]
theorem neg_str {i : Int} : (Str.ofString (toString i)) = S (sgn i ++ numL i.natAbs) := by
  unfold sgn
  split
  · rename_i h
    obtain ⟨n, hn⟩ : ∃ n : Nat, i = -((n + 1 : Nat) : Int) := ⟨i.natAbs - 1, by omega⟩
    subst hn
    refine TL.ext_tl ?_
    have e1 : toString (-((n + 1 : Nat) : Int)) = "-" ++ toString (n + 1) := rfl
    have e2 : toString (((n + 1 : Nat) : Int)) = toString (n + 1) := rfl
    have e3 := tl_num (n + 1)
    rw [e2] at e3
    show (Str.ofString (toString (-((n + 1 : Nat) : Int)))).cps.toList = 45 :: numL _
    have e4 : (-((n + 1 : Nat) : Int)).natAbs = n + 1 := by omega
    rw [e1, e4, ← e3]
    show _ = 45 :: (Str.ofString (toString (n + 1))).cps.toList
    rw [ofString_tl, ofString_tl, String.toList_append, List.map_append]
    rfl
  · rename_i h
    have e : i = ((i.natAbs : Nat) : Int) := by omega
    rw [List.nil_append]
    rw [e, num_str, Int.natAbs_natCast]
theorem str_nil : ("" : Str) = S [] := rfl
theorem str_minus : ("-" : Str) = S [45] := rfl
theorem str_slash : ("/" : Str) = S [47] := rfl
theorem wr_len2 {p : Rat} (h1 : p.num.natAbs < 10 ^ 64) (h2 : p.den < 10 ^ 64) : (wrL p).length ≤ 200 := by
  have h1 := numL_len (k := 64) (by decide) h1
  have h2 := numL_len (k := 64) (by decide) h2
  unfold wrL sgn
  split <;> split <;> simp <;> omega
theorem dR_den {p : Rat} : PyData.eqv (.int p.den) (.int 1) = decide (p.den = 1) := by
  rw [eqv_int]
  apply decide_eq_decide.mpr
  omega
end

section
open SX TL NumText
/-- l cut at its first stroke: a, the stroke or nothing, b -/
def Cut (l a s b : List Nat) : Prop := (47 ∉ l ∧ a = l ∧ s = [] ∧ b = []) ∨ (l = a ++ 47 :: b ∧ 47 ∉ a ∧ s = [47])
theorem cut_all (l : List Nat) : ∃ a s b, Cut l a s b ∧ Txt.partition (S l) "/" = (S a, S s, S b) := by
  rcases cut_or l with h | ⟨a, b, e, h⟩
  · exact ⟨l, [], [], .inl ⟨h, rfl, rfl, rfl⟩, part_none h⟩
  · exact ⟨a, [47], b, .inr ⟨e, h, rfl⟩, by rw [e]; exact part_some h⟩
variable {l a s b : List Nat}
theorem Cut.len_a (h : Cut l a s b) : a.length ≤ l.length := by
  rcases h with ⟨_, rfl, _, _⟩ | ⟨rfl, _, _⟩
  · exact Nat.le_refl _
  · simp
theorem Cut.len_b (h : Cut l a s b) : b.length ≤ l.length := by
  rcases h with ⟨_, _, _, rfl⟩ | ⟨rfl, _, _⟩
  · simp
  · simp
    omega
theorem Cut.good (h : Cut l a s b) {p : Rat} (hp : Small p) (e : l = wrL p) : isD (bare a) = true ∧ (decide (s = []) || isD b) = true := by
  rcases h with ⟨h, rfl, rfl, _⟩ | ⟨rfl, h, rfl⟩
  · obtain ⟨_, e2⟩ := wr_one e h
    rw [e2, bare_sgn]
    exact ⟨isD_num hp.1, rfl⟩
  · obtain ⟨_, e1, e2⟩ := wr_two e h
    rw [e1, bare_sgn, e2]
    exact ⟨isD_num hp.1, isD_num hp.2⟩
theorem Cut.len_s (h : Cut l a s b) : s.length ≤ 1 := by
  rcases h with ⟨_, _, rfl, _⟩ | ⟨_, _, rfl⟩ <;> simp
theorem tru_S {s : List Nat} (h : s.length ≤ 1) : truD (.str (S s)) = some (!decide (s = [])) := by
  have e : (S s).length = s.length := S_len s
  show (if (S s).length ≤ 100000 then some (((S s).length : Int) != 0) else none) = _
  rw [if_pos (by omega), e]
  congr 1
  cases s with
  | nil => rfl
  | cons c r => simp <;> omega
theorem tru_s {s : List Nat} : (!decide (s = [])) = true ↔ decide (s = []) = false := by simp
theorem tru_e {s : List Nat} : (!decide (s = [])) = false ↔ decide (s = []) = true := by simp
/-- the ratio that is read -/
def rdN (s b : List Nat) : Int := if s = [] then 1 else (digitsVal b : Nat)
theorem rdN_lt {s b : List Nat} (h : s = [] ∨ isD b = true) : (rdN s b).natAbs < 10 ^ 30 := by
  unfold rdN
  split
  · decide
  · rename_i hs
    obtain ⟨h1, h2, h3⟩ := isD_iff.mp (h.resolve_left hs)
    rw [Int.natAbs_natCast]
    exact Nat.lt_of_lt_of_le (val_lt h3) (Nat.pow_le_pow_right (by decide) h2)
theorem Cut.read (h : Cut l a s b) {p : Rat} (e : l = wrL p) : valI a = p.num ∧ rdN s b = p.den := by
  rcases h with ⟨h, rfl, rfl, _⟩ | ⟨rfl, h, rfl⟩
  · obtain ⟨e1, e2⟩ := wr_one e h
    rw [e2, valI_sgn]
    exact ⟨rfl, by rw [e1]; rfl⟩
  · obtain ⟨_, e1, e2⟩ := wr_two e h
    rw [e1, valI_sgn, e2]
    refine ⟨rfl, ?_⟩
    unfold rdN
    rw [if_neg (by simp), numL_val]
end

section
open SX TL NumText
theorem shaped_signs {xs : List Nat} (h : ∀ c ∈ xs, c < 128) : SeqAt.shaped (.list (xs.map fun c => PyData.str ⟨#[c]⟩)) = true := by
  have h1 : PyData.canLayAll0 (xs.map fun c => PyData.str ⟨#[c]⟩) = true ∧ PyData.depthAll (xs.map fun c => PyData.str ⟨#[c]⟩) = 0 := by
    induction xs with
    | nil => exact ⟨rfl, rfl⟩
    | cons c r ih =>
      obtain ⟨i1, i2⟩ := ih fun d hd => h d (List.mem_cons_of_mem _ hd)
      have hc := h c (List.mem_cons_self ..)
      refine ⟨?_, ?_⟩
      · rw [List.map_cons]
        show (PyData.strOk ⟨#[c]⟩ && PyData.canLayAll0 _) = true
        rw [i1, Bool.and_true]
        unfold PyData.strOk
        simp
        omega
      · rw [List.map_cons]
        show max (PyData.depth (.str ⟨#[c]⟩)) (PyData.depthAll _) = 0
        rw [i2]
        rfl
  show (PyData.canLayAll0 _ && decide (PyData.depth (.list _) ≤ 64)) = true
  rw [h1.1, Bool.true_and]
  refine decide_eq_true ?_
  show PyData.depthAll _ + 1 ≤ 64
  rw [h1.2]
  decide
theorem shaped_nil : SeqAt.shaped (.list []) = true := shaped_signs (xs := []) (fun _ h => nomatch h)
abbrev nd (c : Nat) : Bool := !(decide (48 ≤ c) && decide (c ≤ 57))
theorem eqv_nil (xs : List Nat) : PyData.eqv (.list (xs.map fun c => PyData.str ⟨#[c]⟩)) (.list []) = xs.isEmpty := by
  cases xs <;> simp [PyData.eqv, PyData.eqvAll]
theorem filter_nd {l : List Nat} : (l.filter nd).isEmpty = l.all fun c => decide (48 ≤ c) && decide (c ≤ 57) := by
  induction l with
  | nil => rfl
  | cons c r ih =>
    rw [List.all_cons, List.filter_cons]
    cases hc : (decide (48 ≤ c) && decide (c ≤ 57)) with
    | true =>
      have : nd c = false := by show (!_) = false; rw [hc]; rfl
      rw [this, Bool.true_and, ← ih]
      rfl
    | false =>
      have : nd c = true := by show (!_) = true; rw [hc]; rfl
      rw [this]
      rfl
theorem rp_none : Rp 0 10 (.str "none") := by
  refine ⟨by decide +kernel, by simp [PyData.depth], rfl, ?_, ?_⟩
  · decide +kernel
  · decide +kernel
end

theorem map_get {α : Type} {f : α → PyData} {xs : List α} {k : Nat} {d : PyData} (h : (xs.map f)[k]? = some d) : ∃ x, xs[k]? = some x ∧ d = f x := by
  rw [List.getElem?_map] at h
  cases hx : xs[k]? with
  | none => rw [hx] at h; cases h
  | some x => rw [hx] at h; exact ⟨x, rfl, (Option.some.inj h).symm⟩
/-! ### what is due -/
section
open SX TL NumText
abbrev ws (r : List Nat) : List (List Nat) := TL.spl [47] 0 [] r
theorem split_ws (r : List Nat) : Txt.split (S r) "/" = (ws r).map S := split_S (b := [47]) (by simp) (by decide)
theorem ws_one {r : List Nat} (h : 47 ∉ r) : ws r = [r] := by
  have := spl_join (c := 47) (sep := []) (parts := [r]) (by simp) (by simpa using h)
  rw [show TL.joinL [47] [r] = r from by simp [TL.joinL]] at this
  exact this
theorem ws_more {a b : List Nat} (h : 47 ∉ a) : ws (a ++ 47 :: b) = a :: ws b := spl_free (sep := [47]) b (by simp) (free_head h)
theorem ws_ne (r : List Nat) : ws r ≠ [] := by
  rcases cut_or r with h | ⟨a, b, rfl, h⟩
  · rw [ws_one h]; simp
  · rw [ws_more h]; simp
theorem ws_in : ∀ (n : Nat) (r : List Nat), r.length ≤ n → (ws r).length ≤ r.length + 1 ∧ ∀ w ∈ ws r, w.length ≤ r.length ∧ ∀ c ∈ w, c ∈ r
  | n, r, hn => by
    rcases cut_or r with h | ⟨a, b, e, h⟩
    · rw [ws_one h]
      refine ⟨by simp, fun w hw => ?_⟩
      rw [List.mem_singleton.mp hw]
      exact ⟨Nat.le_refl _, fun c hc => hc⟩
    · have hl : r.length = a.length + (b.length + 1) := by rw [e]; simp
      match n, hn with
      | 0, hn => omega
      | n + 1, hn =>
        obtain ⟨i1, i2⟩ := ws_in n b (by omega)
        rw [e, ws_more h]
        refine ⟨by simp; omega, fun w hw => ?_⟩
        rcases List.mem_cons.mp hw with hw | hw
        · rw [hw]
          exact ⟨by simp, fun c hc => List.mem_append_left _ hc⟩
        · obtain ⟨j1, j2⟩ := i2 w hw
          exact ⟨by simp; omega, fun c hc => List.mem_append_right _ (List.mem_cons_of_mem _ (j2 c hc))⟩
/-- three kinds of texts: one word, two words, more -/
theorem ws_kinds (r : List Nat) : (47 ∉ r ∧ ws r = [r]) ∨ (∃ a b, r = a ++ 47 :: b ∧ 47 ∉ a ∧ 47 ∉ b ∧ ws r = [a, b]) ∨ (3 ≤ (ws r).length ∧ ¬ ∃ a b, r = a ++ 47 :: b ∧ 47 ∉ a ∧ 47 ∉ b) := by
  rcases cut_or r with h | ⟨a, b, rfl, h⟩
  · exact .inl ⟨h, ws_one h⟩
  · rcases cut_or b with h2 | ⟨b1, c, rfl, h2⟩
    · exact .inr (.inl ⟨a, b, rfl, h, h2, by rw [ws_more h, ws_one h2]⟩)
    · refine .inr (.inr ⟨?_, ?_⟩)
      · rw [ws_more h, ws_more h2]
        have := List.length_pos_iff.mpr (ws_ne c)
        simp
        omega
      · rintro ⟨a', b', e, h3, h4⟩
        obtain ⟨_, e2⟩ := cut47 e h h3
        rw [← e2] at h4
        exact h4 (by simp)
/-- the text without its sign -/
theorem bare_wr (p : Rat) : bare (wrL p) = numL p.num.natAbs ++ (if p.den = 1 then [] else 47 :: numL p.den) := by
  have hb : bare (sgn p.num ++ numL p.num.natAbs) = numL p.num.natAbs := bare_sgn _ _
  unfold wrL
  unfold bare at hb ⊢
  have hn := numL_ne p.num.natAbs
  generalize (if p.den = 1 then [] else 47 :: numL p.den) = t
  have e : (sgn p.num ++ numL p.num.natAbs ++ t).head? = (sgn p.num ++ numL p.num.natAbs).head? := by
    cases h : sgn p.num ++ numL p.num.natAbs with
    | nil => exact absurd (List.append_eq_nil_iff.mp h).2 hn
    | cons c r => rfl
  rw [e]
  split at hb
  · rename_i h
    rw [if_pos h]
    cases h2 : sgn p.num ++ numL p.num.natAbs with
    | nil => exact absurd (List.append_eq_nil_iff.mp h2).2 hn
    | cons c r =>
      rw [h2] at hb
      show r ++ t = _
      rw [show r = numL p.num.natAbs from hb]
  · rename_i h
    rw [if_neg h, hb]
theorem head_wr (p : Rat) : (wrL p).head? = some 45 ↔ p.num < 0 := by
  unfold wrL sgn
  split
  · rename_i h
    exact ⟨fun _ => h, fun _ => rfl⟩
  · rename_i h
    refine ⟨fun e => ?_, fun z => absurd z h⟩
    have hn := numL_ne p.num.natAbs
    cases h2 : numL p.num.natAbs with
    | nil => exact absurd h2 hn
    | cons c r =>
      rw [h2] at e
      have : c = 45 := Option.some.inj e
      exact absurd (by rw [h2, this]; exact List.mem_cons_self ..) (no45n p.num.natAbs)
/-- the parts that are numbers -/
structure Pt (l : List Nat) (N M : Nat) (two : Bool) : Prop where
  n : N < 10 ^ 30
  m : M < 10 ^ 30
  e : bare l = numL N ++ (if two = true then 47 :: numL M else [])
  o : two = false → M = 1
variable {l : List Nat} {N M : Nat} {two : Bool}
theorem Pt.wr (h : Pt l N M two) {p : Rat} (e : l = wrL p) : N = p.num.natAbs ∧ M = p.den ∧ (two = true ↔ p.den ≠ 1) := by
  have e1 := h.e
  rw [e, bare_wr] at e1
  cases two with
  | true =>
    rw [if_pos rfl] at e1
    by_cases hd : p.den = 1
    · rw [if_pos hd, List.append_nil] at e1
      exact absurd (by rw [e1]; simp) (no47n p.num.natAbs)
    · rw [if_neg hd] at e1
      obtain ⟨a, b⟩ := cut47 e1 (no47n _) (no47n _)
      exact ⟨(numL_inj a).symm, (numL_inj b).symm, by simp [hd]⟩
  | false =>
    rw [if_neg Bool.false_ne_true, List.append_nil] at e1
    by_cases hd : p.den = 1
    · rw [if_pos hd, List.append_nil] at e1
      exact ⟨(numL_inj e1).symm, by rw [h.o rfl, hd], by simp [hd]⟩
    · rw [if_neg hd] at e1
      exact absurd (by rw [← e1]; simp) (no47n N)
/-- no ratio, unless all words are numbers and at most two -/
theorem no_words (h : 2 < (ws (bare l)).length ∨ ∃ w ∈ ws (bare l), isP w = false) : ¬ ∃ p : Rat, Small p ∧ l = wrL p := by
  rintro ⟨p, hp, e⟩
  rw [e, bare_wr] at h
  by_cases hd : p.den = 1
  · rw [if_pos hd, List.append_nil, ws_one (no47n _)] at h
    rcases h with h | ⟨w, hw, h⟩
    · simp at h
    · rw [List.mem_singleton.mp hw, isP_num hp.1] at h
      cases h
  · rw [if_neg hd, ws_more (no47n _), ws_one (no47n _)] at h
    rcases h with h | ⟨w, hw, h⟩
    · simp at h
    · rcases List.mem_cons.mp hw with hw | hw
      · rw [hw, isP_num hp.1] at h
        cases h
      · rw [List.mem_singleton.mp hw, isP_num hp.2] at h
        cases h
/-- the words' numbers -/
theorem words (h1 : (ws (bare l)).length ≤ 2) (h2 : ∀ w ∈ ws (bare l), isP w = true) : ∃ N M two, Pt l N M two ∧ (ws (bare l)).map partV = (if two = true then [.int N, .int M] else [.int N]) := by
  rcases ws_kinds (bare l) with ⟨h, e⟩ | ⟨a, b, e, ha, hb, e2⟩ | ⟨h, _⟩
  · rw [e] at h2 ⊢
    have q := h2 _ (List.mem_singleton.mpr rfl)
    obtain ⟨z1, z2⟩ := isP_back q
    refine ⟨_, 1, false, ⟨z1, by decide, ?_, fun _ => rfl⟩, ?_⟩
    · rw [z2]; simp
    · simp [partV, q]
  · rw [e2] at h2 ⊢
    have q1 := h2 a (by simp)
    have q2 := h2 b (by simp)
    obtain ⟨z1, z2⟩ := isP_back q1
    obtain ⟨z3, z4⟩ := isP_back q2
    refine ⟨_, _, true, ⟨z1, z3, ?_, fun h => nomatch h⟩, ?_⟩
    · rw [z2, z4, e]; simp
    · simp [partV, q1, q2]
  · omega
theorem divInt_abs (p : Rat) : (Rat.divInt p.num.natAbs p.den).num = p.num.natAbs ∧ (Rat.divInt p.num.natAbs p.den).den = p.den := by
  by_cases h : 0 ≤ p.num
  · rw [show ((p.num.natAbs : Nat) : Int) = p.num by omega, num_divInt_den]
    exact ⟨rfl, rfl⟩
  · rw [show ((p.num.natAbs : Nat) : Int) = -p.num by omega, ← Rat.neg_divInt, num_divInt_den]
    exact ⟨rfl, rfl⟩
theorem Pt.no_two (h : Pt l N M two) (h1 : two = true) (h2 : M < 2) : ¬ ∃ p : Rat, Small p ∧ l = wrL p := fun ⟨p, hp, e⟩ => by
  obtain ⟨_, e2, e3⟩ := h.wr e
  have := e3.mp h1
  have := p.den_pos
  omega
theorem Pt.no_sign (h : Pt l N M two) (h1 : l.head? = some 45) (h2 : N = 0) : ¬ ∃ p : Rat, Small p ∧ l = wrL p := fun ⟨p, hp, e⟩ => by
  obtain ⟨e1, _, _⟩ := h.wr e
  rw [e, head_wr] at h1
  omega
theorem Pt.no_k (h : Pt l N M two) {k : Nat} (hk : 2 ≤ k) (h1 : k ∣ N) (h2 : k ∣ M) : ¬ ∃ p : Rat, Small p ∧ l = wrL p := fun ⟨p, hp, e⟩ => by
  obtain ⟨e1, e2, _⟩ := h.wr e
  rw [e1] at h1
  rw [e2] at h2
  have := Nat.dvd_gcd h1 h2
  rw [show Nat.gcd p.num.natAbs p.den = 1 from p.reduced] at this
  have := Nat.le_of_dvd (by decide) this
  omega
theorem Pt.no_red (h : Pt l N M two) (h1 : ¬ ((Rat.divInt N M).num = N ∧ (Rat.divInt N M).den = M)) : ¬ ∃ p : Rat, Small p ∧ l = wrL p := fun ⟨p, hp, e⟩ => by
  obtain ⟨e1, e2, _⟩ := h.wr e
  rw [e1, e2] at h1
  exact h1 (divInt_abs p)
/-- what is told at the end is due -/
theorem Pt.last (h : Pt l N M two) (h1 : two = true → 2 ≤ M) (h2 : l.head? = some 45 → N ≠ 0) (h3 : two = true → (Rat.divInt N M).num = N ∧ (Rat.divInt N M).den = M) :
    ∃ p : Rat, Small p ∧ l = wrL p ∧ dR p = .tuple [.int (if l.head? = some 45 then -(N : Int) else N), .int M] := by
  obtain ⟨q, q1, q2⟩ : ∃ q : Rat, q.num = N ∧ q.den = M := by
    cases two with
    | true => exact ⟨_, h3 rfl⟩
    | false =>
      refine ⟨(N : Int), rfl, ?_⟩
      rw [h.o rfl]
      rfl
  have hm : (if two = true then 47 :: numL M else []) = (if M = 1 then [] else 47 :: numL M) := by
    cases two with
    | true => rw [if_pos rfl, if_neg (by have := h1 rfl; omega)]
    | false => rw [if_neg Bool.false_ne_true, if_pos (h.o rfl)]
  have he := h.e
  rw [hm] at he
  by_cases hs : l.head? = some 45
  · have hn := h2 hs
    refine ⟨-q, ⟨?_, ?_⟩, ?_, ?_⟩
    · show (-q.num).natAbs < _
      rw [q1]
      have := h.n
      omega
    · show q.den < _
      rw [q2]
      exact h.m
    · unfold bare at he
      rw [if_pos hs] at he
      unfold wrL sgn
      show l = (if -q.num < 0 then [45] else []) ++ numL (-q.num).natAbs ++ (if q.den = 1 then [] else 47 :: numL q.den)
      rw [q1, q2, if_pos (by omega), show (-(N : Int)).natAbs = N by omega, List.append_assoc, ← he]
      cases l with
      | nil => cases hs
      | cons c r => rw [Option.some.inj hs]; rfl
    · rw [if_pos hs]
      show PyData.tuple [.int (-q.num), .int q.den] = _
      rw [q1, q2]
  · refine ⟨q, ⟨?_, ?_⟩, ?_, ?_⟩
    · rw [q1]
      have := h.n
      omega
    · rw [q2]
      exact h.m
    · unfold bare at he
      rw [if_neg hs] at he
      unfold wrL sgn
      rw [q1, q2, if_neg (by omega), show ((N : Int)).natAbs = N by omega, List.nil_append, ← he]
    · rw [if_neg hs]
      show PyData.tuple [.int q.num, .int q.den] = _
      rw [q1, q2]
theorem eqv_pair {q : Rat} {N M : Nat} : PyData.eqv (dR q) (.tuple [.int N, .int M]) = decide (q.num = N ∧ q.den = M) := by
  simp only [dR, PyData.eqv, PyData.eqvAll, Bool.and_true]
  rw [Bool.eq_iff_iff]
  simp
  intro _
  omega
theorem shaped_pair (i j : Int) : SeqAt.shaped (.tuple [.int i, .int j]) = true := by simp [SeqAt.shaped, PyData.canLay0, PyData.canLayAll0, PyData.depth, PyData.depthAll]
theorem fmod_dvd {N : Nat} {t : Nat} (h : PyData.eqv (.int ((N : Int).fmod (2 + t))) (.int 0) = true) : 2 + t ∣ N := by
  rw [eqv_int, beq_iff_eq] at h
  have h := Int.dvd_of_fmod_eq_zero h
  have : ((2 + t : Nat) : Int) ∣ (N : Int) := by
    rw [Int.natCast_add]
    exact h
  exact Int.natCast_dvd_natCast.mp this
theorem head45 (l : List Nat) : decide (S (l.take 1) = S [45]) = decide (l.head? = some 45) := by
  refine decide_eq_decide.mpr ⟨fun e => ?_, fun e => ?_⟩
  · have e := S_inj e
    cases l with
    | nil => cases e
    | cons c r =>
      have : c = 45 := List.head_eq_of_cons_eq e
      rw [this]
      rfl
  · cases l with
    | nil => cases e
    | cons c r =>
      have : c = 45 := Option.some.inj e
      rw [this]
      rfl
theorem bare_len (l : List Nat) : (bare l).length ≤ l.length := by unfold bare; split <;> simp
theorem bare_in {l : List Nat} {c : Nat} (h : c ∈ bare l) : c ∈ l := by
  unfold bare at h
  split at h
  · exact List.mem_of_mem_tail h
  · exact h
theorem part_shape (w : List Nat) : partV w = .none ∧ isP w = false ∨ isP w = true ∧ partV w = .int (digitsVal w : Nat) := by
  unfold partV
  cases h : isP w with
  | true => exact .inr ⟨rfl, rfl⟩
  | false => exact .inl ⟨rfl, rfl⟩
theorem any_none (xs : List (List Nat)) : ((xs.map partV).any fun z => PyData.eqv z .none) = xs.any fun w => !isP w := by
  induction xs with
  | nil => rfl
  | cons w r ih =>
    rw [List.map_cons, List.any_cons, List.any_cons, ih]
    rcases part_shape w with ⟨e, h⟩ | ⟨h, e⟩
    · rw [e, h]
      simp [PyData.eqv]
    · rw [e, h]
      simp [PyData.eqv]
theorem shaped_parts (xs : List (List Nat)) : SeqAt.shaped (.list (xs.map partV)) = true := by
  have h1 : PyData.canLayAll0 (xs.map partV) = true ∧ PyData.depthAll (xs.map partV) = 0 := by
    induction xs with
    | nil => exact ⟨rfl, rfl⟩
    | cons w r ih =>
      obtain ⟨i1, i2⟩ := ih
      rw [List.map_cons]
      rcases part_shape w with ⟨e, h⟩ | ⟨h, e⟩
      · rw [e]
        exact ⟨i1, by show max 0 (PyData.depthAll _) = 0; rw [i2]; rfl⟩
      · rw [e]
        exact ⟨i1, by show max 0 (PyData.depthAll _) = 0; rw [i2]; rfl⟩
  show (PyData.canLayAll0 _ && decide (PyData.depth (.list _) ≤ 64)) = true
  rw [h1.1, Bool.true_and]
  refine decide_eq_true ?_
  show PyData.depthAll _ + 1 ≤ 64
  rw [h1.2]
  decide
end
/-! ### the law's own texts -/
section
open SX TL NumText
def Asc7 (l : List Nat) : Prop := ∀ c ∈ l, c < 128
theorem asc_num (n : Nat) : Asc7 (numL n) := fun c hc => by
  have := numL_digits n c hc
  omega
theorem asc_app {a b : List Nat} (h1 : Asc7 a) (h2 : Asc7 b) : Asc7 (a ++ b) := fun c hc => by
  rcases List.mem_append.mp hc with hc | hc
  · exact h1 c hc
  · exact h2 c hc
theorem asc_one {c : Nat} (h : c < 128) : Asc7 [c] := fun d hd => by rw [List.mem_singleton.mp hd]; exact h
theorem asc_wr (p : Rat) : Asc7 (wrL p) := by
  unfold wrL sgn
  refine asc_app (asc_app ?_ (asc_num _)) ?_
  · split
    · exact asc_one (by decide)
    · exact fun _ h => nomatch h
  · split
    · exact fun _ h => nomatch h
    · exact asc_app (a := [47]) (asc_one (by decide)) (asc_num _)
theorem asc_take {l : List Nat} (h : Asc7 l) (n : Nat) : Asc7 (l.take n) := fun c hc => h c (List.mem_of_mem_take hc)
theorem asc_drop {l : List Nat} (h : Asc7 l) (n : Nat) : Asc7 (l.drop n) := fun c hc => h c (List.mem_of_mem_drop hc)
theorem rp_small {p : Rat} (h : Small p) : Rp 1 10 (dR p) := by
  have hs : Sz 100 p := ⟨bd30 h.1, bd30 (by rw [Int.natAbs_natCast]; exact h.2)⟩
  exact (rp_dR hs (by decide)).mono (by decide) (by decide)
theorem rp_due {l : List Nat} {d : PyData} (h : Due l d) : Rp 1 10 d := by
  rcases h with ⟨p, hp, _, rfl⟩ | ⟨rfl, _⟩
  · exact rp_small hp
  · exact rp_none.mono (by decide) (by decide)
theorem isR_dR {p : Rat} : isR (dR p) = true := by
  show (decide (1 ≤ (p.den : Int)) && decide (Nat.gcd p.num.natAbs (p.den : Int).natAbs = 1)) = true
  have := p.den_pos
  rw [decide_eq_true (by omega), Bool.true_and, Int.natAbs_natCast]
  exact decide_eq_true p.reduced
/-- the text of 30 digits -/
def l30 (i : Nat) : List Nat := 49 :: List.replicate 29 (48 + i)
theorem l30_dig {i : Nat} (h : i < 10) : AllDigits (l30 i) := fun c hc => by
  rcases List.mem_cons.mp hc with hc | hc
  · rw [hc]; decide
  · rw [List.eq_of_mem_replicate hc]; omega
theorem l30_len (i : Nat) : (l30 i).length = 30 := by simp [l30]
theorem l30_small {i : Nat} (h : i < 10) : digitsVal (l30 i) < 10 ^ 30 := by
  have := val_lt (l30_dig h)
  rwa [l30_len] at this
theorem l30_num {i : Nat} (h : i < 10) : numL (digitsVal (l30 i)) = l30 i := numL_back (l30_dig h) (by simp [l30]) (.inr ⟨49, _, rfl, by decide⟩)
theorem l30_due {i : Nat} (h : i < 10) {d : PyData} (hd : Due (l30 i) d) : d = .tuple [.int (digitsVal (l30 i) : Nat), .int 1] := by
  refine due_same hd (.inl ⟨((digitsVal (l30 i) : Nat) : Int), ⟨?_, ?_⟩, ?_, rfl⟩)
  · show ((digitsVal (l30 i) : Nat) : Int).natAbs < _
    rw [Int.natAbs_natCast]
    exact l30_small h
  · show 1 < _
    decide
  · unfold wrL sgn
    show _ = (if ((digitsVal (l30 i) : Nat) : Int) < 0 then [45] else []) ++ numL ((digitsVal (l30 i) : Nat) : Int).natAbs ++ (if (1 : Nat) = 1 then [] else _)
    rw [if_neg (by omega), if_pos rfl, Int.natAbs_natCast, l30_num h, List.nil_append, List.append_nil]
theorem due_none {l : List Nat} {d : PyData} (h : ¬ ∃ p : Rat, Small p ∧ l = wrL p) (hd : Due l d) : d = .str "none" := due_same hd (.inr ⟨rfl, h⟩)
theorem no_31 {l : List Nat} (h1 : 47 ∉ l) (h2 : l.head? ≠ some 45) (h3 : 30 < l.length) : ¬ ∃ p : Rat, Small p ∧ l = wrL p := fun ⟨p, hp, e⟩ => by
  obtain ⟨_, e1⟩ := wr_one e h1
  have : ¬ p.num < 0 := fun z => h2 (by rw [e]; exact (head_wr p).mpr z)
  unfold sgn at e1
  rw [if_neg this, List.nil_append] at e1
  have := len30.mpr hp.1
  rw [← e1] at this
  omega
theorem no_b31 {a b : List Nat} (h1 : 47 ∉ a) (h3 : 30 < b.length) : ¬ ∃ p : Rat, Small p ∧ a ++ 47 :: b = wrL p := fun ⟨p, hp, e⟩ => by
  obtain ⟨_, _, e1⟩ := wr_two e h1
  have := len30.mpr hp.2
  rw [← e1] at this
  omega
theorem no_nil : ¬ ∃ p : Rat, Small p ∧ [] = wrL p := fun ⟨p, hp, e⟩ => by
  have := bare_wr p
  rw [← e] at this
  have h := numL_ne p.num.natAbs
  exact h (List.append_eq_nil_iff.mp this.symm).1
theorem times_one (c n : Nat) : timesS (S [c]) n = S (List.replicate n c) := by
  refine TL.ext_tl ?_
  show (timesS (S [c]) n).cps.toList = List.replicate n c
  rw [timesS_tl]
  show (List.replicate n [c]).flatten = _
  induction n with
  | zero => rfl
  | succ n ih => rw [List.replicate_succ, List.flatten_cons, ih, List.replicate_succ]; rfl
/-- one of the eight signs -/
theorem sign8 {i : Int} (h0 : 0 ≤ i) (h8 : i < 8) : ∃ c, c < 128 ∧ atI [PyData.str "0", .str "1", .str "2", .str "-", .str "/", .str " ", .str "+", .str "3"] i = some (.str (S [c])) := by
  obtain ⟨n, rfl⟩ : ∃ n : Nat, i = n := ⟨i.toNat, by omega⟩
  have hn : n < 8 := by omega
  match n, hn with
  | 0, _ => exact ⟨48, by decide, atI_nat (j := 0) rfl⟩
  | 1, _ => exact ⟨49, by decide, atI_nat (j := 1) rfl⟩
  | 2, _ => exact ⟨50, by decide, atI_nat (j := 2) rfl⟩
  | 3, _ => exact ⟨45, by decide, atI_nat (j := 3) rfl⟩
  | 4, _ => exact ⟨47, by decide, atI_nat (j := 4) rfl⟩
  | 5, _ => exact ⟨32, by decide, atI_nat (j := 5) rfl⟩
  | 6, _ => exact ⟨43, by decide, atI_nat (j := 6) rfl⟩
  | 7, _ => exact ⟨51, by decide, atI_nat (j := 7) rfl⟩
theorem three {a b c : PyData} {i : Int} (h0 : 0 ≤ i) (h3 : i < 3) : ∃ d, (d = a ∨ d = b ∨ d = c) ∧ atI [a, b, c] i = some d := by
  obtain ⟨n, rfl⟩ : ∃ n : Nat, i = n := ⟨i.toNat, by omega⟩
  have hn : n < 3 := by omega
  match n, hn with
  | 0, _ => exact ⟨a, .inl rfl, atI_nat (j := 0) rfl⟩
  | 1, _ => exact ⟨b, .inr (.inl rfl), atI_nat (j := 1) rfl⟩
  | 2, _ => exact ⟨c, .inr (.inr rfl), atI_nat (j := 2) rfl⟩
end
theorem len_spec (b : List Sl) (n : Nat) : True := trivial
theorem shaped_bools (bs : List Bool) : SeqAt.shaped (.list (bs.map PyData.bool)) = true := by
  have h1 : PyData.canLayAll0 (bs.map PyData.bool) = true ∧ PyData.depthAll (bs.map PyData.bool) = 0 := by
    induction bs with
    | nil => exact ⟨rfl, rfl⟩
    | cons w r ih =>
      obtain ⟨i1, i2⟩ := ih
      rw [List.map_cons]
      exact ⟨i1, by show max 0 (PyData.depthAll _) = 0; rw [i2]; rfl⟩
  show (PyData.canLayAll0 _ && decide (PyData.depth (.list _) ≤ 64)) = true
  rw [h1.1, Bool.true_and]
  refine decide_eq_true ?_
  show PyData.depthAll _ + 1 ≤ 64
  rw [h1.2]
  decide
theorem eqv_bools (bs : List Bool) : PyData.eqv (.list (bs.map PyData.bool)) (.list (bs.map PyData.bool)) = true := by
  have : PyData.eqvAll (bs.map PyData.bool) (bs.map PyData.bool) = true := by
    induction bs with
    | nil => simp [PyData.eqvAll]
    | cons w r ih => simp [PyData.eqvAll, PyData.eqv, ih]
  simp [PyData.eqv, this]

theorem okR_dR {p : Rat} (h : Sz 62 p) : okR (dR p) := ⟨Nat.le_of_ble_eq_true rfl, fun a b e => by cases e; exact .inl ⟨_, rfl, h.num.mono (by decide)⟩, fun a b e => by cases e; exact .inl ⟨_, rfl, h.den.mono (by decide)⟩⟩

theorem log10 {n : Nat} (h : n < 10) : n.log2 < 1920 := by
  have : n.log2 ≤ n := Nat.log2_le_self n
  omega
theorem str_one : ("1" : Str) = SX.S [49] := rfl

def badL (q : Rat) : List PyData := [.tuple [.int q.num, .int 0], .tuple [.int (q.num * 2), .int (q.den * 2)], .tuple [.int q.num, .int (-q.den)], .list [.int q.num, .int q.den], .tuple [.int q.num], .tuple [.bool true, .int 1], .tuple [.int 1, .bool true], .none, .str "1", .tuple [.int q.num, .int q.den, .int 1]]
theorem okR_ii {i j : Int} (hi : Bd 9000 i) (hj : Bd 9000 j) : okR (.tuple [.int i, .int j]) := ⟨Nat.le_of_ble_eq_true rfl, fun a b e => by cases e; exact .inl ⟨_, rfl, hi⟩, fun a b e => by cases e; exact .inl ⟨_, rfl, hj⟩⟩
theorem bad_all {q : Rat} (h : Sz 62 q) : ∀ d ∈ badL q, okR d ∧ isR d = false := by
  intro d hd
  have b2 : Bd 2 2 := ⟨by decide⟩
  have b0 : Bd 9000 0 := ⟨by decide⟩
  have b1 : Bd 9000 1 := ⟨by decide⟩
  have hn := h.num
  have hm := h.den
  have hp := q.den_pos
  simp only [badL, List.mem_cons, List.not_mem_nil, or_false] at hd
  rcases hd with rfl | rfl | rfl | rfl | rfl | rfl | rfl | rfl | rfl | rfl
  · exact ⟨okR_ii (hn.mono (by decide)) b0, rfl⟩
  · refine ⟨okR_ii ((hn.mul b2).mono (by decide)) ((hm.mul b2).mono (by decide)), ?_⟩
    have hg : ¬ Nat.gcd (q.num * 2).natAbs ((q.den : Int) * 2).natAbs = 1 := by
      rw [Int.natAbs_mul, Int.natAbs_mul, Nat.gcd_mul_right]
      show ¬ _ * 2 = 1
      omega
    exact Bool.and_eq_false_iff.mpr (.inr (decide_eq_false hg))
  · refine ⟨okR_ii (hn.mono (by decide)) (hm.neg.mono (by decide)), ?_⟩
    show (decide (1 ≤ (-(q.den : Int))) && _) = false
    rw [decide_eq_false (by omega), Bool.false_and]
  · exact ⟨trivial, rfl⟩
  · exact ⟨⟨Nat.le_of_ble_eq_true rfl, fun a b e => (by simp at e), fun a b e => (by simp at e)⟩, rfl⟩
  · exact ⟨⟨Nat.le_of_ble_eq_true rfl, fun a b e => by cases e; exact .inr ⟨_, rfl⟩, fun a b e => by cases e; exact .inl ⟨_, rfl, b1⟩⟩, rfl⟩
  · exact ⟨⟨Nat.le_of_ble_eq_true rfl, fun a b e => by cases e; exact .inl ⟨_, rfl, b1⟩, fun a b e => by cases e; exact .inr ⟨_, rfl⟩⟩, rfl⟩
  · exact ⟨trivial, rfl⟩
  · exact ⟨trivial, rfl⟩
  · exact ⟨⟨Nat.le_of_ble_eq_true rfl, fun a b e => (by simp at e), fun a b e => (by simp at e)⟩, rfl⟩
def topS (i : Nat) : Stmt := PySem.Challenge.pw_mitrehouse_k01_texts_of_ratios.main.body.getD i (.Pass ⟨0, 0, 0, 0⟩)
abbrev s_is_whole : Stmt := topS 9
abbrev s_ratio : Stmt := topS 10
abbrev s_is_ratio : Stmt := topS 11
abbrev s_write_whole : Stmt := topS 12
abbrev s_write_ratio : Stmt := topS 13
abbrev s_are_digits : Stmt := topS 14
abbrev s_read_ratio : Stmt := topS 15
abbrev s__law_draws : Stmt := topS 17
abbrev s__law_take : Stmt := topS 18
abbrev s__law_ratio : Stmt := topS 19
abbrev s__law_text : Stmt := topS 20
abbrev s__law_told : Stmt := topS 21
abbrev s__law_part : Stmt := topS 22
abbrev s__law_due : Stmt := topS 23
abbrev s_law : Stmt := topS 24
theorem sc_is_whole : FnScope ["value"] ["value"] (defScope s_is_whole) := ⟨rfl, rfl, rfl, by decide +kernel, rfl, by decide +kernel, by decide +kernel⟩
theorem sc_ratio : FnScope ["above", "below", "common"] ["above", "below"] (defScope s_ratio) := ⟨rfl, rfl, rfl, by decide +kernel, rfl, by decide +kernel, by decide +kernel⟩
theorem sc_is_ratio : FnScope ["value", "above", "below"] ["value"] (defScope s_is_ratio) := ⟨rfl, rfl, rfl, by decide +kernel, rfl, by decide +kernel, by decide +kernel⟩
theorem sc_write_whole : FnScope ["number", "parts", "rest"] ["number"] (defScope s_write_whole) := ⟨rfl, rfl, rfl, by decide +kernel, rfl, by decide +kernel, by decide +kernel⟩
theorem sc_write_ratio : FnScope ["one", "front", "back"] ["one"] (defScope s_write_ratio) := ⟨rfl, rfl, rfl, by decide +kernel, rfl, by decide +kernel, by decide +kernel⟩
theorem sc_are_digits : FnScope ["text"] ["text"] (defScope s_are_digits) := ⟨rfl, rfl, rfl, by decide +kernel, rfl, by decide +kernel, by decide +kernel⟩
theorem sc_read_ratio : FnScope ["word", "above", "slash", "below", "bare", "found"] ["word"] (defScope s_read_ratio) := ⟨rfl, rfl, rfl, by decide +kernel, rfl, by decide +kernel, by decide +kernel⟩
theorem sc__law_draws : FnScope ["script", "draws", "cell", "number", "first", "k", "seed"] ["script"] (defScope s__law_draws) := ⟨rfl, rfl, rfl, by decide +kernel, rfl, by decide +kernel, by decide +kernel⟩
theorem sc__law_take : FnScope ["draws", "bound"] ["draws", "bound"] (defScope s__law_take) := ⟨rfl, rfl, rfl, by decide +kernel, rfl, by decide +kernel, by decide +kernel⟩
theorem sc__law_ratio : FnScope ["draws", "kind"] ["draws"] (defScope s__law_ratio) := ⟨rfl, rfl, rfl, by decide +kernel, rfl, by decide +kernel, by decide +kernel⟩
theorem sc__law_text : FnScope ["one"] ["one"] (defScope s__law_text) := ⟨rfl, rfl, rfl, by decide +kernel, rfl, by decide +kernel, by decide +kernel⟩
theorem sc__law_told : FnScope ["text"] ["text"] (defScope s__law_told) := ⟨rfl, rfl, rfl, by decide +kernel, rfl, by decide +kernel, by decide +kernel⟩
theorem sc__law_part : FnScope ["word", "sign"] ["word"] (defScope s__law_part) := ⟨rfl, rfl, rfl, by decide +kernel, rfl, by decide +kernel, by decide +kernel⟩
theorem sc__law_due : FnScope ["text", "rest", "parts", "above", "below", "k", "word"] ["text"] (defScope s__law_due) := ⟨rfl, rfl, rfl, by decide +kernel, rfl, by decide +kernel, by decide +kernel⟩
theorem sc_law : FnScope ["script", "draws", "turn", "one", "text", "again", "at", "sign", "bad", "digits", "told", "value"] ["script"] (defScope s_law) := ⟨rfl, rfl, rfl, by decide +kernel, rfl, by decide +kernel, by decide +kernel⟩
/-! ### what the top has written -/
structure Ad where
  f_is_whole : Addr
  d_is_whole : FuncData
  f_ratio : Addr
  d_ratio : FuncData
  f_is_ratio : Addr
  d_is_ratio : FuncData
  f_write_whole : Addr
  d_write_whole : FuncData
  f_write_ratio : Addr
  d_write_ratio : FuncData
  f_are_digits : Addr
  d_are_digits : FuncData
  f_read_ratio : Addr
  d_read_ratio : FuncData
  f__law_draws : Addr
  d__law_draws : FuncData
  f__law_take : Addr
  d__law_take : FuncData
  f__law_ratio : Addr
  d__law_ratio : FuncData
  f__law_text : Addr
  d__law_text : FuncData
  f__law_told : Addr
  d__law_told : FuncData
  f__law_part : Addr
  d__law_part : FuncData
  f__law_due : Addr
  d__law_due : FuncData
  f_law : Addr
  d_law : FuncData
  C_NotNumber : Addr
  C_MitreError : Addr
  cc_are_digits : Addr
  P_are_digits : Addr
  vd_ratio : List Value
  c_CHUNK : Tok
  c_CHUNK_DIGITS : Tok
  c_DIGITS : Tok
  c_MOST_DIGITS : Tok
structure Txt (K : PySem.W.Frag) (mg : Str → Option Value) (A : Ad) : Prop where
  F_is_whole : Fd K "is_whole" "is_whole" s_is_whole A.f_is_whole A.d_is_whole
  g_is_whole : mg "is_whole" = some (.ref A.f_is_whole)
  k_is_whole : PySem.W.keepIn K (.ref A.f_is_whole) = true
  b_is_whole : Binds K A.d_is_whole ["value"] []
  F_ratio : Fd K "ratio" "ratio" s_ratio A.f_ratio A.d_ratio
  g_ratio : mg "ratio" = some (.ref A.f_ratio)
  k_ratio : PySem.W.keepIn K (.ref A.f_ratio) = true
  b_ratio : Binds K A.d_ratio ["above", "below"] []
  F_is_ratio : Fd K "is_ratio" "is_ratio" s_is_ratio A.f_is_ratio A.d_is_ratio
  g_is_ratio : mg "is_ratio" = some (.ref A.f_is_ratio)
  k_is_ratio : PySem.W.keepIn K (.ref A.f_is_ratio) = true
  b_is_ratio : Binds K A.d_is_ratio ["value"] []
  F_write_whole : Fd K "write_whole" "write_whole" s_write_whole A.f_write_whole A.d_write_whole
  g_write_whole : mg "write_whole" = some (.ref A.f_write_whole)
  k_write_whole : PySem.W.keepIn K (.ref A.f_write_whole) = true
  b_write_whole : Binds K A.d_write_whole ["number"] []
  F_write_ratio : Fd K "write_ratio" "write_ratio" s_write_ratio A.f_write_ratio A.d_write_ratio
  g_write_ratio : mg "write_ratio" = some (.ref A.f_write_ratio)
  k_write_ratio : PySem.W.keepIn K (.ref A.f_write_ratio) = true
  b_write_ratio : Binds K A.d_write_ratio ["one"] []
  F_are_digits : Fd K "are_digits" "are_digits" s_are_digits A.f_are_digits A.d_are_digits
  g_are_digits : mg "are_digits" = some (.ref A.f_are_digits)
  k_are_digits : PySem.W.keepIn K (.ref A.f_are_digits) = true
  b_are_digits : Binds K A.d_are_digits ["text"] []
  F_read_ratio : Fd K "read_ratio" "read_ratio" s_read_ratio A.f_read_ratio A.d_read_ratio
  g_read_ratio : mg "read_ratio" = some (.ref A.f_read_ratio)
  k_read_ratio : PySem.W.keepIn K (.ref A.f_read_ratio) = true
  b_read_ratio : Binds K A.d_read_ratio ["word"] []
  F__law_draws : Fd K "_law_draws" "_law_draws" s__law_draws A.f__law_draws A.d__law_draws
  g__law_draws : mg "_law_draws" = some (.ref A.f__law_draws)
  k__law_draws : PySem.W.keepIn K (.ref A.f__law_draws) = true
  b__law_draws : Binds K A.d__law_draws ["script"] []
  F__law_take : Fd K "_law_take" "_law_take" s__law_take A.f__law_take A.d__law_take
  g__law_take : mg "_law_take" = some (.ref A.f__law_take)
  k__law_take : PySem.W.keepIn K (.ref A.f__law_take) = true
  b__law_take : Binds K A.d__law_take ["draws", "bound"] []
  F__law_ratio : Fd K "_law_ratio" "_law_ratio" s__law_ratio A.f__law_ratio A.d__law_ratio
  g__law_ratio : mg "_law_ratio" = some (.ref A.f__law_ratio)
  k__law_ratio : PySem.W.keepIn K (.ref A.f__law_ratio) = true
  b__law_ratio : Binds K A.d__law_ratio ["draws"] []
  F__law_text : Fd K "_law_text" "_law_text" s__law_text A.f__law_text A.d__law_text
  g__law_text : mg "_law_text" = some (.ref A.f__law_text)
  k__law_text : PySem.W.keepIn K (.ref A.f__law_text) = true
  b__law_text : Binds K A.d__law_text ["one"] []
  F__law_told : Fd K "_law_told" "_law_told" s__law_told A.f__law_told A.d__law_told
  g__law_told : mg "_law_told" = some (.ref A.f__law_told)
  k__law_told : PySem.W.keepIn K (.ref A.f__law_told) = true
  b__law_told : Binds K A.d__law_told ["text"] []
  F__law_part : Fd K "_law_part" "_law_part" s__law_part A.f__law_part A.d__law_part
  g__law_part : mg "_law_part" = some (.ref A.f__law_part)
  k__law_part : PySem.W.keepIn K (.ref A.f__law_part) = true
  b__law_part : Binds K A.d__law_part ["word"] []
  F__law_due : Fd K "_law_due" "_law_due" s__law_due A.f__law_due A.d__law_due
  g__law_due : mg "_law_due" = some (.ref A.f__law_due)
  k__law_due : PySem.W.keepIn K (.ref A.f__law_due) = true
  b__law_due : Binds K A.d__law_due ["text"] []
  F_law : Fd K "law" "law" s_law A.f_law A.d_law
  g_law : mg "law" = some (.ref A.f_law)
  k_law : PySem.W.keepIn K (.ref A.f_law) = true
  b_law : Binds K A.d_law ["script"] []
  cc_are_digits : ∀ cdv, CodeIs K A.f_are_digits cdv → cdv = .ref A.cc_are_digits
  lm_are_digits : ∀ q, ¬ NmC.lm A.P_are_digits q
  tb_are_digits : NmC.tb A.P_are_digits
  vd_ratio : Vals [.int 1] A.vd_ratio
  bd_ratio : Binds K A.d_ratio ["above", "below"] A.vd_ratio
  g_NotNumber : mg "NotNumber" = some (.ref A.C_NotNumber)
  k_NotNumber : PySem.W.keepIn K (.ref A.C_NotNumber) = true
  x_NotNumber : PySem.W.excIn K A.C_NotNumber [.type "ValueError", .type "Exception", .type "BaseException", .type "object"] "ValueError.__new__" = true
  bx_NotNumber : PySem.W.subIn K (.ref A.C_NotNumber) (.type "BaseException") = some true
  tx_NotNumber : PySem.W.typeIn K (.ref A.C_NotNumber) = some (.type "type")
  m_NotNumber : PySem.W.exmOne K (.ref A.C_NotNumber) (.ref A.C_NotNumber) = some true
  g_MitreError : mg "MitreError" = some (.ref A.C_MitreError)
  k_MitreError : PySem.W.keepIn K (.ref A.C_MitreError) = true
  x_MitreError : PySem.W.excIn K A.C_MitreError [.type "ValueError", .type "Exception", .type "BaseException", .type "object"] "ValueError.__new__" = true
  bx_MitreError : PySem.W.subIn K (.ref A.C_MitreError) (.type "BaseException") = some true
  tx_MitreError : PySem.W.typeIn K (.ref A.C_MitreError) = some (.type "type")
  m_MitreError : PySem.W.exmOne K (.ref A.C_MitreError) (.ref A.C_MitreError) = some true
  c_CHUNK : mg "CHUNK" = some (.int 10000000000000000000000000000000000000000000000000000000000000000 A.c_CHUNK)
  c_CHUNK_DIGITS : mg "CHUNK_DIGITS" = some (.int 64 A.c_CHUNK_DIGITS)
  c_DIGITS : mg "DIGITS" = some (.str "0123456789" A.c_DIGITS)
  c_MOST_DIGITS : mg "MOST_DIGITS" = some (.int 30 A.c_MOST_DIGITS)
  z_abs : mg "abs" = none
  z_all : mg "all" = none
  z_bool : mg "bool" = none
  z_divmod : mg "divmod" = none
  z_int : mg "int" = none
  z_isinstance : mg "isinstance" = none
  z_len : mg "len" = none
  z_list : mg "list" = none
  z_range : mg "range" = none
  z_repr : mg "repr" = none
  z_reversed : mg "reversed" = none
  z_str : mg "str" = none
  z_tuple : mg "tuple" = none
  g_gcd : mg "gcd" = some (.builtin "math.gcd")
abbrev sp_is_whole (K : PySem.W.Frag) (A : Ad) : Sp := spD K 1 (fun d : PyData => [d]) (fun _ => True) (fun d r => r = .bool (isI d && !isB d)) (fun _ _ => False)
theorem ok_is_whole {P : Program} {w : World} {K : PySem.W.Frag} {mg : Str → Option Value} {base : Heap} {A : Ad} (T : Txt K mg A)  :
    FnG P w K mg base 1 A.f_is_whole A.d_is_whole ["value"] (sp_is_whole K A) := by
  refine fn_data T.F_is_whole sc_is_whole rfl fun cdv A' outer s H E hgd hr => ⟨_, (pss_one (ps_ret (pe_and (pe_callB call_isi (by rfl) T.z_isinstance (by decide +kernel) (pa_cons (pv 0) (pa_cons (pe_bltn (v := .ty "int") (by rfl) T.z_int (by decide +kernel) rfl) pa_nil))) (pe_one (pe_not (pe_callB call_isi (by rfl) T.z_isinstance (by decide +kernel) (pa_cons (pv 0) (pa_cons (pe_bltn (v := .ty "bool") (by rfl) T.z_bool (by decide +kernel) rfl) pa_nil)))))))), ?_⟩
  intro d _
  show SX K _ _ [.dat d] _
  dsimp only [bodyK]
  repeat walk_at "m3"
  refine ⟨fun h => ?_, fun h => ?_⟩
  · repeat walk_at "m3"
    rw [h, Bool.true_and]
  · refine ⟨_, rfl, ?_⟩
    rw [h, Bool.false_and]
abbrev sp_ratio (K : PySem.W.Frag) (A : Ad) : Sp := spD K 2 (fun p : Int × Int => [.int p.1, .int p.2]) (fun p => Bd 9000 p.1 ∧ Bd 9000 p.2) (fun p r => p.2 ≠ 0 ∧ r = dR (Rat.divInt p.1 p.2)) (fun p C => p.2 = 0 ∧ C = .ref A.C_NotNumber)
theorem ok_ratio {P : Program} {w : World} {K : PySem.W.Frag} {mg : Str → Option Value} {base : Heap} {A : Ad} (T : Txt K mg A)  :
    FnG P w K mg base 1 A.f_ratio A.d_ratio ["above", "below"] (sp_ratio K A) := by
  refine fn_data T.F_ratio sc_ratio rfl fun cdv A' outer s H E hgd hr => ⟨_, (pss_cons (ps_if (pt_cmpR (op_eqD hr.units) (pv 1) pe_int (nomark _)) (pss_one (ps_raise rfl (takes_of rfl rfl rfl rfl) (pmk_own PySem.F.excBase_ValueError T.x_NotNumber T.g_NotNumber T.k_NotNumber (raises_own T.bx_NotNumber T.tx_NotNumber) rfl))) pss_nil)
  (pss_cons (ps_set (i := 2) sc_ratio.nd rfl (.inl rfl) (pe_callBfun cr_gcd (by rfl) T.g_gcd (pa_cons (pv 0) (pa_cons (pv 1) pa_nil))))
  (pss_cons (ps_if (pt_cmpR op_lt (pv 1) pe_int (nomark _)) (pss_one (ps_set (i := 2) sc_ratio.nd rfl (.inl rfl) (pe_un un_neg (pv 2)))) pss_nil)
  (pss_one (ps_ret (pe_tup (pa_cons (pe_op op_fdX (pv 0) (pv 2)) (pa_cons (pe_op op_fdX (pv 1) (pv 2)) pa_nil)))))))), ?_⟩
  rintro ⟨a, b⟩ ⟨ha, hb⟩
  show SX K _ _ [.dat (.int a), .dat (.int b), .no] _
  dsimp only [bodyK] at *
  repeat walk_at "m3"
  refine ⟨fun h => ?_, fun h => ?_⟩
  · walk_at "m3s"
    repeat walk_at "m3"
    exact ⟨h, rfl⟩
  · walk_at "m3s"
    have g1 := gcd_lt (a := a) h hb
    have g0 : 0 < Nat.gcd a.natAbs b.natAbs := Nat.gcd_pos_of_pos_right _ (by omega)
    repeat walk_at "m3"
    refine ⟨fun hn => ?_, fun hn => ?_⟩
    · walk_at "m3s"
      have lg : (-((Nat.gcd a.natAbs b.natAbs : Nat) : Int)).natAbs.log2 < 9000 := log_lt g1.neg (by decide)
      repeat walk_at "m3"
      refine rx_Ci ⟨by omega, lg⟩ ?_
      repeat walk_at "m3"
      refine rx_Ci ⟨by omega, lg⟩ ?_
      repeat walk_at "m3"
      exact ⟨h, dR_neg hn⟩
    · walk_at "m3s"
      have lg : ((Nat.gcd a.natAbs b.natAbs : Nat) : Int).natAbs.log2 < 9000 := log_lt g1 (by decide)
      repeat walk_at "m3"
      refine rx_Ci ⟨by omega, lg⟩ ?_
      repeat walk_at "m3"
      refine rx_Ci ⟨by omega, lg⟩ ?_
      repeat walk_at "m3"
      exact ⟨h, dR_pos (by omega)⟩
abbrev sp_is_ratio (K : PySem.W.Frag) (A : Ad) : Sp := spD K 1 (fun d : PyData => [d]) (fun d => okR d) (fun d r => r = .bool (isR d)) (fun _ _ => False)
theorem ok_is_ratio {P : Program} {w : World} {K : PySem.W.Frag} {mg : Str → Option Value} {base : Heap} {A : Ad} (T : Txt K mg A) (G_is_whole : FnG P w K mg base 1 A.f_is_whole A.d_is_whole ["value"] (sp_is_whole K A)) :
    FnG P w K mg base 2 A.f_is_ratio A.d_is_ratio ["value"] (sp_is_ratio K A) := by
  refine fn_data T.F_is_ratio sc_is_ratio rfl fun cdv A' outer s H E hgd hr => ⟨_, (pss_cons (ps_if (PW.pt (pw_or (pt_not (pt_val (pe_callB call_isi (by rfl) T.z_isinstance (by decide +kernel) (pa_cons (pv 0) (pa_cons (pe_bltn (v := .ty "tuple") (by rfl) T.z_tuple (by decide +kernel) rfl) pa_nil))))) (pw_or1 (pt_cmpR (op_neD hr.units) (pe_callB call_len_seq (by rfl) T.z_len (by decide +kernel) (pa_cons (pv 0) pa_nil)) pe_int (nomark _))))) (pss_one (ps_ret pe_bl)) pss_nil)
  (pss_cons (ps_asg (pv 0) (pg_tup (by rfl) (pgs_cons (pg_name (i := 1) sc_is_ratio.nd rfl (.inl rfl)) (pgs_cons (pg_name (i := 2) sc_is_ratio.nd rfl (.inl rfl)) pgs_nil))))
  (pss_one (ps_ret (pe_and (pe_G G_is_whole hgd (hr.mono (by decide)) (by rfl) T.g_is_whole T.k_is_whole T.b_is_whole .nil (fun σ => passAt (takes_of rfl rfl rfl rfl) σ) (pa_cons (pv 1) pa_nil)) (pe_and (pe_G G_is_whole hgd (hr.mono (by decide)) (by rfl) T.g_is_whole T.k_is_whole T.b_is_whole .nil (fun σ => passAt (takes_of rfl rfl rfl rfl) σ) (pa_cons (pv 2) pa_nil)) (pe_and (pe_cmpR op_ge (pv 2) pe_int (nomark _)) (pe_one (pe_cmpR (op_eqD hr.units) (pe_callBfun cr_gcd (by rfl) T.g_gcd (pa_cons (pv 1) (pa_cons (pv 2) pa_nil))) pe_int (nomark _)))))))))), ?_⟩
  intro d hd
  show SX K _ _ [.dat d, .no, .no] _
  dsimp only [bodyK] at *
  by_cases ht : ∃ ds, d = .tuple ds
  · obtain ⟨ds, rfl⟩ := ht
    obtain ⟨h5, hA, hB⟩ := hd
    by_cases hl : ds.length = 2
    · obtain ⟨a, b, rfl⟩ : ∃ a b, ds = [a, b] := by
        match ds, hl with
        | [a, b], _ => exact ⟨a, b, rfl⟩
      refine sx_guard false ?_ (fun h => by cases h) (fun _ => ?_)
      · repeat walk_at "m3e"
        refine ⟨fun h => (Bool.false_ne_true h).elim, fun _ => ?_⟩
        exact tx_test (ex_op (ex_CB (ax_cons (ex_var rfl (ax_nil (vx_lenT (ex_int (rx_neD (shaped_int _) (shaped_int _) ⟨_, rfl, rfl, rfl⟩))))))))
      refine sx_seq (sx_unpack (n := 2) (is := [1, 2]) (ex_var rfl ⟨_, rfl, rfl, ?_⟩) rfl)
      show SX K _ _ [.dat (.tuple [a, b]), .dat a, .dat b] _
      refine sx_ret (ex_andV (ex_call (fun _ => .nil) ?_))
      repeat walk_at "m3e"
      refine ⟨[_], a, rfl, rfl, rfl, trivial, fun d hd => ⟨_, congrArg Vw.d hd, fun h => ?_, fun h => ?_⟩, fun C hC => hC.elim⟩
      · refine ex_andV (ex_call (fun _ => .nil) ?_)
        repeat walk_at "m3e"
        refine ⟨[_], b, rfl, rfl, rfl, trivial, fun d hd => ⟨_, congrArg Vw.d hd, fun h2 => ?_, fun h2 => ?_⟩, fun C hC => hC.elim⟩
        · rcases hA a b rfl with ⟨i, rfl, bi⟩ | ⟨c, rfl⟩
          · rcases hB _ _ rfl with ⟨j, rfl, bj⟩ | ⟨c, rfl⟩
            · repeat walk_at "m3e"
              refine ⟨fun h3 => ?_, fun h3 => ?_⟩
              · repeat walk_at "m3e"
                show _ = _
                rw [eqv_int]
                show _ = PyData.bool (decide (1 ≤ j) && decide (Nat.gcd i.natAbs j.natAbs = 1))
                rw [h3, Bool.true_and]
                exact congrArg PyData.bool (decide_eq_decide.mpr (by omega))
              · refine ⟨_, rfl, ?_⟩
                show _ = PyData.bool (decide (1 ≤ j) && decide (Nat.gcd i.natAbs j.natAbs = 1))
                rw [h3, Bool.false_and]
            · cases h2
          · cases h
        · refine ⟨_, rfl, ?_⟩
          show _ = PyData.bool (isR _)
          rcases hA a b rfl with ⟨i, rfl, bi⟩ | ⟨c, rfl⟩
          · rcases hB _ _ rfl with ⟨j, rfl, bj⟩ | ⟨c, rfl⟩
            · cases h2
            · rfl
          · rfl
      · refine ⟨_, rfl, ?_⟩
        show _ = PyData.bool (isR _)
        rcases hA a b rfl with ⟨i, rfl, bi⟩ | ⟨c, rfl⟩
        · cases h
        · rfl
    · refine sx_guard true ?_ (fun _ => ?_) (fun h => by cases h)
      · repeat walk_at "m3e"
        refine ⟨fun h => (Bool.false_ne_true h).elim, fun _ => ?_⟩
        refine tx_test (ex_op (ex_CB (ax_cons (ex_var rfl (ax_nil (vx_lenT (ex_int (rx_neD (shaped_int _) (shaped_int _) ⟨_, rfl, ?_, rfl⟩))))))))
        show (!PyData.eqv (.int ds.length) (.int 2)) = true
        rw [eqv_int, beq_eq_false_iff_ne.mpr (by omega)]
        rfl
      · repeat walk_at "m3"
        show _ = PyData.bool (isR _)
        match ds, hl with
        | [], _ => rfl
        | [x], _ => cases x <;> rfl
        | x :: y :: z :: t, _ => cases x <;> cases y <;> rfl
        | [a, b], h => exact absurd rfl h
  · have hT : M3.isT d = false := by
      cases d <;> first | rfl | exact absurd ⟨_, rfl⟩ ht
    have hR : isR d = false := by
      cases d <;> first | rfl | exact absurd ⟨_, rfl⟩ ht
    refine sx_guard true ?_ (fun _ => ?_) (fun h => by cases h)
    · repeat walk_at "m3e"
      rw [hT]
      exact ⟨fun _ => ⟨rfl, rfl⟩, fun h => by cases h⟩
    · repeat walk_at "m3"
      show _ = PyData.bool (isR _)
      rw [hR]
abbrev sp_write_whole (K : PySem.W.Frag) (A : Ad) : Sp := spD K 1 (fun n : Nat => [.int n]) (fun n => n < 10 ^ 64) (fun n r => r = .str (SX.S (TL.numL n))) (fun _ _ => False)
theorem ok_write_whole {P : Program} {w : World} {K : PySem.W.Frag} {mg : Str → Option Value} {base : Heap} {A : Ad} (T : Txt K mg A)  :
    FnG P w K mg base 1 A.f_write_whole A.d_write_whole ["number"] (sp_write_whole K A) := by
  refine fn_data T.F_write_whole sc_write_whole rfl fun cdv A' outer s H E hgd hr => ⟨_, (pss_cons (ps_set (i := 1) sc_write_whole.nd rfl (.inl rfl) (pe_lst pa_nil))
  (pss_cons (ps_while (passes_of rfl) (pt_cmpR op_ge (pv 0) (pe_glob (v := (.int 10000000000000000000000000000000000000000000000000000000000000000)) (by rfl) T.c_CHUNK ⟨_, rfl⟩) (nomark _)) (pss_cons (ps_asg (pe_callB call_divmodW (by rfl) T.z_divmod (by decide +kernel) (pa_cons (pv 0) (pa_cons (pe_glob (v := (.int 10000000000000000000000000000000000000000000000000000000000000000)) (by rfl) T.c_CHUNK ⟨_, rfl⟩) pa_nil))) (pg_tup (by rfl) (pgs_cons (pg_name (i := 0) sc_write_whole.nd rfl (.inl rfl)) (pgs_cons (pg_name (i := 2) sc_write_whole.nd rfl (.inl rfl)) pgs_nil))))
  (pss_one (ps_expr (pe_bm PySem.F.plainAttrs_list PySem.F.slot_list_append PySem.F.type_list_append mt_append (pv 1) (pa_cons (pe_m1 PySem.F.slot_str_zfill PySem.F.type_str_zfill mt_zfill (pe_callTy call_str_int (by rfl) T.z_str (by decide +kernel) (pa_cons (pv 2) pa_nil)) (pe_glob (v := (.int 64)) (by rfl) T.c_CHUNK_DIGITS ⟨_, rfl⟩)) pa_nil))))))
  (pss_cons (ps_expr (pe_bm PySem.F.plainAttrs_list PySem.F.slot_list_append PySem.F.type_list_append mt_append (pv 1) (pa_cons (pe_callTy call_str_int (by rfl) T.z_str (by decide +kernel) (pa_cons (pv 0) pa_nil)) pa_nil)))
  (pss_one (ps_ret (pe_join pe_str (pe_revL (pv 1)))))))), ?_⟩
  intro n hn
  show SX K _ _ [.dat (.int n), .no, .no] _
  dsimp only [bodyK] at *
  refine sx_seq (sx_asgF (fx_lst (ax_nil ⟨[], rfl, by decide, fun p => ?_⟩)))
  dsimp only [List.set_cons_zero, List.set_cons_succ]
  refine sx_seq (sx_while (fun k δ' => δ' = [.dat (.int n), .ml p [], .no]) 0 rfl ?_)
  rintro k δ' rfl
  repeat walk_at "m3e"
  refine ⟨fun h => ?_, fun h => ?_⟩
  · have := of_decide_eq_true h
    omega
  · refine sx_seq (sx_drop (ex_append (i := 1) (ex_CB (ax_cons (ex_var rfl (ax_nil (vx_strI ?_ ⟨_, _, _, rfl, rfl, by decide, ?_⟩)))) ) ⟨_, _, rfl⟩))
    · rw [Int.natAbs_natCast]
      have := log_lt (show Bd 213 (n : Int) from ⟨by rw [Int.natAbs_natCast]; exact Nat.lt_of_lt_of_le hn (by decide)⟩) (by decide)
      rw [Int.natAbs_natCast] at this
      omega
    · dsimp only [List.set_cons_zero, List.set_cons_succ]
      refine sx_ret (ex_join (ex_str ⟨_, rfl, ex_F (p := fun ds δ' => ds = [.str (SX.S (TL.numL n))]) (fx_revL (ex_mvar rfl ⟨_, ?_, .inr ⟨_, _, rfl, rfl⟩⟩)) (fun ds δ' e => ?_)⟩))
      · rw [num_str]
        rfl
      · subst e
        refine ⟨[SX.S (TL.numL n)], rfl, ?_, ?_⟩
        · have := TL.numL_len (k := 64) (by decide) hn
          simp only [List.map_cons, List.map_nil, List.sum_cons, List.sum_nil, SX.S_len, List.length_cons, List.length_nil]
          show _ + 1 * 0 ≤ _
          omega
        · refine ⟨_, rfl, ?_⟩
          have e := SX.join_S [] [TL.numL n]
          exact congrArg PyData.str e
abbrev sp_write_ratio (K : PySem.W.Frag) (A : Ad) : Sp := spD K 1 (fun p : Rat => [dR p]) (fun p => p.num.natAbs < 10 ^ 64 ∧ p.den < 10 ^ 64) (fun p r => r = .str (SX.S (wrL p))) (fun _ _ => False)
theorem ok_write_ratio {P : Program} {w : World} {K : PySem.W.Frag} {mg : Str → Option Value} {base : Heap} {A : Ad} (T : Txt K mg A) (G_write_whole : FnG P w K mg base 1 A.f_write_whole A.d_write_whole ["number"] (sp_write_whole K A)) :
    FnG P w K mg base 2 A.f_write_ratio A.d_write_ratio ["one"] (sp_write_ratio K A) := by
  refine fn_data T.F_write_ratio sc_write_ratio rfl fun cdv A' outer s H E hgd hr => ⟨_, (pss_cons (ps_set (i := 1) sc_write_ratio.nd rfl (.inl rfl) (pe_ifExp (pt_cmpR op_lt (pe_ix ix_tup (pv 0) pe_int (fun _ _ => rfl)) pe_int (nomark _)) pe_str pe_str))
  (pss_cons (ps_set (i := 2) sc_write_ratio.nd rfl (.inl rfl) (pe_ifExp (pt_cmpR (op_eqD hr.units) (pe_ix ix_tup (pv 0) pe_int (fun _ _ => rfl)) pe_int (nomark _)) pe_str (pe_op op_add_str pe_str (pe_G G_write_whole hgd (hr.mono (by decide)) (by rfl) T.g_write_whole T.k_write_whole T.b_write_whole .nil (fun σ => passAt (takes_of rfl rfl rfl rfl) σ) (pa_cons (pe_ix ix_tup (pv 0) pe_int (fun _ _ => rfl)) pa_nil)))))
  (pss_one (ps_ret (pe_op op_add_str (pe_op op_add_str (pv 1) (pe_G G_write_whole hgd (hr.mono (by decide)) (by rfl) T.g_write_whole T.k_write_whole T.b_write_whole .nil (fun σ => passAt (takes_of rfl rfl rfl rfl) σ) (pa_cons (pe_callB call_abs (by rfl) T.z_abs (by decide +kernel) (pa_cons (pe_ix ix_tup (pv 0) pe_int (fun _ _ => rfl)) pa_nil)) pa_nil))) (pv 2)))))), ?_⟩
  intro p hp
  show SX K _ _ [.dat (dR p), .no, .no] _
  dsimp only [bodyK] at *
  have n1 := TL.numL_len (k := 64) (by decide) hp.1
  have n2 := TL.numL_len (k := 64) (by decide) hp.2
  refine sx_cut (fun δ' => δ' = [.dat (dR p), .dat (.str (SX.S (sgn p.num))), .no]) ?_ ?_
  · repeat walk_at "m3"
    refine ⟨fun h => ?_, fun h => ?_⟩
    · refine ex_str ⟨_, rfl, ?_⟩
      unfold sgn
      rw [if_pos (of_decide_eq_true h)]
      rfl
    · refine ex_str ⟨_, rfl, ?_⟩
      unfold sgn
      rw [if_neg (of_decide_eq_false h)]
      rfl
  rintro δ' rfl
  refine sx_cut (fun δ' => δ' = [.dat (dR p), .dat (.str (SX.S (sgn p.num))), .dat (.str (SX.S (if p.den = 1 then [] else 47 :: TL.numL p.den)))]) ?_ ?_
  · repeat walk_at "m3"
    refine ⟨fun h => ?_, fun h => ?_⟩
    · refine ex_str ⟨_, rfl, ?_⟩
      rw [dR_den] at h
      rw [if_pos (of_decide_eq_true h)]
      rfl
    · rw [dR_den] at h
      refine ex_op (ex_str (ex_call (fun _ => .nil) ?_))
      repeat walk_at "m3e"
      refine ⟨[_], p.den, rfl, rfl, rfl, hp.2, fun d hd => ?_, fun C hC => hC.elim⟩
      subst hd
      refine rx_addS ?_ ⟨_, rfl, ?_⟩
      · have := SX.S_len (TL.numL p.den)
        show 1 + _ ≤ _
        omega
      · rw [if_neg (of_decide_eq_false h), str_slash, SX.S_cat]
        rfl
  rintro δ' rfl
  refine sx_ret (ex_op (ex_op (ex_var rfl (ex_call (fun _ => .nil) ?_))))
  repeat walk_at "m3e"
  rw [show (if p.num < 0 then -p.num else p.num) = ((p.num.natAbs : Nat) : Int) by omega]
  refine ⟨[_], p.num.natAbs, rfl, rfl, rfl, hp.1, fun d hd => ?_, fun C hC => hC.elim⟩
  subst hd
  have ls : (sgn p.num).length ≤ 1 := by unfold sgn; split <;> simp
  have ld : (if p.den = 1 then [] else 47 :: TL.numL p.den).length ≤ 65 := by split <;> simp <;> omega
  refine rx_addS (by rw [SX.S_len, SX.S_len]; omega) (ex_var rfl ?_)
  rw [SX.S_cat]
  refine rx_addS (by rw [SX.S_len, SX.S_len, List.length_append]; omega) ⟨_, rfl, ?_⟩
  rw [SX.S_cat]
  rfl
abbrev sp_are_digits (K : PySem.W.Frag) (A : Ad) : Sp := spD K 1 (fun l : List Nat => [.str (SX.S l)]) (fun l => l.length ≤ 1000) (fun l r => r = .bool (isD l)) (fun _ _ => False)
theorem ok_are_digits {P : Program} {w : World} {K : PySem.W.Frag} {mg : Str → Option Value} {base : Heap} {A : Ad} (T : Txt K mg A)  (TB_are_digits : LamX.TabB base mg A.cc_are_digits A.P_are_digits) :
    FnG P w K mg base 1 A.f_are_digits A.d_are_digits ["text"] (sp_are_digits K A) := by
  refine fn_dataC T.F_are_digits sc_are_digits rfl fun cdv hcd A' outer s H E hgd hr => ⟨_, (pss_one (ps_ret (pe_and (pe_chain op_le op_le pe_int (pe_callB call_len_str (by rfl) T.z_len (by decide +kernel) (pa_cons (pv 0) pa_nil)) (pe_glob (v := (.int 30)) (by rfl) T.c_MOST_DIGITS ⟨_, rfl⟩)) (pe_one (pe_allG hr (by rfl) T.z_all TB_are_digits (T.cc_are_digits cdv hcd) (gens_by (by decide +kernel)) (pv 0) (el_inG T.c_DIGITS (by rfl) (by rfl) (by rfl)) (by intro _; rfl)))))), ?_⟩
  intro l hl
  show SX K _ _ [.dat (.str (SX.S l))] _
  have hz : (SX.S l).length = l.length := SX.S_len l
  refine sx_ret (ex_andV (ex_chainI (ex_int ⟨_, rfl, ex_CB (ax_cons (ex_var rfl (ax_nil (vx_lenS (by omega) ⟨_, rfl, fun h => ex_int ⟨_, rfl, _, rfl, fun h2 => ?_, fun h2 => ?_⟩, fun h => ?_⟩))))⟩)))
  · refine ex_allS T.lm_are_digits T.tb_are_digits (ex_var rfl ⟨_, rfl, _, rfl, ?_⟩)
    rw [show (SX.S l).cps.toList = l from rfl]
    unfold isD
    have e1 : decide (1 ≤ l.length) = true := decide_eq_true (by have := of_decide_eq_true h; omega)
    have e2 : decide (l.length ≤ 30) = true := decide_eq_true (by have := of_decide_eq_true h2; omega)
    rw [e1, e2, Bool.true_and, Bool.true_and]
    exact congrArg (fun f => PyData.bool (l.all f)) (funext in_digits)
  · refine ⟨_, rfl, ?_⟩
    unfold isD
    have e2 : decide (l.length ≤ 30) = false := decide_eq_false (by have := of_decide_eq_false h2; omega)
    rw [e2, Bool.and_false, Bool.false_and]
  · refine ⟨_, rfl, fun h => (Bool.false_ne_true h).elim, fun _ => ⟨_, rfl, ?_⟩⟩
    unfold isD
    have e2 : decide (1 ≤ l.length) = false := decide_eq_false (by have := of_decide_eq_false h; omega)
    rw [e2, Bool.false_and, Bool.false_and]
abbrev sp_read_ratio (K : PySem.W.Frag) (A : Ad) : Sp := spD K 1 (fun l : List Nat => [.str (SX.S l)]) (fun l => l.length ≤ 1000) (fun l r => ∃ p : Rat, Small p ∧ l = wrL p ∧ r = dR p) (fun l C => C = .ref A.C_NotNumber ∧ ¬ ∃ p : Rat, Small p ∧ l = wrL p)
theorem ok_read_ratio {P : Program} {w : World} {K : PySem.W.Frag} {mg : Str → Option Value} {base : Heap} {A : Ad} (T : Txt K mg A) (G_ratio : FnG P w K mg base 1 A.f_ratio A.d_ratio ["above", "below"] (sp_ratio K A)) (G_write_ratio : FnG P w K mg base 2 A.f_write_ratio A.d_write_ratio ["one"] (sp_write_ratio K A)) (G_are_digits : FnG P w K mg base 1 A.f_are_digits A.d_are_digits ["text"] (sp_are_digits K A)) :
    FnG P w K mg base 3 A.f_read_ratio A.d_read_ratio ["word"] (sp_read_ratio K A) := by
  refine fn_data T.F_read_ratio sc_read_ratio rfl fun cdv A' outer s H E hgd hr => ⟨_, (pss_cons (ps_asg (pe_partition (pv 0) pe_str) (pg_tup (by rfl) (pgs_cons (pg_name (i := 1) sc_read_ratio.nd rfl (.inl rfl)) (pgs_cons (pg_name (i := 2) sc_read_ratio.nd rfl (.inl rfl)) (pgs_cons (pg_name (i := 3) sc_read_ratio.nd rfl (.inl rfl)) pgs_nil)))))
  (pss_cons (ps_set (i := 4) sc_read_ratio.nd rfl (.inl rfl) (pe_ifExp (pt_tru (pe_m1 PySem.F.slot_str_startswith PySem.F.type_str_startswith mt_startswith (pv 1) pe_str) (by intro _; rfl)) (pe_slice sl_str (pv 1) (po_some pe_int) po_none) (pv 1)))
  (pss_cons (ps_if (PW.pt (pw_or (pt_not (pt_val (pe_G G_are_digits hgd (hr.mono (by decide)) (by rfl) T.g_are_digits T.k_are_digits T.b_are_digits .nil (fun σ => passAt (takes_of rfl rfl rfl rfl) σ) (pa_cons (pv 4) pa_nil)))) (pw_or1 (PW.pt (pw_and (pt_tru (pv 2) (by intro _; rfl)) (pw_and1 (pt_not (pt_val (pe_G G_are_digits hgd (hr.mono (by decide)) (by rfl) T.g_are_digits T.k_are_digits T.b_are_digits .nil (fun σ => passAt (takes_of rfl rfl rfl rfl) σ) (pa_cons (pv 3) pa_nil)))))))))) (pss_one (ps_raise rfl (takes_of rfl rfl rfl rfl) (pmk_own PySem.F.excBase_ValueError T.x_NotNumber T.g_NotNumber T.k_NotNumber (raises_own T.bx_NotNumber T.tx_NotNumber) rfl))) pss_nil)
  (pss_cons (ps_set (i := 5) sc_read_ratio.nd rfl (.inl rfl) (pe_G G_ratio hgd (hr.mono (by decide)) (by rfl) T.g_ratio T.k_ratio T.b_ratio .nil (fun σ => passAt (takes_of rfl rfl rfl rfl) σ) (pa_cons (pe_callTy call_int_str (by rfl) T.z_int (by decide +kernel) (pa_cons (pv 1) pa_nil)) (pa_cons (pe_ifExp (pt_tru (pv 2) (by intro _; rfl)) (pe_callTy call_int_str (by rfl) T.z_int (by decide +kernel) (pa_cons (pv 3) pa_nil)) pe_int) pa_nil))))
  (pss_cons (ps_if (pt_cmpR op_ne (pe_G G_write_ratio hgd (hr.mono (by decide)) (by rfl) T.g_write_ratio T.k_write_ratio T.b_write_ratio .nil (fun σ => passAt (takes_of rfl rfl rfl rfl) σ) (pa_cons (pv 5) pa_nil)) (pv 0) (nomark _)) (pss_one (ps_raise rfl (takes_of rfl rfl rfl rfl) (pmk_own PySem.F.excBase_ValueError T.x_NotNumber T.g_NotNumber T.k_NotNumber (raises_own T.bx_NotNumber T.tx_NotNumber) rfl))) pss_nil)
  (pss_one (ps_ret (pv 5)))))))), ?_⟩
  intro l hl
  show SX K _ _ [.dat (.str (SX.S l)), .no, .no, .no, .no, .no] _
  dsimp only [bodyK] at *
  refine sx_cut (fun δ' => ∃ a s b : List Nat, Cut l a s b ∧ δ' = [.dat (.str (SX.S l)), .dat (.str (SX.S a)), .dat (.str (SX.S s)), .dat (.str (SX.S b)), .no, .no]) ?_ ?_
  · refine sx_unpack (n := 3) (is := [1, 2, 3]) (ex_partition (ex_var rfl ⟨_, rfl, ex_str ⟨_, rfl, rfl, ?_, ?_⟩⟩)) rfl
    · rw [SX.S_len]; omega
    · obtain ⟨a, s, b, hc, e⟩ := cut_all l
      rw [e]
      exact ⟨_, rfl, rfl, a, s, b, hc, rfl⟩
  rintro δ' ⟨a, s, b, hc, rfl⟩
  have la := hc.len_a
  have lb := hc.len_b
  refine sx_cut (fun δ' => δ' = [.dat (.str (SX.S l)), .dat (.str (SX.S a)), .dat (.str (SX.S s)), .dat (.str (SX.S b)), .dat (.str (SX.S (bare a))), .no]) ?_ ?_
  · refine sx_asg (ex_if (tx_tru (ex_starts (ex_var rfl ⟨_, rfl, ex_str ⟨_, rfl, _, _, rfl, rfl, ?_⟩⟩))))
    rw [starts45]
    unfold bare
    refine ⟨fun h => ?_, fun h => ?_⟩
    · rw [if_pos (of_decide_eq_true h)]
      refine ex_slS (ex_var rfl (ox_some (ex_int ⟨_, rfl, ox_none ⟨_, rfl, ?_, ?_⟩⟩)))
      · rw [SX.S_len]; omega
      · rw [SX.slice_from (by decide)]
        exact ⟨_, rfl, by rw [show a.drop (1 : Int).toNat = a.tail from List.drop_one]; rfl⟩
    · rw [if_neg (of_decide_eq_false h)]
      exact ex_var rfl ⟨_, rfl, rfl⟩
  rintro δ' rfl
  have lba : (bare a).length ≤ a.length := by unfold bare; split <;> simp
  -- the test of digits
  refine sx_guard (!(isD (bare a) && (decide (s = []) || isD b))) ?_ (fun h => ?_) (fun h => ?_)
  · refine tx_or (tx_not (tx_B (ex_call (fun _ => .nil) ?_)))
    repeat walk_at "m3e"
    refine ⟨[_], bare a, rfl, rfl, rfl, by show (bare a).length ≤ 1000; omega, fun d hd => ⟨_, congrArg Vw.d hd, fun h => ?_, fun h => ?_⟩, fun C hC => hC.elim⟩
    · rw [Bool.not_eq_true'] at h
      rw [h, Bool.false_and]
      exact ⟨rfl, rfl⟩
    · rw [Bool.not_eq_false'] at h
      rw [h, Bool.true_and]
      refine tx_and (tx_tru (ex_var rfl ⟨_, _, rfl, tru_S hc.len_s, fun h2 => ?_, fun h2 => ?_⟩))
      · have hs : decide (s = []) = false := tru_s.mp h2
        refine tx_not (tx_B (ex_call (fun _ => .nil) ?_))
        repeat walk_at "m3e"
        refine ⟨[_], b, rfl, rfl, rfl, by show b.length ≤ 1000; omega, fun d hd => ⟨_, congrArg Vw.d hd, ?_⟩, fun C hC => hC.elim⟩
        rw [hs, Bool.false_or]
        exact ⟨rfl, rfl⟩
      · have hs : decide (s = []) = true := tru_e.mp h2
        rw [hs]
        exact ⟨rfl, rfl⟩
  · refine sx_raise ⟨rfl, fun ⟨p, hp, e⟩ => ?_⟩
    obtain ⟨h1, h2⟩ := hc.good hp e
    rw [h1, h2] at h
    cases h
  obtain ⟨h1, h2⟩ : isD (bare a) = true ∧ (s = [] ∨ isD b = true) := by
    rw [Bool.not_eq_false', Bool.and_eq_true, Bool.or_eq_true, decide_eq_true_eq] at h
    exact h
  obtain ⟨i1, i2⟩ := int_bare h1
  have v30 := valI_lt h1
  have r30 : (rdN s b).natAbs < 10 ^ 30 := rdN_lt h2
  have q1 : Bd 9000 (valI a) := (bd30 v30).mono (by decide)
  have q2 : Bd 9000 (rdN s b) := (bd30 r30).mono (by decide)
  refine sx_cut (fun δ' => rdN s b ≠ 0 ∧ δ' = [.dat (.str (SX.S l)), .dat (.str (SX.S a)), .dat (.str (SX.S s)), .dat (.str (SX.S b)), .dat (.str (SX.S (bare a))), .dat (dR (Rat.divInt (valI a) (rdN s b)))]) ?_ ?_
  · have fin : ∀ t, t = rdN s b → SX.S s = SX.S s → True := fun _ _ _ => trivial
    refine sx_asg (ex_call (fun _ => .nil) ?_)
    refine ax_cons (ex_CB (ax_cons (ex_var rfl (ax_nil (vx_intS i1 i2 ?_)))))
    refine ax_cons (ex_if (tx_tru (ex_var rfl ⟨_, _, rfl, tru_S hc.len_s, fun h3 => ?_, fun h3 => ?_⟩)))
    · have hs : s ≠ [] := of_decide_eq_false (tru_s.mp h3)
      have hb : isD b = true := h2.resolve_left hs
      obtain ⟨b1, b2, b3⟩ := isD_iff.mp hb
      refine ex_CB (ax_cons (ex_var rfl (ax_nil (vx_intS (intText_digits (x := SX.S b) b3 (List.length_pos_iff.mp b1) (by rw [SX.S_len]; omega)) (by rw [SX.S_len]; omega) ?_))))
      rw [show ((NumText.digitsVal (SX.S b).cps.toList : Nat) : Int) = rdN s b by unfold rdN; rw [if_neg hs]]
      refine ax_nil ⟨[_, _], (valI a, rdN s b), rfl, rfl, rfl, ⟨q1, q2⟩, fun d hd => ⟨d, rfl, hd.1, by rw [hd.2]; rfl⟩, fun C hC => ⟨hC.2, fun ⟨p, hp, e⟩ => ?_⟩⟩
      exact absurd ((hc.read e).2.symm.trans hC.1) (den_ne p)
    · have hs : s = [] := of_decide_eq_true (tru_e.mp h3)
      refine ex_int ?_
      have e1 : (1 : Int) = rdN s b := by unfold rdN; rw [if_pos hs]
      rw [e1]
      refine ax_nil ⟨[_, _], (valI a, rdN s b), rfl, rfl, rfl, ⟨q1, q2⟩, fun d hd => ⟨d, rfl, hd.1, by rw [hd.2]; rfl⟩, fun C hC => ⟨hC.2, fun ⟨p, hp, e⟩ => ?_⟩⟩
      exact absurd ((hc.read e).2.symm.trans hC.1) (den_ne p)
  rintro δ' ⟨hn, rfl⟩
  have sm := small_div hn v30 r30
  generalize hq : Rat.divInt (valI a) (rdN s b) = q at sm
  have back : ∀ p, l = wrL p → q = p := fun p e => by
    obtain ⟨e1, e2⟩ := hc.read e
    rw [← hq, e1, e2]
    exact num_divInt_den p
  refine sx_guard (!decide (wrL q = l)) ?_ (fun h => ?_) (fun h => ?_)
  · refine tx_test (ex_op (ex_call (fun _ => .nil) ?_))
    repeat walk_at "m3e"
    refine ⟨[_], q, rfl, rfl, rfl, ⟨Nat.lt_of_lt_of_le sm.1 (by decide), Nat.lt_of_lt_of_le sm.2 (by decide)⟩, fun d hd => ?_, fun C hC => hC.elim⟩
    subst hd
    refine ex_var rfl (rx_neS ⟨_, rfl, ?_, rfl⟩)
    exact congrArg (fun z => !z) (decide_eq_decide.mpr ⟨SX.S_inj, fun e => by rw [e]⟩)
  · refine sx_raise ⟨rfl, fun ⟨p, hp, e⟩ => ?_⟩
    rw [back p e, e] at h
    simp at h
  · refine sx_ret (ex_var rfl ⟨_, rfl, q, sm, ?_, rfl⟩)
    rw [Bool.not_eq_false', decide_eq_true_eq] at h
    exact h.symm
abbrev sp__law_draws (K : PySem.W.Frag) (A : Ad) : Sp := spF K 1 (fun ns : List Int => [.list (ns.map .int)]) (fun ns => ns.length ≤ 63) (fun _ ds => Drw ds)
theorem ok__law_draws {P : Program} {w : World} {K : PySem.W.Frag} {mg : Str → Option Value} {base : Heap} {A : Ad} (T : Txt K mg A)  :
    FnG P w K mg base 1 A.f__law_draws A.d__law_draws ["script"] (sp__law_draws K A) := by
  refine fn_fresh T.F__law_draws sc__law_draws rfl fun cdv A' outer s H E hgd hr => ⟨_, (pss_cons (ps_set (i := 1) sc__law_draws.nd rfl (.inl rfl) (pe_lst pa_nil))
  (pss_cons (ps_for (passes_of rfl) rfl (pi_list (pv 0)) (pg_name (i := 2) sc__law_draws.nd rfl (.inl rfl)) (pss_cons (ps_set (i := 3) sc__law_draws.nd rfl (.inl rfl) (pe_callB call_abs (by rfl) T.z_abs (by decide +kernel) (pa_cons (pv 2) pa_nil)))
  (pss_cons (ps_if (pt_cmpR op_lt (pv 3) (pe_op op_pow pe_int pe_int) (nomark _)) (pss_cons (ps_set (i := 4) sc__law_draws.nd rfl (.inl rfl) (pe_op op_modN (pe_callTy call_int1 (by rfl) T.z_int (by decide +kernel) (pa_cons (pe_op op_add (pe_op op_mulA (pv 3) pe_int) pe_int) pa_nil)) pe_int))
  (pss_cons (ps_expr (pe_bm PySem.F.plainAttrs_list PySem.F.slot_list_append PySem.F.type_list_append mt_append (pv 1) (pa_cons (pe_op op_modN (pe_callTy call_int1 (by rfl) T.z_int (by decide +kernel) (pa_cons (pe_op op_add (pe_op op_mulA (pv 4) pe_int) (pv 3)) pa_nil)) pe_int) pa_nil)))
  (pss_cons (ps_expr (pe_bm PySem.F.plainAttrs_list PySem.F.slot_list_append PySem.F.type_list_append mt_append (pv 1) (pa_cons (pe_op op_modN (pe_callTy call_int1 (by rfl) T.z_int (by decide +kernel) (pa_cons (pe_op op_add (pv 4) (pe_op op_fdX (pv 3) pe_int)) pa_nil)) pe_int) pa_nil)))
  (pss_one (ps_set (i := 3) sc__law_draws.nd rfl (.inl rfl) pe_int))))) pss_nil)
  (pss_one (ps_for (passes_of rfl) rfl (pi_range1 (by rfl) T.z_range (pa_cons pe_int pa_nil)) (pg_name (i := 5) sc__law_draws.nd rfl (.inl rfl)) (pss_one (ps_if (pt_cmpR op_gt (pv 3) pe_int (nomark _)) (pss_cons (ps_expr (pe_bm PySem.F.plainAttrs_list PySem.F.slot_list_append PySem.F.type_list_append mt_append (pv 1) (pa_cons (pe_op op_modN (pe_callTy call_int1 (by rfl) T.z_int (by decide +kernel) (pa_cons (pv 3) pa_nil)) pe_int) pa_nil)))
  (pss_one (ps_set (i := 3) sc__law_draws.nd rfl (.inl rfl) (pe_op op_fdX (pv 3) pe_int)))) pss_nil)))))))
  (pss_cons (ps_set (i := 6) sc__law_draws.nd rfl (.inl rfl) pe_int)
  (pss_cons (ps_if (pt_cmpR op_gt (pe_callB call_len_seq (by rfl) T.z_len (by decide +kernel) (pa_cons (pv 0) pa_nil)) pe_int (nomark _)) (pss_one (ps_set (i := 6) sc__law_draws.nd rfl (.inl rfl) (pe_op op_add pe_int (pe_callB call_abs (by rfl) T.z_abs (by decide +kernel) (pa_cons (pe_ix ix_list (pv 0) pe_int (fun _ _ => rfl)) pa_nil))))) pss_nil)
  (pss_cons (ps_for (passes_of rfl) rfl (pi_range1 (by rfl) T.z_range (pa_cons pe_int pa_nil)) (pg_name (i := 5) sc__law_draws.nd rfl (.inl rfl)) (pss_cons (ps_set (i := 6) sc__law_draws.nd rfl (.inl rfl) (pe_op op_modN (pe_callTy call_int1 (by rfl) T.z_int (by decide +kernel) (pa_cons (pe_op op_add (pe_op op_mulA (pv 6) pe_int) pe_int) pa_nil)) pe_int))
  (pss_one (ps_expr (pe_bm PySem.F.plainAttrs_list PySem.F.slot_list_append PySem.F.type_list_append mt_append (pv 1) (pa_cons (pe_op op_fdX (pv 6) pe_int) pa_nil))))))
  (pss_one (ps_ret (pe_listRev rfl (by rfl) T.z_list (by rfl) T.z_reversed (pv 1))))))))), ?_⟩
  intro ns hl
  show SX K _ _ [.dat (.list (ns.map .int)), .no, .no, .no, .no, .no, .no] _
  dsimp only [bodyK] at *
  refine sx_seq (sx_asgF (fx_lst (ax_nil ⟨[], rfl, by decide, fun p => ?_⟩)))
  dsimp only [List.set_cons_zero, List.set_cons_succ]
  -- for cell in script
  refine sx_cut (fun δ' => ∃ (L : List Int) (a b c d e : Sl), (∀ x ∈ L, 0 ≤ x ∧ x < 2147483648) ∧ L.length ≤ 5000 ∧ δ' = [.dat (.list (ns.map .int)), .ml p (L.map .int), a, b, c, d, e]) ?_ ?_
  · refine sx_forL tg_name (fun ds k δ' => ∃ (L : List Int) (a b c d e : Sl), (∀ x ∈ L, 0 ≤ x ∧ x < 2147483648) ∧ L.length ≤ 62 * k ∧ δ' = [.dat (.list (ns.map .int)), .ml p (L.map .int), a, b, c, d, e]) ?_
    refine ex_var rfl ⟨_, rfl, ⟨[], .no, .no, .no, .no, .no, (fun _ h => nomatch h), by simp, rfl⟩, ?_, ?_⟩
    · rintro k x δ' hk ⟨L, a, b, c, d, e, hL, hn, rfl⟩
      obtain ⟨i, hi⟩ : ∃ i, x = .int i := by
        rw [List.getElem?_map] at hk
        cases hn : ns[k]? with
        | none => rw [hn] at hk; cases hk
        | some i => rw [hn] at hk; exact ⟨i, (Option.some.inj hk).symm⟩
      subst hi
      have hkl : k < ns.length := by
        have := (List.getElem?_eq_some_iff.mp hk).1
        simpa using this
      refine ⟨trivial, ?_⟩
      dsimp only [List.set_cons_zero, List.set_cons_succ]
      refine sx_seq (sx_asg ?_)
      repeat walk_at "m3e"
      dsimp only [List.set_cons_zero, List.set_cons_succ]
      generalize hz : (if i < 0 then -i else i) = z
      have z0 : 0 ≤ z := by omega
      refine sx_cut (fun δ' => ∃ (L : List Int) (y : Int) (c d e : Sl), (∀ x ∈ L, 0 ≤ x ∧ x < 2147483648) ∧ L.length ≤ 62 * k + 2 ∧ 0 ≤ y ∧ δ' = [.dat (.list (ns.map .int)), .ml p (L.map .int), .dat (.int i), .dat (.int y), c, d, e]) ?_ ?_
      · refine sx_if ?_
        repeat walk_at "m3e"
        refine rx_Ci ⟨by decide, by decide, by decide⟩ ?_
        repeat walk_at "m3e"
        refine ⟨fun h => ?_, fun h => ?_⟩
        · repeat walk_at "m3"
          refine rx_Ci (mulS (by decide) (by decide)) ?_
          repeat walk_at "m3"
          refine rx_Ci (by decide) ?_
          repeat walk_at "m3e"
          dsimp only [List.set_cons_zero, List.set_cons_succ]
          generalize hy : (z * 48271 + 11).fmod 2147483647 = y
          have y1 : 0 ≤ y ∧ y < 2147483647 := hy ▸ fmod_in (by decide)
          refine sx_seq (sx_drop (ex_append (i := 1) ?_ ⟨_, _, rfl⟩))
          repeat walk_at "m3"
          refine rx_Ci (mulS (by decide) (by decide)) ?_
          repeat walk_at "m3"
          refine rx_Ci (by decide) ?_
          refine ⟨_, p, _, rfl, rfl, by rw [List.length_map]; omega, ?_⟩
          dsimp only [List.set_cons_zero, List.set_cons_succ]
          have y2 := fmod_in (i := y * 69621 + z) (j := 2147483629) (by decide)
          have y3 := fmod_in (i := y + z.fdiv 7) (j := 1000003) (by decide)
          refine sx_seq (sx_drop (ex_append (i := 1) ?_ ⟨_, _, rfl⟩))
          repeat walk_at "m3"
          refine rx_Ci ⟨by decide, by decide⟩ ?_
          repeat walk_at "m3"
          refine rx_Ci (by decide) ?_
          refine ⟨_, p, _, rfl, rfl, by simp; omega, ?_⟩
          dsimp only [List.set_cons_zero, List.set_cons_succ]
          rw [map_snoc, map_snoc]
          repeat walk_at "m3"
          refine ⟨L ++ [_] ++ [_], 0, _, d, e, in_snoc (in_snoc hL ⟨y2.1, by omega⟩) ⟨y3.1, by omega⟩, by simp; omega, by decide, rfl⟩
        · repeat walk_at "m3"
          exact ⟨L, z, c, d, e, hL, by omega, z0, rfl⟩
      · rintro δ' ⟨L, y, c, d, e, hL, hn, hy, rfl⟩
        refine sx_forR1 tg_name (fun j δ' => ∃ (L : List Int) (y : Int) (c d e : Sl), (∀ x ∈ L, 0 ≤ x ∧ x < 2147483648) ∧ L.length ≤ 62 * k + 2 + j ∧ 0 ≤ y ∧ δ' = [.dat (.list (ns.map .int)), .ml p (L.map .int), .dat (.int i), .dat (.int y), c, d, e]) ?_
        repeat walk_at "m3"
        refine ⟨by decide, ⟨L, y, c, d, e, hL, by omega, hy, rfl⟩, ?_, ?_⟩
        · rintro j x δ' hj ⟨L, y, c, d, e, hL, hn, hy, rfl⟩
          obtain ⟨hj2, rfl⟩ := rangeD_at hj
          refine ⟨trivial, ?_⟩
          dsimp only [List.set_cons_zero, List.set_cons_succ]
          refine sx_if ?_
          repeat walk_at "m3"
          refine ⟨fun h => ?_, fun h => ?_⟩
          · refine sx_seq (sx_drop (ex_append (i := 1) ?_ ⟨_, _, rfl⟩))
            repeat walk_at "m3"
            refine rx_Ci (by decide) ?_
            refine ⟨_, p, _, rfl, rfl, by rw [List.length_map]; omega, ?_⟩
            dsimp only [List.set_cons_zero, List.set_cons_succ]
            rw [map_snoc]
            have y1 := fmod_in (i := y) (j := 997) (by decide)
            repeat walk_at "m3"
            refine rx_Ci ⟨by decide, by decide⟩ ⟨_, rfl, ?_⟩
            dsimp only [List.set_cons_zero, List.set_cons_succ]
            refine ⟨L ++ [_], _, c, _, e, in_snoc hL ⟨y1.1, by omega⟩, by simp; omega, ?_, rfl⟩
            exact Int.fdiv_nonneg hy (by decide)
          · repeat walk_at "m3"
            exact ⟨L, y, c, _, e, hL, by omega, hy, rfl⟩
        · rintro δ' ⟨L, y, c, d, e, hL, hn, hy, rfl⟩
          have e60 : (rangeD 0 (60 : Int).toNat).length = 60 := by simp [rangeD]
          rw [e60] at hn
          exact ⟨L, _, _, c, d, e, hL, by omega, rfl⟩
    · rintro δ' ⟨L, a, b, c, d, e, hL, hn, rfl⟩
      exact ⟨L, a, b, c, d, e, hL, by rw [List.length_map] at hn; omega, rfl⟩
  · rintro δ' ⟨L, a, b, c, d, e, hL, hn, rfl⟩
    refine sx_seq (sx_asg ?_)
    repeat walk_at "m3e"
    dsimp only [List.set_cons_zero, List.set_cons_succ]
    refine sx_cut (fun δ' => ∃ (y : Int), δ' = [.dat (.list (ns.map .int)), .ml p (L.map .int), a, b, c, d, .dat (.int y)]) ?_ ?_
    · refine sx_if ?_
      repeat walk_at "m3"
      refine ⟨fun h => ?_, fun h => ?_⟩
      · have h1 : 0 < ns.length := by have := of_decide_eq_true h; simp at this; omega
        obtain ⟨n0, r, rfl⟩ : ∃ n0 r, ns = n0 :: r := by
          cases ns with
          | nil => cases h1
          | cons n0 r => exact ⟨n0, r, rfl⟩
        repeat walk_at "m3"
        refine rx_ixL (atI_nat (j := 0) rfl) ?_
        repeat walk_at "m3"
        exact ⟨_, rfl⟩
      · repeat walk_at "m3"
        exact ⟨_, rfl⟩
    · rintro δ' ⟨y, rfl⟩
      refine sx_cut (fun δ' => ∃ (L : List Int) (d e : Sl), (∀ x ∈ L, 0 ≤ x ∧ x < 2147483648) ∧ δ' = [.dat (.list (ns.map .int)), .ml p (L.map .int), a, b, c, d, e]) ?_ ?_
      · refine sx_forR1 tg_name (fun j δ' => ∃ (L : List Int) (y : Int) (d : Sl), (∀ x ∈ L, 0 ≤ x ∧ x < 2147483648) ∧ L.length ≤ 5000 + j ∧ δ' = [.dat (.list (ns.map .int)), .ml p (L.map .int), a, b, c, d, .dat (.int y)]) ?_
        repeat walk_at "m3"
        refine ⟨by decide, ⟨L, y, d, hL, by omega, rfl⟩, ?_, ?_⟩
        · rintro j x δ' hj ⟨L, y, d, hL, hn, rfl⟩
          obtain ⟨hj2, rfl⟩ := rangeD_at hj
          refine ⟨trivial, ?_⟩
          dsimp only [List.set_cons_zero, List.set_cons_succ]
          repeat walk_at "m3"
          refine rx_Ci (mulS (by decide) (by decide)) ?_
          repeat walk_at "m3"
          refine rx_Ci (by decide) ⟨_, rfl, ?_⟩
          dsimp only [List.set_cons_zero, List.set_cons_succ]
          generalize hy : (y * 48271 + 69621).fmod 2147483647 = z
          have z1 : 0 ≤ z ∧ z < 2147483647 := hy ▸ fmod_in (by decide)
          refine sx_drop (ex_append (i := 1) ?_ ⟨_, _, rfl⟩)
          repeat walk_at "m3"
          refine rx_Ci ⟨by decide, by decide⟩ ?_
          have hj3 : j < 900 := hj2
          refine ⟨_, p, _, rfl, rfl, by rw [List.length_map]; omega, ?_⟩
          dsimp only [List.set_cons_zero, List.set_cons_succ]
          rw [map_snoc]
          refine ⟨L ++ [_], _, _, in_snoc hL ⟨?_, ?_⟩, by simp; omega, rfl⟩
          · exact Int.fdiv_nonneg z1.1 (by decide)
          · rw [Int.fdiv_eq_ediv_of_nonneg _ (by decide)]
            omega
        · rintro δ' ⟨L, y, d, hL, _, rfl⟩
          exact ⟨L, d, _, hL, rfl⟩
      · rintro δ' ⟨L, d, e, hL, rfl⟩
        refine sx_retF 0 (by simp) (fx_listRev (ex_mvar rfl ⟨_, fun q => ?_, .inr ⟨1, p, rfl, rfl⟩⟩))
        exact ⟨0, q, _, rfl, rfl, L.reverse, by rw [List.map_reverse], fun x hx => hL x (List.mem_reverse.mp hx)⟩
abbrev sp__law_take (K : PySem.W.Frag) (A : Ad) : Sp := spM K 1 (fun b : Int => [.int b]) (fun es b => Drw es ∧ 0 < b) (fun _ b d fs => Drw fs ∧ ∃ r : Int, d = .int r ∧ 0 ≤ r ∧ r < b)
theorem ok__law_take {P : Program} {w : World} {K : PySem.W.Frag} {mg : Str → Option Value} {base : Heap} {A : Ad} (T : Txt K mg A)  :
    FnG P w K mg base 1 A.f__law_take A.d__law_take ["draws", "bound"] (sp__law_take K A) := by
  refine fn_mut T.F__law_take sc__law_take rfl fun cdv A' outer s H E hgd hr => ⟨_, (pss_cons (ps_if (pt_cmpR (op_eqD hr.units) (pe_callB call_len_seq (by rfl) T.z_len (by decide +kernel) (pa_cons (pv 0) pa_nil)) pe_int (nomark _)) (pss_one (ps_ret pe_int)) pss_nil)
  (pss_one (ps_ret (pe_op op_modN (pe_callTy call_int1 (by rfl) T.z_int (by decide +kernel) (pa_cons (pe_bm0 PySem.F.plainAttrs_list PySem.F.slot_list_pop PySem.F.type_list_pop mt_pop (pv 0)) pa_nil)) (pv 1))))), ?_⟩
  rintro p es b ⟨⟨L, rfl, hL⟩, hb⟩
  show SX K _ _ [.ml p (L.map .int), .dat (.int b)] _
  dsimp only [bodyK] at *
  refine sx_guard (decide (L.length = 0)) ?_ (fun h => ?_) (fun h => ?_)
  · refine tx_test (ex_op (ex_CB (ax_cons (ex_mvar rfl (ax_nil (vx_lenM rfl ?_))))))
    repeat walk_at "m3"
    refine ⟨?_, rfl⟩
    rw [eqv_int, List.length_map]
    by_cases c : L.length = 0
    · simp [c]
    · have : ¬ (L.length : Int) = 0 := by omega
      simp [c]
  · repeat walk_at "m3"
    exact ⟨_, _, rfl, rfl, ⟨L, rfl, hL⟩, 0, rfl, by decide, hb⟩
  · have h0 : L ≠ [] := fun z => of_decide_eq_false h (by rw [z]; rfl)
    have eL := (List.dropLast_concat_getLast h0).symm
    generalize L.dropLast = M at eL
    generalize L.getLast h0 = y at eL
    clear h h0
    subst eL
    refine sx_ret (ex_op (ex_CB (ax_cons (ex_pop (i := 0) (p := p) (ds := M.map .int) (d := .int y) ?_ ?_))))
    · simp
    · dsimp only [List.set_cons_zero, List.set_cons_succ]
      repeat walk_at "m3"
      refine rx_Ci (by omega) ?_
      have z := fmod_in (i := y) hb
      exact ⟨_, _, rfl, rfl, ⟨M, rfl, fun x hx => hL x (List.mem_append_left _ hx)⟩, _, rfl, z.1, z.2⟩
abbrev sp__law_ratio (K : PySem.W.Frag) (A : Ad) : Sp := spM K 0 (fun _ : Unit => []) (fun es _ => Drw es) (fun _ _ d fs => Drw fs ∧ ∃ q : Rat, d = dR q ∧ Sz 62 q)
theorem ok__law_ratio {P : Program} {w : World} {K : PySem.W.Frag} {mg : Str → Option Value} {base : Heap} {A : Ad} (T : Txt K mg A) (G__law_take : FnG P w K mg base 1 A.f__law_take A.d__law_take ["draws", "bound"] (sp__law_take K A)) (G_ratio : FnG P w K mg base 1 A.f_ratio A.d_ratio ["above", "below"] (sp_ratio K A)) :
    FnG P w K mg base 2 A.f__law_ratio A.d__law_ratio ["draws"] (sp__law_ratio K A) := by
  refine fn_mut T.F__law_ratio sc__law_ratio rfl fun cdv A' outer s H E hgd hr => ⟨_, (pss_cons (ps_set (i := 1) sc__law_ratio.nd rfl (.inl rfl) (pe_G G__law_take hgd (hr.mono (by decide)) (by rfl) T.g__law_take T.k__law_take T.b__law_take .nil (fun σ => passAt (takes_of rfl rfl rfl rfl) σ) (pa_cons (pv 0) (pa_cons pe_int pa_nil))))
  (pss_cons (ps_if (pt_cmpR op_lt (pv 1) pe_int (nomark _)) (pss_one (ps_ret (pe_G G_ratio hgd (hr.mono (by decide)) (by rfl) T.g_ratio T.k_ratio T.bd_ratio T.vd_ratio (fun σ => passAt (takes_of rfl rfl rfl rfl) σ) (pa_cons (pe_op op_sub (pe_G G__law_take hgd (hr.mono (by decide)) (by rfl) T.g__law_take T.k__law_take T.b__law_take .nil (fun σ => passAt (takes_of rfl rfl rfl rfl) σ) (pa_cons (pv 0) (pa_cons pe_int pa_nil))) pe_int) pa_nil)))) pss_nil)
  (pss_cons (ps_if (pt_cmpR (op_eqD hr.units) (pv 1) pe_int (nomark _)) (pss_one (ps_ret (pe_G G_ratio hgd (hr.mono (by decide)) (by rfl) T.g_ratio T.k_ratio T.b_ratio .nil (fun σ => passAt (takes_of rfl rfl rfl rfl) σ) (pa_cons (pe_op op_sub (pe_op op_pow (pe_op op_add (pe_G G__law_take hgd (hr.mono (by decide)) (by rfl) T.g__law_take T.k__law_take T.b__law_take .nil (fun σ => passAt (takes_of rfl rfl rfl rfl) σ) (pa_cons (pv 0) (pa_cons pe_int pa_nil))) pe_int) pe_int) (pe_G G__law_take hgd (hr.mono (by decide)) (by rfl) T.g__law_take T.k__law_take T.b__law_take .nil (fun σ => passAt (takes_of rfl rfl rfl rfl) σ) (pa_cons (pv 0) (pa_cons pe_int pa_nil)))) (pa_cons (pe_op op_add (pe_G G__law_take hgd (hr.mono (by decide)) (by rfl) T.g__law_take T.k__law_take T.b__law_take .nil (fun σ => passAt (takes_of rfl rfl rfl rfl) σ) (pa_cons (pv 0) (pa_cons pe_int pa_nil))) pe_int) pa_nil))))) pss_nil)
  (pss_one (ps_ret (pe_G G_ratio hgd (hr.mono (by decide)) (by rfl) T.g_ratio T.k_ratio T.b_ratio .nil (fun σ => passAt (takes_of rfl rfl rfl rfl) σ) (pa_cons (pe_op op_sub (pe_G G__law_take hgd (hr.mono (by decide)) (by rfl) T.g__law_take T.k__law_take T.b__law_take .nil (fun σ => passAt (takes_of rfl rfl rfl rfl) σ) (pa_cons (pv 0) (pa_cons pe_int pa_nil))) pe_int) (pa_cons (pe_op op_add pe_int (pe_G G__law_take hgd (hr.mono (by decide)) (by rfl) T.g__law_take T.k__law_take T.b__law_take .nil (fun σ => passAt (takes_of rfl rfl rfl rfl) σ) (pa_cons (pv 0) (pa_cons pe_int pa_nil)))) pa_nil)))))))), ?_⟩
  rintro p es ⟨⟩ hd
  show SX K _ _ [.ml p es, .no] _
  dsimp only [bodyK] at *
  refine sx_seq (sx_asg ?_)
  refine ex_callM (ax_cons (ex_mvar rfl (ax_cons (ex_int (ax_nil ⟨_, p, _, rfl, rfl, rfl, ⟨hd, by decide⟩, fun d fs h => ?_⟩)))))
  obtain ⟨hd, i, rfl, i0, i1⟩ := h
  refine ⟨_, rfl, ?_⟩
  dsimp only [List.set_cons_zero, List.set_cons_succ]
  refine sx_guard (decide (i < 5)) ?_ (fun c => ?_) (fun c => ?_)
  · repeat walk_at "m3"
    exact ⟨rfl, rfl⟩
  · refine sx_ret (ex_call (dds := [.int 1]) (fun _ => .cons (.int 1) .nil) (ax_cons (ex_op ?_)))
    refine ex_callM (ax_cons (ex_mvar rfl (ax_cons (ex_int (ax_nil ⟨_, p, _, rfl, rfl, rfl, ⟨hd, by decide⟩, fun d fs h => ?_⟩)))))
    obtain ⟨hd, r, rfl, r0, r1⟩ := h
    repeat walk_at "m3"
    have b1 : Bd 9 (r - 3) := ⟨by omega⟩
    have b2 : Bd 9 (1 : Int) := ⟨by decide⟩
    refine ⟨[_], (r - 3, 1), rfl, rfl, rfl, ⟨b1.mono (by decide), b2.mono (by decide)⟩, fun d hd2 => ?_, fun C hC => ?_⟩
    · obtain ⟨_, rfl⟩ := hd2
      exact ⟨_, _, rfl, rfl, hd, _, rfl, (sz_divInt b1 b2 (by decide)).mono (by decide)⟩
    · exact absurd hC.1 Int.one_ne_zero
  · refine sx_guard (decide (i = 11)) ?_ (fun c => ?_) (fun c => ?_)
    · repeat walk_at "m3"
      exact ⟨by rw [eqv_int]; rfl, rfl⟩
    · refine sx_ret (ex_call (fun _ => .nil) (ax_cons (ex_op (ex_op (ex_op ?_)))))
      refine ex_callM (ax_cons (ex_mvar rfl (ax_cons (ex_int (ax_nil ⟨_, p, _, rfl, rfl, rfl, ⟨hd, by decide⟩, fun d fs h => ?_⟩)))))
      obtain ⟨hd, r, rfl, r0, r1⟩ := h
      repeat walk_at "m3"
      refine rx_Ci ⟨by decide, by decide, by omega⟩ ?_
      refine ex_callM (ax_cons (ex_mvar rfl (ax_cons (ex_int (ax_nil ⟨_, p, _, rfl, rfl, rfl, ⟨hd, by decide⟩, fun d fs h => ?_⟩)))))
      obtain ⟨hd, s, rfl, s0, s1⟩ := h
      repeat walk_at "m3"
      refine ex_callM (ax_cons (ex_mvar rfl (ax_cons (ex_int (ax_nil ⟨_, p, _, rfl, rfl, rfl, ⟨hd, by decide⟩, fun d fs h => ?_⟩)))))
      obtain ⟨hd, u, rfl, u0, u1⟩ := h
      repeat walk_at "m3"
      have b1 : Bd 61 ((r + 1) ^ (3 : Int).toNat - s) := by
        have e : (r + 1) ^ (3 : Int).toNat = (r + 1) * (r + 1) * (r + 1) := by
          show (r + 1) ^ 3 = _
          grind
        rw [e]
        refine ⟨?_⟩
        have h1 : (r + 1) * (r + 1) ≤ 999983 * 999983 := Int.mul_le_mul (by omega) (by omega) (by omega) (by decide)
        have h2 : 0 ≤ (r + 1) * (r + 1) := Int.mul_nonneg (by omega) (by omega)
        have h3 : (r + 1) * (r + 1) * (r + 1) ≤ 999983 * 999983 * 999983 := Int.mul_le_mul h1 (by omega) (by omega) (by decide)
        have h4 : 0 ≤ (r + 1) * (r + 1) * (r + 1) := Int.mul_nonneg h2 (by omega)
        omega
      have b2 : Bd 61 (u + 1) := ⟨by omega⟩
      refine ⟨[_, _], (_, _), rfl, rfl, rfl, ⟨b1.mono (by decide), b2.mono (by decide)⟩, fun d hd2 => ?_, fun C hC => ?_⟩
      · obtain ⟨_, rfl⟩ := hd2
        exact ⟨_, _, rfl, rfl, hd, _, rfl, (sz_divInt b1 b2 (by omega)).mono (by decide)⟩
      · have := hC.1
        omega
    · refine sx_ret (ex_call (fun _ => .nil) (ax_cons (ex_op ?_)))
      refine ex_callM (ax_cons (ex_mvar rfl (ax_cons (ex_int (ax_nil ⟨_, p, _, rfl, rfl, rfl, ⟨hd, by decide⟩, fun d fs h => ?_⟩)))))
      obtain ⟨hd, r, rfl, r0, r1⟩ := h
      repeat walk_at "m3"
      refine ex_callM (ax_cons (ex_mvar rfl (ax_cons (ex_int (ax_nil ⟨_, p, _, rfl, rfl, rfl, ⟨hd, by decide⟩, fun d fs h => ?_⟩)))))
      obtain ⟨hd, u, rfl, u0, u1⟩ := h
      repeat walk_at "m3"
      have b1 : Bd 61 (r - 20) := ⟨by omega⟩
      have b2 : Bd 61 (1 + u) := ⟨by omega⟩
      refine ⟨[_, _], (_, _), rfl, rfl, rfl, ⟨b1.mono (by decide), b2.mono (by decide)⟩, fun d hd2 => ?_, fun C hC => ?_⟩
      · obtain ⟨_, rfl⟩ := hd2
        exact ⟨_, _, rfl, rfl, hd, _, rfl, (sz_divInt b1 b2 (by omega)).mono (by decide)⟩
      · have := hC.1
        omega
abbrev sp__law_text (K : PySem.W.Frag) (A : Ad) : Sp := spD K 1 (fun p : Rat => [dR p]) (fun p => Small p) (fun p r => r = .str (SX.S (wrL p))) (fun _ _ => False)
theorem ok__law_text {P : Program} {w : World} {K : PySem.W.Frag} {mg : Str → Option Value} {base : Heap} {A : Ad} (T : Txt K mg A)  :
    FnG P w K mg base 1 A.f__law_text A.d__law_text ["one"] (sp__law_text K A) := by
  refine fn_data T.F__law_text sc__law_text rfl fun cdv A' outer s H E hgd hr => ⟨_, (pss_one (ps_ret (pe_ix ix_list (pe_lst (pa_cons (pe_op op_add_str (pe_op op_add_str (pe_callTy call_str_int (by rfl) T.z_str (by decide +kernel) (pa_cons (pe_ix ix_tup (pv 0) pe_int (fun _ _ => rfl)) pa_nil)) pe_str) (pe_callTy call_str_int (by rfl) T.z_str (by decide +kernel) (pa_cons (pe_ix ix_tup (pv 0) pe_int (fun _ _ => rfl)) pa_nil))) (pa_cons (pe_callTy call_str_int (by rfl) T.z_str (by decide +kernel) (pa_cons (pe_ix ix_tup (pv 0) pe_int (fun _ _ => rfl)) pa_nil)) pa_nil))) (pe_callTy call_int1 (by rfl) T.z_int (by decide +kernel) (pa_cons (pe_cmpR (op_eqD hr.units) (pe_ix ix_tup (pv 0) pe_int (fun _ _ => rfl)) pe_int (nomark _)) pa_nil)) (fun _ _ => rfl)))), ?_⟩
  intro p hp
  show SX K _ _ [.dat (dR p)] _
  dsimp only [bodyK] at *
  have n1 := TL.numL_len (k := 30) (by decide) hp.1
  have n2 := TL.numL_len (k := 30) (by decide) hp.2
  have ls : (sgn p.num).length ≤ 1 := by unfold sgn; split <;> simp
  have g1 := log_lt (bd30 hp.1) (by decide)
  have g2 := log_lt (bd30 (i := (p.den : Int)) (by rw [Int.natAbs_natCast]; exact hp.2)) (by decide)
  have z1 : (SX.S (sgn p.num ++ TL.numL p.num.natAbs)).length = (sgn p.num).length + (TL.numL p.num.natAbs).length := by rw [SX.S_len, List.length_append]
  refine sx_ret (ex_op (ex_listL ?_))
  refine ax_cons (ex_op (ex_op (ex_CB ?_)))
  repeat walk_at "m3e"
  refine vx_strI (by omega) (ex_str (rx_addS ?_ ?_))
  · rw [neg_str, z1]
    show _ + 1 ≤ _
    omega
  rw [neg_str, str_slash, SX.S_cat]
  refine ex_CB ?_
  repeat walk_at "m3e"
  refine vx_strI (by omega) (rx_addS ?_ ?_)
  · rw [num_str, SX.S_len, SX.S_len]
    simp
    omega
  rw [num_str, SX.S_cat]
  refine ax_cons (ex_CB ?_)
  repeat walk_at "m3e"
  refine vx_strI (by omega) ?_
  rw [neg_str]
  refine ax_nil ⟨[_, _], rfl, Nat.le_of_ble_eq_true rfl, ?_⟩
  repeat walk_at "m3e"
  rw [dR_den]
  by_cases h : p.den = 1
  · refine rx_ixL (d := .str (SX.S (sgn p.num ++ TL.numL p.num.natAbs))) ?_ ⟨_, rfl, ?_⟩
    · rw [decide_eq_true h]; rfl
    · unfold wrL
      rw [if_pos h, List.append_nil]
  · refine rx_ixL (d := .str (SX.S (sgn p.num ++ TL.numL p.num.natAbs ++ [47] ++ TL.numL p.den))) ?_ ⟨_, rfl, ?_⟩
    · rw [decide_eq_false h]; rfl
    · unfold wrL
      rw [if_neg h, List.append_assoc, List.append_assoc, List.append_assoc]
      rfl
abbrev sp__law_told (K : PySem.W.Frag) (A : Ad) : Sp := spD K 1 (fun l : List Nat => [.str (SX.S l)]) (fun l => l.length ≤ 1000) (fun l r => Due l r) (fun _ _ => False)
theorem ok__law_told {P : Program} {w : World} {K : PySem.W.Frag} {mg : Str → Option Value} {base : Heap} {A : Ad} (T : Txt K mg A) (G_read_ratio : FnG P w K mg base 3 A.f_read_ratio A.d_read_ratio ["word"] (sp_read_ratio K A)) :
    FnG P w K mg base 4 A.f__law_told A.d__law_told ["text"] (sp__law_told K A) := by
  refine fn_data T.F__law_told sc__law_told rfl fun cdv A' outer s H E hgd hr => ⟨_, (pss_one (ps_try_many rfl rfl (takes_of rfl rfl rfl rfl) (fun W pn xe tk _ => (pss_one (ps_ret (pe_G G_read_ratio hgd (hr.mono (by decide)) (by rfl) T.g_read_ratio T.k_read_ratio T.b_read_ratio .nil (fun σ => passAt tk σ) (pa_cons (pv 0) pa_nil))))) (HdsOk.cons ⟨rfl, by decide, .inl T.g_NotNumber⟩ (fun a oe cls d pn _ _ => (pss_one (ps_ret pe_str))) (HdsOk.cons ⟨rfl, by decide, .inl T.g_MitreError⟩ (fun a oe cls d pn _ _ => (pss_one (ps_ret pe_str))) HdsOk.nil)))), ?_⟩
  intro l hl
  show SX K _ _ [.dat (.str (SX.S l))] _
  dsimp only [bodyK] at *
  refine sx_try2 (c1 := .ref A.C_NotNumber) (c2 := .ref A.C_MitreError) (tb := fun W => tRet (tCallG (sp_read_ratio K A) [] (WE W) (tCons (tVar 0) tNil))) (t1 := fun _ _ _ => tRet (tC (.str "none"))) (t2 := fun _ _ _ => tRet (tC (.str "other"))) fun W' => ?_
  refine sx_ret (ex_call (fun _ => .nil) ?_)
  repeat walk_at "m3e"
  refine ⟨[_], l, rfl, rfl, rfl, hl, fun d hd => ⟨d, rfl, .inl hd⟩, fun C hC => ?_⟩
  obtain ⟨rfl, hn⟩ := hC
  refine ⟨T.m_NotNumber, fun a => ?_⟩
  exact sx_ret (ex_str ⟨_, rfl, .inr ⟨rfl, hn⟩⟩)
abbrev sp__law_part (K : PySem.W.Frag) (A : Ad) : Sp := spD K 1 (fun l : List Nat => [.str (SX.S l)]) (fun l => l.length ≤ 1000 ∧ ∀ c ∈ l, c < 128) (fun l r => r = partV l) (fun _ _ => False)
theorem ok__law_part {P : Program} {w : World} {K : PySem.W.Frag} {mg : Str → Option Value} {base : Heap} {A : Ad} (T : Txt K mg A)  :
    FnG P w K mg base 1 A.f__law_part A.d__law_part ["word"] (sp__law_part K A) := by
  refine fn_data T.F__law_part sc__law_part rfl fun cdv A' outer s H E hgd hr => ⟨_, (pss_cons (ps_if (PW.pt (pw_or (pt_cmpR op_eq (pv 0) pe_str (nomark _)) (pw_or (pt_cmpR op_gt (pe_callB call_len_str (by rfl) T.z_len (by decide +kernel) (pa_cons (pv 0) pa_nil)) pe_int (nomark _)) (pw_or (pt_cmpR (op_neD hr.units) (pe_lc (own := [("sign", 1)]) (g := (gName 1)) (by rfl) sc__law_part.nd (pi_str (pv 0)) (blkOk_by (own := [("sign", 1)]) (N := ["word", "sign"]) (sc := defScope s__law_part) (by decide +kernel)) (fun _ _ _ _ _ => (pg_name (i := 1) sc__law_part.nd rfl (.inl rfl))) (fun _ _ _ _ _ => (pts_one (pt_cmpR op_notIn_sign (pv 1) pe_str rfl))) (fun _ _ _ _ _ => (pv 1))) (pe_lst pa_nil) (nomark _)) (pw_or1 (PW.pt (pw_and (pt_cmpR op_eq (pe_ix ix_str (pv 0) pe_int (fun _ _ => rfl)) pe_str (nomark _)) (pw_and1 (pt_cmpR op_ne (pv 0) pe_str (nomark _)))))))))) (pss_one (ps_ret pe_non)) pss_nil)
  (pss_one (ps_ret (pe_callTy call_int_str (by rfl) T.z_int (by decide +kernel) (pa_cons (pv 0) pa_nil))))), ?_⟩
  rintro l ⟨hl, h128⟩
  show SX K _ _ [.dat (.str (SX.S l)), .no] _
  dsimp only [bodyK] at *
  have hz : (SX.S l).length = l.length := SX.S_len l
  refine sx_guard (!isP l) ?_ (fun h => ?_) (fun h => ?_)
  · refine tx_or (tx_test (ex_op (ex_var rfl (ex_str (rx_eqS ⟨_, rfl, fun h => ?_, fun h => ?_⟩)))))
    · refine ⟨?_, rfl⟩
      have e : l = [] := SX.S_inj (of_decide_eq_true h)
      subst e
      rfl
    have l0 : l ≠ [] := fun e => of_decide_eq_false h (by rw [e]; rfl)
    have l1 := List.length_pos_iff.mpr l0
    refine tx_or (tx_test (ex_op (ex_CB (ax_cons (ex_var rfl (ax_nil (vx_lenS (by omega) (ex_int (rx_ib ⟨_, rfl, fun h => ?_, fun h => ?_⟩)))))))))
    · refine ⟨?_, rfl⟩
      have := of_decide_eq_true h
      rw [hz] at this
      unfold isP isD
      rw [decide_eq_false (show ¬ l.length ≤ 30 by omega), Bool.and_false, Bool.false_and, Bool.false_and]
      rfl
    have l30 : l.length ≤ 30 := by
      have := of_decide_eq_false h
      omega
    refine tx_or (tx_test (ex_op (ex_F (p := fun ds δ' => ds = (l.filter nd).map (fun c => PyData.str ⟨#[c]⟩) ∧ δ' = [.dat (.str (SX.S l)), .no]) (fx_lcS tgc_name (fun z k acc δ' => z = SX.S l ∧ acc = ((l.take k).filter nd).map (fun c => PyData.str ⟨#[c]⟩) ∧ δ' = [.dat (.str (SX.S l)), .no]) (ex_var rfl ⟨SX.S l, rfl, ?_, ⟨rfl, by simp, rfl⟩, ?_, ?_⟩)) ?_)))
    · intro i hi p es z
      have ei : i = 1 := by simpa using hi
      subst ei
      cases z
    · rintro k d acc δ' hk ⟨_, rfl, rfl⟩
      obtain ⟨c, hk2, rfl⟩ := map_get hk
      have hk2 : l[k]? = some c := hk2
      have hkl := (List.getElem?_eq_some_iff.mp hk2).1
      refine ⟨trivial, tx_test (ex_op (ex_var rfl (ex_str (rx_notInS ⟨_, rfl, fun h => ?_, fun h => ?_⟩))))⟩
      · have hn : nd c = true := by rw [in_digits] at h; exact h
        refine ex_var rfl ⟨_, rfl, ?_, rfl, ?_, rfl⟩
        · rw [List.length_map]
          have := List.length_filter_le nd (l.take k)
          have := List.length_take_le k l
          omega
        · rw [List.take_add_one, hk2, List.filter_append, List.map_append]
          simp [hn]
      · have hn : nd c = false := by rw [in_digits] at h; exact h
        refine ⟨rfl, ?_, rfl⟩
        rw [List.take_add_one, hk2, List.filter_append, List.map_append]
        simp [hn]
    · rintro acc δ' ⟨_, rfl, rfl⟩
      refine ⟨?_, rfl⟩
      rw [show (SX.S l).cps.size = l.length from rfl, List.take_length]
    rintro ds δ' ⟨rfl, rfl⟩
    refine ex_listL (ax_nil ⟨[], rfl, by decide, ?_⟩)
    refine rx_neD (shaped_signs fun c hc => h128 c (List.mem_filter.mp hc).1) shaped_nil ⟨_, rfl, ?_⟩
    rw [eqv_nil, filter_nd]
    have hD : isD l = l.all fun c => decide (48 ≤ c) && decide (c ≤ 57) := by
      unfold isD
      rw [decide_eq_true (show 1 ≤ l.length by omega), decide_eq_true l30, Bool.true_and, Bool.true_and]
    refine ⟨fun h => ⟨?_, rfl⟩, fun h => ?_⟩
    · unfold isP
      rw [hD]
      rw [Bool.not_eq_true'] at h
      rw [h]
      rfl
    rw [Bool.not_eq_false'] at h
    obtain ⟨c, r, rfl⟩ : ∃ c r, l = c :: r := by
      cases l with
      | nil => exact absurd rfl l0
      | cons c r => exact ⟨c, r, rfl⟩
    refine tx_and (tx_test (ex_op (ex_op (ex_var rfl (ex_int (rx_ixS (c := c) (by omega) (atI_nat (j := 0) rfl) (ex_str (rx_eqS ⟨_, rfl, fun h2 => ?_, fun h2 => ?_⟩))))))))
    · have hc : c = 48 := by
        have := of_decide_eq_true h2
        exact List.head_eq_of_cons_eq (SX.S_inj (a := [c]) (b := [48]) this)
      refine tx_test (ex_op (ex_var rfl (ex_str (rx_neS ⟨_, rfl, ?_, rfl⟩))))
      unfold isP
      rw [hD, h, Bool.true_and, hc]
      show (!decide (SX.S (48 :: r) = SX.S [48])) = !(false || decide (48 :: r = [48]))
      rw [Bool.false_or]
      exact congrArg (fun z => !z) (decide_eq_decide.mpr ⟨SX.S_inj, fun e => by rw [e]⟩)
    · have hc : c ≠ 48 := fun e => of_decide_eq_false h2 (by rw [e]; rfl)
      refine ⟨?_, rfl⟩
      unfold isP
      rw [hD, h, Bool.true_and, decide_eq_false (show ¬ (c :: r).head? = some 48 from fun e => hc (Option.some.inj e))]
      rfl
  · repeat walk_at "m3"
    rw [Bool.not_eq_true'] at h
    show _ = partV l
    unfold partV
    rw [h]
    rfl
  · rw [Bool.not_eq_false'] at h
    have hd := (Bool.and_eq_true _ _ ▸ h : isD l = true ∧ _).1
    obtain ⟨b1, b2, b3⟩ := isD_iff.mp hd
    refine sx_ret (ex_CB (ax_cons (ex_var rfl (ax_nil (vx_intS (intText_digits (x := SX.S l) b3 (List.length_pos_iff.mp b1) (by omega)) (by omega) ⟨_, rfl, ?_⟩)))))
    unfold partV
    rw [if_pos h]
abbrev sp__law_due (K : PySem.W.Frag) (A : Ad) : Sp := spD K 1 (fun l : List Nat => [.str (SX.S l)]) (fun l => l.length ≤ 1000 ∧ ∀ c ∈ l, c < 128) (fun l r => Due l r) (fun _ _ => False)
theorem ok__law_due {P : Program} {w : World} {K : PySem.W.Frag} {mg : Str → Option Value} {base : Heap} {A : Ad} (T : Txt K mg A) (G__law_part : FnG P w K mg base 1 A.f__law_part A.d__law_part ["word"] (sp__law_part K A)) (G_ratio : FnG P w K mg base 1 A.f_ratio A.d_ratio ["above", "below"] (sp_ratio K A)) :
    FnG P w K mg base 2 A.f__law_due A.d__law_due ["text"] (sp__law_due K A) := by
  refine fn_data T.F__law_due sc__law_due rfl fun cdv A' outer s H E hgd hr => ⟨_, (pss_cons (ps_set (i := 1) sc__law_due.nd rfl (.inl rfl) (pv 0))
  (pss_cons (ps_if (pt_cmpR op_eq (pe_slice sl_str (pv 0) po_none (po_some pe_int)) pe_str (nomark _)) (pss_one (ps_set (i := 1) sc__law_due.nd rfl (.inl rfl) (pe_slice sl_str (pv 0) (po_some pe_int) po_none))) pss_nil)
  (pss_cons (ps_setLc (i := 2) (own := [("word", 6)]) (g := (gName 6)) (by rfl) sc__law_due.nd rfl rfl (sw_true rfl rfl rfl (by decide +kernel)) (pi_list (pe_split (pv 1) pe_str)) (blkOk_by (own := [("word", 6)]) (N := ["text", "rest", "parts", "above", "below", "k", "word"]) (sc := defScope s__law_due) (by decide +kernel)) (fun _ _ _ _ _ => (pg_name (i := 6) sc__law_due.nd rfl (.inl rfl))) (fun _ _ _ _ _ => pts_nil) (fun _ _ _ _ _ => (pe_G G__law_part hgd (hr.mono (by decide)) (by rfl) T.g__law_part T.k__law_part T.b__law_part .nil (fun σ => noPass σ) (pa_cons (pv 6) pa_nil))))
  (pss_cons (ps_if (PW.pt (pw_or (pt_cmpR op_gt (pe_callB call_len_seq (by rfl) T.z_len (by decide +kernel) (pa_cons (pv 2) pa_nil)) pe_int (nomark _)) (pw_or1 (pt_cmpR (op_inD (units65 hr)) pe_non (pv 2) rfl)))) (pss_one (ps_ret pe_str)) pss_nil)
  (pss_cons (ps_asg (pe_slice sl_list (pe_op op_catL (pv 2) (pe_lst (pa_cons pe_int pa_nil))) po_none (po_some pe_int)) (pg_lst (by rfl) (pgs_cons (pg_name (i := 3) sc__law_due.nd rfl (.inl rfl)) (pgs_cons (pg_name (i := 4) sc__law_due.nd rfl (.inl rfl)) pgs_nil))))
  (pss_cons (ps_if (PW.pt (pw_or (PW.pt (pw_and (pt_cmpR (op_eqD hr.units) (pe_callB call_len_seq (by rfl) T.z_len (by decide +kernel) (pa_cons (pv 2) pa_nil)) pe_int (nomark _)) (pw_and1 (pt_cmpR op_lt (pv 4) pe_int (nomark _))))) (pw_or1 (PW.pt (pw_and (pt_cmpR op_eq (pe_slice sl_str (pv 0) po_none (po_some pe_int)) pe_str (nomark _)) (pw_and1 (pt_cmpR (op_eqD hr.units) (pv 3) pe_int (nomark _)))))))) (pss_one (ps_ret pe_str)) pss_nil)
  (pss_cons (ps_for (passes_of rfl) rfl (pi_range2 (by rfl) T.z_range (pa_cons pe_int (pa_cons pe_int pa_nil))) (pg_name (i := 5) sc__law_due.nd rfl (.inl rfl)) (pss_one (ps_if (PW.pt (pw_and (pt_cmpR (op_eqD hr.units) (pe_op op_modN (pv 3) (pv 5)) pe_int (nomark _)) (pw_and (pt_cmpR (op_eqD hr.units) (pe_op op_modN (pv 4) (pv 5)) pe_int (nomark _)) (pw_and1 (pt_cmpR (op_eqD hr.units) (pe_callB call_len_seq (by rfl) T.z_len (by decide +kernel) (pa_cons (pv 2) pa_nil)) pe_int (nomark _)))))) (pss_one (ps_ret pe_str)) pss_nil)))
  (pss_cons (ps_if (PW.pt (pw_and (pt_cmpR (op_eqD hr.units) (pe_callB call_len_seq (by rfl) T.z_len (by decide +kernel) (pa_cons (pv 2) pa_nil)) pe_int (nomark _)) (pw_and1 (pt_cmpR (op_neD hr.units) (pe_G G_ratio hgd (hr.mono (by decide)) (by rfl) T.g_ratio T.k_ratio T.b_ratio .nil (fun σ => passAt (takes_of rfl rfl rfl rfl) σ) (pa_cons (pv 3) (pa_cons (pv 4) pa_nil))) (pe_tup (pa_cons (pv 3) (pa_cons (pv 4) pa_nil))) (nomark _))))) (pss_one (ps_ret pe_str)) pss_nil)
  (pss_one (ps_ret (pe_tup (pa_cons (pe_ix ix_list (pe_lst (pa_cons (pv 3) (pa_cons (pe_un un_neg (pv 3)) pa_nil))) (pe_callTy call_int1 (by rfl) T.z_int (by decide +kernel) (pa_cons (pe_cmpR op_eq (pe_slice sl_str (pv 0) po_none (po_some pe_int)) pe_str (nomark _)) pa_nil)) (fun _ _ => rfl)) (pa_cons (pv 4) pa_nil))))))))))))), ?_⟩
  rintro l ⟨hl, h128⟩
  show SX K _ _ [.dat (.str (SX.S l)), .no, .no, .no, .no, .no, .no] _
  dsimp only [bodyK] at *
  have lb := bare_len l
  have hz : (SX.S l).length = l.length := SX.S_len l
  refine sx_seq (sx_asg (ex_var rfl ⟨_, rfl, ?_⟩))
  dsimp only [List.set_cons_zero, List.set_cons_succ]
  refine sx_cut (fun δ' => δ' = [.dat (.str (SX.S l)), .dat (.str (SX.S (bare l))), .no, .no, .no, .no, .no]) ?_ ?_
  · refine sx_if (tx_test (ex_op (ex_slS (ex_var rfl (ox_none (ox_some (ex_int ⟨_, rfl, _, rfl, by omega, ?_⟩)))))))
    rw [SX.slice_to (by decide)]
    refine ex_str (rx_eqS ⟨_, rfl, fun h => ?_, fun h => ?_⟩)
    · rw [str_minus] at h
      have h := of_decide_eq_true ((head45 l).symm.trans h)
      refine sx_asg (ex_slS (ex_var rfl (ox_some (ex_int ⟨_, rfl, ox_none ⟨_, rfl, by omega, ?_⟩⟩))))
      rw [SX.slice_from (by decide)]
      refine ⟨_, rfl, ?_⟩
      unfold bare
      rw [if_pos h, show l.drop (1 : Int).toNat = l.tail from List.drop_one]
      rfl
    · rw [str_minus] at h
      have h := of_decide_eq_false ((head45 l).symm.trans h)
      refine sx_next ?_
      unfold bare
      rw [if_neg h]
  rintro δ' rfl
  obtain ⟨wl, wi⟩ := ws_in _ (bare l) (Nat.le_refl _)
  have wi2 : ∀ w ∈ ws (bare l), w.length ≤ 1000 ∧ ∀ c ∈ w, c < 128 := fun w hw => ⟨Nat.le_trans (wi w hw).1 (by omega), fun c hc => h128 c (bare_in ((wi w hw).2 c hc))⟩
  refine sx_cut (fun δ' => ∃ p o, (∀ q r, o ≠ .ml q r) ∧ δ' = [.dat (.str (SX.S l)), .dat (.str (SX.S (bare l))), .ml p ((ws (bare l)).map partV), .no, .no, .no, o]) ?_ ?_
  · refine sx_asgF (fx_lcL tgc_name (fun ds k acc δ' => acc = ((ws (bare l)).take k).map partV ∧ ∃ o, (∀ q r, o ≠ .ml q r) ∧ δ' = [.dat (.str (SX.S l)), .dat (.str (SX.S (bare l))), .no, .no, .no, .no, o]) (ex_F (p := fun ds δ' => ds = ((ws (bare l)).map SX.S).map PyData.str ∧ δ' = [.dat (.str (SX.S l)), .dat (.str (SX.S (bare l))), .no, .no, .no, .no, .no]) (fx_split (ex_var rfl ⟨_, rfl, ex_str ⟨_, rfl, rfl, ?_, ?_⟩⟩)) ?_))
    · rw [SX.S_len]; omega
    · rw [split_ws]
      exact ⟨rfl, rfl⟩
    rintro ds δ' ⟨rfl, rfl⟩
    refine ⟨_, rfl, ?_, ⟨rfl, .no, (fun _ _ z => nomatch z), rfl⟩, ?_, ?_⟩
    · intro i hi p es z
      have ei : i = 6 := by simpa using hi
      subst ei
      cases z
    · rintro k d acc δ' hk ⟨rfl, o, ho, rfl⟩
      rw [List.map_map] at hk
      obtain ⟨w, hw, rfl⟩ := map_get hk
      have hm := List.mem_of_getElem? hw
      refine ⟨trivial, tx_yes ⟨fun _ => ?_, fun h => by cases h⟩⟩
      refine ex_call0 (fun _ => .nil) ?_
      refine ax_cons (ex_var rfl (ax_nil ⟨[_], w, rfl, rfl, rfl, wi2 w hm, fun d hd => ⟨d, rfl, ?_, ?_, .no, (fun _ _ z => nomatch z), rfl⟩, fun C hC => hC.elim⟩))
      · rw [List.length_map]
        have : ((ws (bare l)).take k).length ≤ (ws (bare l)).length := by rw [List.length_take]; omega
        omega
      · rw [List.take_add_one, hw, List.map_append, hd]
        rfl
    · rintro acc δ' ⟨rfl, o, ho, rfl⟩ p
      rw [List.length_map, List.length_map, List.take_length]
      exact ⟨p, o, ho, rfl⟩
  rintro δ' ⟨p, o, ho, rfl⟩
  refine sx_freeze (i := 2) rfl ?_
  dsimp only [List.set_cons_zero, List.set_cons_succ]
  refine sx_guard (decide (2 < (ws (bare l)).length) || (ws (bare l)).any fun w => !isP w) ?_ (fun h => ?_) (fun h => ?_)
  · refine tx_or (tx_test (ex_op (ex_CB (ax_cons (ex_var rfl (ax_nil (vx_lenL (ex_int (rx_ib ⟨_, rfl, fun h => ?_, fun h => ?_⟩)))))))))
    · have := of_decide_eq_true h
      rw [List.length_map] at this
      rw [decide_eq_true (show 2 < (ws (bare l)).length by omega)]
      exact ⟨rfl, rfl⟩
    · have := of_decide_eq_false h
      rw [List.length_map] at this
      rw [decide_eq_false (show ¬ 2 < (ws (bare l)).length by omega), Bool.false_or]
      refine tx_test (ex_op (ex_non (ex_var rfl (rx_inL (by decide +kernel) (shaped_parts _) ⟨_, rfl, ?_, rfl⟩))))
      exact any_none _
  · refine sx_ret (ex_str ⟨_, rfl, .inr ⟨rfl, no_words ?_⟩⟩)
    rw [Bool.or_eq_true, decide_eq_true_eq, List.any_eq_true] at h
    refine h.imp id fun ⟨w, hw, hp⟩ => ⟨w, hw, ?_⟩
    rw [Bool.not_eq_true'] at hp
    exact hp
  rw [Bool.or_eq_false_iff, decide_eq_false_iff_not, List.any_eq_false] at h
  obtain ⟨N, M, two, hP, eP⟩ := words (l := l) (by omega) (fun w hw => by
    have := h.2 w hw
    simpa using this)
  rw [eP]
  clear eP h wi2 wi wl
  have lenP : (if two = true then [PyData.int N, .int M] else [.int N]).length = if two = true then 2 else 1 := by cases two <;> rfl
  have isTwo : PyData.eqv (.int ((if two = true then [PyData.int N, .int M] else [.int N]).length : Nat)) (.int 2) = two := by
    rw [eqv_int, lenP]
    cases two <;> rfl
  -- above, below
  refine sx_cut (fun δ' => δ' = [.dat (.str (SX.S l)), .dat (.str (SX.S (bare l))), .dat (.list (if two = true then [PyData.int N, .int M] else [.int N])), .dat (.int N), .dat (.int M), .no, o]) ?_ ?_
  · refine sx_unpackL (n := 2) (is := [3, 4]) (ex_F (p := fun ds δ' => ds = [PyData.int N, .int M] ∧ δ' = [.dat (.str (SX.S l)), .dat (.str (SX.S (bare l))), .dat (.list (if two = true then [PyData.int N, .int M] else [.int N])), .no, .no, .no, o]) (fx_slL (ex_F (p := fun ds δ' => ds = (if two = true then [PyData.int N, .int M] else [.int N]) ++ [.int 1] ∧ δ' = [.dat (.str (SX.S l)), .dat (.str (SX.S (bare l))), .dat (.list (if two = true then [PyData.int N, .int M] else [.int N])), .no, .no, .no, o]) (fx_op (ex_var rfl (ex_listL (ax_cons (ex_int (ax_nil ⟨[.int 1], rfl, by decide, _, rf_cat ?_, rfl, rfl⟩)))))) ?_)) ?_) rfl
    · rw [lenP]
      split <;> decide
    · rintro ds δ' ⟨rfl, rfl⟩
      refine ox_none (ox_some (ex_int ⟨_, rfl, _, rfl, ?_, rfl⟩))
      cases two with
      | true => rfl
      | false =>
        rw [hP.o rfl]
        rfl
    · rintro ds δ' ⟨rfl, rfl⟩
      exact ⟨_, rfl, rfl, rfl⟩
  rintro δ' rfl
  -- the text[:1] == '-' of each test
  have sgnT : ∀ {W : WX} {δ : Sto} {post : Vw → Sto → Prop} {ex : XP}, δ[0]? = some (.dat (.str (SX.S l))) → post (.d (.bool (decide (l.head? = some 45)))) δ → EX K W (tOp rEq (tSl rSlS (tVar 0) tNoPart (tPart (tC (.int 1)))) (tC (.str "-"))) δ post ex := fun h0 q => by
    refine ex_op (ex_slS (ex_var h0 (ox_none (ox_some (ex_int ⟨_, rfl, _, rfl, by omega, ?_⟩)))))
    rw [SX.slice_to (by decide)]
    refine ex_str (rx_eqS ?_)
    rw [str_minus, show l.take (1 : Int).toNat = l.take 1 from rfl, head45]
    exact q
  refine sx_guard ((two && decide (M < 2)) || (decide (l.head? = some 45) && decide (N = 0))) ?_ (fun h => ?_) (fun h => ?_)
  · refine tx_or (tx_and (tx_test (ex_op (ex_CB (ax_cons (ex_var rfl (ax_nil (vx_lenL (ex_int (rx_eqD (shaped_int _) (shaped_int _) ⟨_, rfl, ?_⟩))))))))))
    rw [isTwo]
    have tail : ∀ {W : WX} {ex : XP} {δ : Sto}, δ = [.dat (.str (SX.S l)), .dat (.str (SX.S (bare l))), .dat (.list (if two = true then [PyData.int N, .int M] else [.int N])), .dat (.int N), .dat (.int M), .no, o] →
        (two && decide (M < 2)) = false → TX K W (tAnd (tTest (tOp rEq (tSl rSlS (tVar 0) tNoPart (tPart (tC (.int 1)))) (tC (.str "-")))) (tTest (tOp (rEqD K) (tVar 3) (tC (.int 0))))) δ (fun b δ' => b = ((two && decide (M < 2)) || (decide (l.head? = some 45) && decide (N = 0))) ∧ δ' = δ) ex := by
      rintro W ex δ rfl h2
      refine tx_and (tx_test (sgnT rfl ⟨_, rfl, fun h => ?_, fun h => ?_⟩))
      · refine tx_test (ex_op (ex_var rfl (ex_int (rx_eqD (shaped_int _) (shaped_int _) ⟨_, rfl, ?_, rfl⟩))))
        rw [h2, h, eqv_int, Bool.false_or, Bool.true_and]
        show ((N : Int) == 0) = decide (N = 0)
        exact decide_eq_decide.mpr (by omega)
      · rw [h2, h]
        exact ⟨rfl, rfl⟩
    refine ⟨fun h => ?_, fun h => ⟨fun h3 => absurd h3 Bool.false_ne_true, fun _ => tail rfl (by rw [h]; rfl)⟩⟩
    refine tx_test (ex_op (ex_var rfl (ex_int (rx_ib ⟨_, rfl, fun h2 => ?_, fun h2 => ?_⟩))))
    · have : M < 2 := by have := of_decide_eq_true h2; omega
      rw [h, decide_eq_true this]
      exact ⟨rfl, rfl⟩
    · have : ¬ M < 2 := by have := of_decide_eq_false h2; omega
      exact tail rfl (by rw [decide_eq_false this, Bool.and_false])
  · refine sx_ret (ex_str ⟨_, rfl, .inr ⟨rfl, ?_⟩⟩)
    rw [Bool.or_eq_true, Bool.and_eq_true, Bool.and_eq_true, decide_eq_true_eq, decide_eq_true_eq, decide_eq_true_eq] at h
    rcases h with h | h
    · exact hP.no_two h.1 h.2
    · exact hP.no_sign h.1 h.2
  rw [Bool.or_eq_false_iff, Bool.and_eq_false_iff, Bool.and_eq_false_iff, decide_eq_false_iff_not, decide_eq_false_iff_not, decide_eq_false_iff_not] at h
  obtain ⟨hM, hN⟩ := h
  -- for k in range(2, 40)
  refine sx_cut (fun δ' => ∃ z, δ' = [.dat (.str (SX.S l)), .dat (.str (SX.S (bare l))), .dat (.list (if two = true then [PyData.int N, .int M] else [.int N])), .dat (.int N), .dat (.int M), z, o]) ?_ ?_
  · refine sx_forR2 tg_name (fun t δ' => ∃ z, δ' = [.dat (.str (SX.S l)), .dat (.str (SX.S (bare l))), .dat (.list (if two = true then [PyData.int N, .int M] else [.int N])), .dat (.int N), .dat (.int M), z, o]) ?_
    repeat walk_at "m3e"
    refine ⟨2, 40, rfl, by decide, ⟨_, rfl⟩, ?_, fun δ' q => q⟩
    rintro t d δ' ht ⟨z, rfl⟩
    obtain ⟨ht2, rfl⟩ := rangeD_at ht
    refine ⟨trivial, ?_⟩
    dsimp only [List.set_cons_zero, List.set_cons_succ]
    refine sx_if (tx_and (tx_test (ex_op (ex_op (ex_var rfl (ex_var rfl (rx_Ci (by omega) (ex_int (rx_eqD (shaped_int _) (shaped_int _) ⟨_, rfl, fun h1 => ?_, fun h1 => ?_⟩)))))))))
    · refine tx_and (tx_test (ex_op (ex_op (ex_var rfl (ex_var rfl (rx_Ci (by omega) (ex_int (rx_eqD (shaped_int _) (shaped_int _) ⟨_, rfl, fun h2 => ?_, fun h2 => ?_⟩))))))))
      · refine tx_test (ex_op (ex_CB (ax_cons (ex_var rfl (ax_nil (vx_lenL (ex_int (rx_eqD (shaped_int _) (shaped_int _) ⟨_, rfl, fun h3 => ?_, fun h3 => ?_⟩))))))))
        · exact sx_ret (ex_str ⟨_, rfl, .inr ⟨rfl, hP.no_k (by omega) (fmod_dvd h1) (fmod_dvd h2)⟩⟩)
        · exact sx_next ⟨_, rfl⟩
      · exact ⟨fun h => absurd h Bool.false_ne_true, fun _ => sx_next ⟨_, rfl⟩⟩
    · exact ⟨fun h => absurd h Bool.false_ne_true, fun _ => sx_next ⟨_, rfl⟩⟩
  rintro δ' ⟨z, rfl⟩
  have m2 : two = true → 2 ≤ M := fun h => by
    rcases hM with hM | hM
    · rw [h] at hM; cases hM
    · omega
  have bN : Bd 9000 (N : Int) := (bd30 (by rw [Int.natAbs_natCast]; exact hP.n)).mono (by decide)
  have bM : Bd 9000 (M : Int) := (bd30 (by rw [Int.natAbs_natCast]; exact hP.m)).mono (by decide)
  refine sx_guard (two && !decide ((Rat.divInt N M).num = N ∧ (Rat.divInt N M).den = M)) ?_ (fun h => ?_) (fun h => ?_)
  · refine tx_and (tx_test (ex_op (ex_CB (ax_cons (ex_var rfl (ax_nil (vx_lenL (ex_int (rx_eqD (shaped_int _) (shaped_int _) ⟨_, rfl, ?_⟩)))))))))
    rw [isTwo]
    refine ⟨fun h => ?_, fun h => ?_⟩
    · refine tx_test (ex_op (ex_call (fun _ => .nil) ?_))
      repeat walk_at "m3e"
      refine ⟨[_, _], ((N : Int), (M : Int)), rfl, rfl, rfl, ⟨bN, bM⟩, fun d hd => ?_, fun C hC => ?_⟩
      · obtain ⟨_, rfl⟩ := hd
        refine ex_tup ?_
        repeat walk_at "m3e"
        refine rx_neD (shaped_dR _) (shaped_pair _ _) ⟨_, rfl, ?_, rfl⟩
        rw [eqv_pair, h, Bool.true_and]
      · have := m2 h
        have : (M : Int) = 0 := hC.1
        omega
    · rw [h, Bool.false_and]
      exact ⟨rfl, rfl⟩
  · refine sx_ret (ex_str ⟨_, rfl, .inr ⟨rfl, ?_⟩⟩)
    rw [Bool.and_eq_true, Bool.not_eq_true', decide_eq_false_iff_not] at h
    exact hP.no_red h.2
  · rw [Bool.and_eq_false_iff, Bool.not_eq_false', decide_eq_true_eq] at h
    obtain ⟨p, p1, p2, p3⟩ := hP.last m2 (fun h => hN.resolve_left (fun n => n h)) (fun h2 => h.resolve_left (by rw [h2]; simp))
    refine sx_ret (ex_tup (ax_cons (ex_op (ex_listL (ax_cons (ex_var rfl (ax_cons (ex_un (ex_var rfl (ux_i (ax_nil ⟨[_, _], rfl, Nat.le_of_ble_eq_true rfl, ?_⟩)))))))))))
    refine ex_CB (ax_cons (sgnT rfl (ax_nil (vx_intB ?_))))
    by_cases hs : l.head? = some 45
    · rw [decide_eq_true hs]
      refine rx_ixL (d := .int (-N)) rfl (ax_cons (ex_var rfl (ax_nil ⟨[_, _], rfl, Nat.le_of_ble_eq_true rfl, _, rfl, .inl ⟨p, p1, p2, ?_⟩⟩)))
      rw [p3, if_pos hs]
    · rw [decide_eq_false hs]
      refine rx_ixL (d := .int N) rfl (ax_cons (ex_var rfl (ax_nil ⟨[_, _], rfl, Nat.le_of_ble_eq_true rfl, _, rfl, .inl ⟨p, p1, p2, ?_⟩⟩)))
      rw [p3, if_neg hs]
abbrev sp_law (K : PySem.W.Frag) (A : Ad) : Sp := spScript K
theorem ok_law {P : Program} {w : World} {K : PySem.W.Frag} {mg : Str → Option Value} {base : Heap} {A : Ad} (T : Txt K mg A) (G__law_draws : FnG P w K mg base 1 A.f__law_draws A.d__law_draws ["script"] (sp__law_draws K A)) (G__law_ratio : FnG P w K mg base 2 A.f__law_ratio A.d__law_ratio ["draws"] (sp__law_ratio K A)) (G__law_text : FnG P w K mg base 1 A.f__law_text A.d__law_text ["one"] (sp__law_text K A)) (G__law_told : FnG P w K mg base 4 A.f__law_told A.d__law_told ["text"] (sp__law_told K A)) (G__law_take : FnG P w K mg base 1 A.f__law_take A.d__law_take ["draws", "bound"] (sp__law_take K A)) (G_write_ratio : FnG P w K mg base 2 A.f_write_ratio A.d_write_ratio ["one"] (sp_write_ratio K A)) (G_is_ratio : FnG P w K mg base 2 A.f_is_ratio A.d_is_ratio ["value"] (sp_is_ratio K A)) (G__law_due : FnG P w K mg base 2 A.f__law_due A.d__law_due ["text"] (sp__law_due K A)) :
    FnG P w K mg base 5 A.f_law A.d_law ["script"] (sp_law K A) := by
  refine fn_data T.F_law sc_law rfl fun cdv A' outer s H E hgd hr => ⟨_, (pss_cons (ps_set (i := 1) sc_law.nd rfl (.inl rfl) (pe_G G__law_draws hgd (hr.mono (by decide)) (by rfl) T.g__law_draws T.k__law_draws T.b__law_draws .nil (fun σ => passAt (takes_of rfl rfl rfl rfl) σ) (pa_cons (pv 0) pa_nil)))
  (pss_cons (ps_for (passes_of rfl) rfl (pi_range1 (by rfl) T.z_range (pa_cons pe_int pa_nil)) (pg_name (i := 2) sc_law.nd rfl (.inl rfl)) (pss_cons (ps_set (i := 3) sc_law.nd rfl (.inl rfl) (pe_G G__law_ratio hgd (hr.mono (by decide)) (by rfl) T.g__law_ratio T.k__law_ratio T.b__law_ratio .nil (fun σ => passAt (takes_of rfl rfl rfl rfl) σ) (pa_cons (pv 1) pa_nil)))
  (pss_cons (ps_set (i := 4) sc_law.nd rfl (.inl rfl) (pe_G G__law_text hgd (hr.mono (by decide)) (by rfl) T.g__law_text T.k__law_text T.b__law_text .nil (fun σ => passAt (takes_of rfl rfl rfl rfl) σ) (pa_cons (pv 3) pa_nil)))
  (pss_cons (ps_if (PW.pt (pw_or (pt_cmpR op_ne (pe_G G_write_ratio hgd (hr.mono (by decide)) (by rfl) T.g_write_ratio T.k_write_ratio T.b_write_ratio .nil (fun σ => passAt (takes_of rfl rfl rfl rfl) σ) (pa_cons (pv 3) pa_nil)) (pv 4) (nomark _)) (pw_or (pt_cmpR op_ne (pe_callB (cr_repr hgd hr.units) (by rfl) T.z_repr (by decide +kernel) (pa_cons (pe_G G__law_told hgd (hr.mono (by decide)) (by rfl) T.g__law_told T.k__law_told T.b__law_told .nil (fun σ => passAt (takes_of rfl rfl rfl rfl) σ) (pa_cons (pv 4) pa_nil)) pa_nil)) (pe_callB (cr_repr hgd hr.units) (by rfl) T.z_repr (by decide +kernel) (pa_cons (pv 3) pa_nil)) (nomark _)) (pw_or1 (pt_cmpR op_isnot_bl (pe_G G_is_ratio hgd (hr.mono (by decide)) (by rfl) T.g_is_ratio T.k_is_ratio T.b_is_ratio .nil (fun σ => passAt (takes_of rfl rfl rfl rfl) σ) (pa_cons (pv 3) pa_nil)) pe_bl (nomark _)))))) (pss_one (ps_ret pe_bl)) pss_nil)
  (pss_cons (ps_for (passes_of rfl) rfl (pi_range1 (by rfl) T.z_range (pa_cons pe_int pa_nil)) (pg_name (i := 5) sc_law.nd rfl (.inl rfl)) (pss_cons (ps_set (i := 6) sc_law.nd rfl (.inl rfl) (pe_G G__law_take hgd (hr.mono (by decide)) (by rfl) T.g__law_take T.k__law_take T.b__law_take .nil (fun σ => passAt (takes_of rfl rfl rfl rfl) σ) (pa_cons (pv 1) (pa_cons (pe_op op_add (pe_callB call_len_str (by rfl) T.z_len (by decide +kernel) (pa_cons (pv 4) pa_nil)) pe_int) pa_nil))))
  (pss_cons (ps_set (i := 7) sc_law.nd rfl (.inl rfl) (pe_ix ix_list (pe_lst (pa_cons pe_str (pa_cons pe_str (pa_cons pe_str (pa_cons pe_str (pa_cons pe_str (pa_cons pe_str (pa_cons pe_str (pa_cons pe_str pa_nil))))))))) (pe_G G__law_take hgd (hr.mono (by decide)) (by rfl) T.g__law_take T.k__law_take T.b__law_take .nil (fun σ => passAt (takes_of rfl rfl rfl rfl) σ) (pa_cons (pv 1) (pa_cons pe_int pa_nil))) (fun _ _ => rfl)))
  (pss_cons (ps_set (i := 4) sc_law.nd rfl (.inl rfl) (pe_ix ix_list (pe_lst (pa_cons (pe_op op_add_str (pe_op op_add_str (pe_slice sl_str (pv 4) po_none (po_some (pv 6))) (pv 7)) (pe_slice sl_str (pv 4) (po_some (pv 6)) po_none)) (pa_cons (pe_op op_add_str (pe_slice sl_str (pv 4) po_none (po_some (pv 6))) (pe_slice sl_str (pv 4) (po_some (pe_op op_add (pv 6) pe_int)) po_none)) (pa_cons (pe_op op_add_str (pe_op op_add_str (pe_slice sl_str (pv 4) po_none (po_some (pv 6))) (pv 7)) (pe_slice sl_str (pv 4) (po_some (pe_op op_add (pv 6) pe_int)) po_none)) pa_nil)))) (pe_G G__law_take hgd (hr.mono (by decide)) (by rfl) T.g__law_take T.k__law_take T.b__law_take .nil (fun σ => passAt (takes_of rfl rfl rfl rfl) σ) (pa_cons (pv 1) (pa_cons pe_int pa_nil))) (fun _ _ => rfl)))
  (pss_one (ps_if (pt_cmpR op_ne (pe_callB (cr_repr hgd hr.units) (by rfl) T.z_repr (by decide +kernel) (pa_cons (pe_G G__law_told hgd (hr.mono (by decide)) (by rfl) T.g__law_told T.k__law_told T.b__law_told .nil (fun σ => passAt (takes_of rfl rfl rfl rfl) σ) (pa_cons (pv 4) pa_nil)) pa_nil)) (pe_callB (cr_repr hgd hr.units) (by rfl) T.z_repr (by decide +kernel) (pa_cons (pe_G G__law_due hgd (hr.mono (by decide)) (by rfl) T.g__law_due T.k__law_due T.b__law_due .nil (fun σ => passAt (takes_of rfl rfl rfl rfl) σ) (pa_cons (pv 4) pa_nil)) pa_nil)) (nomark _)) (pss_one (ps_ret pe_bl)) pss_nil))))))
  (pss_cons (ps_set (i := 8) sc_law.nd rfl (.inl rfl) (pe_lst (pa_cons (pe_tup (pa_cons (pe_ix ix_tup (pv 3) pe_int (fun _ _ => rfl)) (pa_cons pe_int pa_nil))) (pa_cons (pe_tup (pa_cons (pe_op op_mulA (pe_ix ix_tup (pv 3) pe_int (fun _ _ => rfl)) pe_int) (pa_cons (pe_op op_mulA (pe_ix ix_tup (pv 3) pe_int (fun _ _ => rfl)) pe_int) pa_nil))) (pa_cons (pe_tup (pa_cons (pe_ix ix_tup (pv 3) pe_int (fun _ _ => rfl)) (pa_cons (pe_un un_neg (pe_ix ix_tup (pv 3) pe_int (fun _ _ => rfl))) pa_nil))) (pa_cons (pe_lst (pa_cons (pe_ix ix_tup (pv 3) pe_int (fun _ _ => rfl)) (pa_cons (pe_ix ix_tup (pv 3) pe_int (fun _ _ => rfl)) pa_nil))) (pa_cons (pe_tup (pa_cons (pe_ix ix_tup (pv 3) pe_int (fun _ _ => rfl)) pa_nil)) (pa_cons (pe_tup (pa_cons pe_bl (pa_cons pe_int pa_nil))) (pa_cons (pe_tup (pa_cons pe_int (pa_cons pe_bl pa_nil))) (pa_cons pe_non (pa_cons pe_str (pa_cons (pe_tup (pa_cons (pe_ix ix_tup (pv 3) pe_int (fun _ _ => rfl)) (pa_cons (pe_ix ix_tup (pv 3) pe_int (fun _ _ => rfl)) (pa_cons pe_int pa_nil)))) pa_nil))))))))))))
  (pss_one (ps_if (pt_cmpR (op_neD hr.units) (pe_lc (own := [("value", 11)]) (g := (gName 11)) (by rfl) sc_law.nd (pi_list (pv 8)) (blkOk_by (own := [("value", 11)]) (N := ["script", "draws", "turn", "one", "text", "again", "at", "sign", "bad", "digits", "told", "value"]) (sc := defScope s_law) (by decide +kernel)) (fun _ _ _ _ _ => (pg_name (i := 11) sc_law.nd rfl (.inl rfl))) (fun _ _ _ _ _ => pts_nil) (fun _ _ _ _ _ => (pe_G G_is_ratio hgd (hr.mono (by decide)) (by rfl) T.g_is_ratio T.k_is_ratio T.b_is_ratio .nil (fun σ => noPass σ) (pa_cons (pv 11) pa_nil)))) (pe_op op_rep (pe_lst (pa_cons pe_bl pa_nil)) pe_int) (nomark _)) (pss_one (ps_ret pe_bl)) pss_nil))))))))
  (pss_cons (ps_set (i := 9) sc_law.nd rfl (.inl rfl) (pe_op op_add_str pe_str (pe_op op_mul_str (pe_callTy call_str_int (by rfl) T.z_str (by decide +kernel) (pa_cons (pe_G G__law_take hgd (hr.mono (by decide)) (by rfl) T.g__law_take T.k__law_take T.b__law_take .nil (fun σ => passAt (takes_of rfl rfl rfl rfl) σ) (pa_cons (pv 1) (pa_cons pe_int pa_nil))) pa_nil)) pe_int)))
  (pss_cons (ps_set (i := 10) sc_law.nd rfl (.inl rfl) (pe_lst (pa_cons (pe_G G__law_told hgd (hr.mono (by decide)) (by rfl) T.g__law_told T.k__law_told T.b__law_told .nil (fun σ => passAt (takes_of rfl rfl rfl rfl) σ) (pa_cons (pv 9) pa_nil)) (pa_cons (pe_G G__law_told hgd (hr.mono (by decide)) (by rfl) T.g__law_told T.k__law_told T.b__law_told .nil (fun σ => passAt (takes_of rfl rfl rfl rfl) σ) (pa_cons (pe_op op_add_str (pv 9) pe_str) pa_nil)) (pa_cons (pe_G G__law_told hgd (hr.mono (by decide)) (by rfl) T.g__law_told T.k__law_told T.b__law_told .nil (fun σ => passAt (takes_of rfl rfl rfl rfl) σ) (pa_cons (pe_op op_add_str (pe_op op_add_str pe_str (pv 9)) pe_str) pa_nil)) (pa_cons (pe_G G__law_told hgd (hr.mono (by decide)) (by rfl) T.g__law_told T.k__law_told T.b__law_told .nil (fun σ => passAt (takes_of rfl rfl rfl rfl) σ) (pa_cons pe_str pa_nil)) pa_nil))))))
  (pss_one (ps_ret (pe_cmpR op_eq (pe_callB (cr_repr hgd hr.units) (by rfl) T.z_repr (by decide +kernel) (pa_cons (pv 10) pa_nil)) (pe_callB (cr_repr hgd hr.units) (by rfl) T.z_repr (by decide +kernel) (pa_cons (pe_lst (pa_cons (pe_tup (pa_cons (pe_callTy call_int_str (by rfl) T.z_int (by decide +kernel) (pa_cons (pv 9) pa_nil)) (pa_cons pe_int pa_nil))) (pa_cons pe_str (pa_cons pe_str (pa_cons pe_str pa_nil))))) pa_nil)) (nomark _)))))))), ?_⟩
  intro ns hl
  show SX K _ _ [.dat (.list (ns.map .int)), .no, .no, .no, .no, .no, .no, .no, .no, .no, .no, .no] _
  dsimp only [bodyK] at *
  refine sx_seq (sx_asgF (fx_call ?_))
  repeat walk_at "m3e"
  refine ⟨[_], ns, rfl, rfl, rfl, hl, fun es hd p => ?_⟩
  dsimp only [List.set_cons_zero, List.set_cons_succ]
  refine sx_cut (fun δ' => ∃ (es : List PyData) (o2 o3 o4 o5 o6 o7 o8 o11 : Sl), Drw es ∧ (∀ q r, o11 ≠ .ml q r) ∧ δ' = [.dat (.list (ns.map .int)), .ml p es, o2, o3, o4, o5, o6, o7, o8, .no, .no, o11]) ?_ ?_
  · refine sx_forR1 tg_name (fun t δ' => ∃ (es : List PyData) (o2 o3 o4 o5 o6 o7 o8 o11 : Sl), Drw es ∧ (∀ q r, o11 ≠ .ml q r) ∧ δ' = [.dat (.list (ns.map .int)), .ml p es, o2, o3, o4, o5, o6, o7, o8, .no, .no, o11]) ?_
    repeat walk_at "m3e"
    refine ⟨by decide, ⟨es, _, _, _, _, _, _, _, .no, hd, (fun _ _ z => nomatch z), rfl⟩, ?_, fun δ' q => q⟩
    rintro t x δ' ht ⟨es, o2, o3, o4, o5, o6, o7, o8, o11, hd, ho, rfl⟩
    refine ⟨trivial, ?_⟩
    dsimp only [List.set_cons_zero, List.set_cons_succ]
    refine sx_seq (sx_asg ?_)
    refine ex_callM (ax_cons (ex_mvar rfl (ax_nil ⟨(), p, _, rfl, rfl, rfl, hd, fun d fs h => ?_⟩)))
    obtain ⟨hd, q, rfl, zq⟩ := h
    have sq := small_sz zq
    refine ⟨_, rfl, ?_⟩
    dsimp only [List.set_cons_zero, List.set_cons_succ]
    refine sx_seq (sx_asg (ex_call (fun _ => .nil) ?_))
    repeat walk_at "m3e"
    refine ⟨[_], q, rfl, rfl, rfl, sq, fun d hd2 => ?_, fun C hC => hC.elim⟩
    subst hd2
    refine ⟨_, rfl, ?_⟩
    dsimp only [List.set_cons_zero, List.set_cons_succ]
    have wl := wr_len sq
    refine sx_guard false ?_ (fun h => by cases h) (fun _ => ?_)
    · refine tx_or (tx_test (ex_op (ex_call (fun _ => .nil) ?_)))
      repeat walk_at "m3e"
      refine ⟨[_], q, rfl, rfl, rfl, ⟨Nat.lt_of_lt_of_le sq.1 (by decide), Nat.lt_of_lt_of_le sq.2 (by decide)⟩, fun d hd2 => ?_, fun C hC => hC.elim⟩
      subst hd2
      refine ex_var rfl (rx_neS ⟨_, rfl, fun h => ?_, fun _ => ?_⟩)
      · simp at h
      refine tx_or (tx_test (ex_op (ex_CB (ax_cons (ex_call (fun _ => .nil) ?_)))))
      repeat walk_at "m3e"
      refine ⟨[_], wrL q, rfl, rfl, rfl, by show (wrL q).length ≤ 1000; omega, fun d hd2 => ?_, fun C hC => hC.elim⟩
      have := due_wr sq hd2
      subst this
      refine ax_nil (vx_repr (rp_small sq) (by decide) (by decide) ?_)
      refine ex_CB (ax_cons (ex_var rfl (ax_nil (vx_repr (rp_small sq) (by decide) (by decide) ?_))))
      refine rx_neS ⟨_, rfl, fun h => ?_, fun _ => ?_⟩
      · simp at h
      refine tx_test (ex_op (ex_call (fun _ => .nil) ?_))
      repeat walk_at "m3e"
      refine ⟨[_], dR q, rfl, rfl, rfl, okR_dR zq, fun d hd2 => ?_, fun C hC => hC.elim⟩
      subst hd2
      refine ex_bl (rx_isnB ⟨_, rfl, ?_, rfl⟩)
      rw [isR_dR]
      rfl
    refine sx_cut (fun δ' => ∃ (es : List PyData) (o4 o5 o6 o7 : Sl), Drw es ∧ δ' = [.dat (.list (ns.map .int)), .ml p es, .dat x, .dat (dR q), o4, o5, o6, o7, o8, .no, .no, o11]) ?_ ?_
    · refine sx_forR1 tg_name (fun k δ' => ∃ (es : List PyData) (l : List Nat) (o5 o6 o7 : Sl), Drw es ∧ l.length ≤ 62 + k ∧ Asc7 l ∧ δ' = [.dat (.list (ns.map .int)), .ml p es, .dat x, .dat (dR q), .dat (.str (SX.S l)), o5, o6, o7, o8, .no, .no, o11]) ?_
      repeat walk_at "m3e"
      refine ⟨by decide, ⟨_, wrL q, _, _, _, hd, by omega, asc_wr q, rfl⟩, ?_, fun δ' ⟨es, l, o5, o6, o7, hd, _, _, e⟩ => ⟨es, _, o5, o6, o7, hd, e⟩⟩
      rintro k y δ' hk ⟨es, l, o5, o6, o7, hd, hl2, asc, rfl⟩
      obtain ⟨hk3, _⟩ := rangeD_at hk
      have hz : (SX.S l).length = l.length := SX.S_len l
      refine ⟨trivial, ?_⟩
      dsimp only [List.set_cons_zero, List.set_cons_succ]
      -- at
      have hz1 : (SX.S l).length ≤ 1000000 := by omega
      refine sx_seq (sx_asg (ex_callM (ax_cons (ex_mvar rfl (ax_cons (ex_op (ex_CB (ax_cons (ex_var rfl (ax_nil (vx_lenS hz1 (ex_int (rx_ii (ax_nil ⟨_, p, _, rfl, rfl, rfl, ⟨hd, by omega⟩, fun d fs h => ?_⟩))))))))))))))
      obtain ⟨hd, i, rfl, i0, i1⟩ := h
      obtain ⟨n, rfl⟩ : ∃ n : Nat, i = n := ⟨i.toNat, by omega⟩
      refine ⟨_, rfl, ?_⟩
      dsimp only [List.set_cons_zero, List.set_cons_succ]
      -- sign
      refine sx_seq (sx_asg (ex_op (ex_listL ?_)))
      repeat walk_at "m3e"
      refine ⟨[_, _, _, _, _, _, _, _], rfl, Nat.le_of_ble_eq_true rfl, ?_⟩
      refine ex_callM (ax_cons (ex_mvar rfl (ax_cons (ex_int (ax_nil ⟨_, p, _, rfl, rfl, rfl, ⟨hd, by decide⟩, fun d fs h => ?_⟩)))))
      obtain ⟨hd, i, rfl, j0, j1⟩ := h
      obtain ⟨c, hc, hat⟩ := sign8 j0 j1
      refine rx_ixL hat ⟨_, rfl, ?_⟩
      dsimp only [List.set_cons_zero, List.set_cons_succ]
      -- text
      have up : ∀ {W : WX} {δ : Sto} {post : Vw → Sto → Prop} {ex : XP}, δ[4]? = some (.dat (.str (SX.S l))) → δ[6]? = some (.dat (.int n)) → post (.d (.str (SX.S (l.take n)))) δ → EX K W (tSl rSlS (tVar 4) tNoPart (tPart (tVar 6))) δ post ex := fun h4 h6 q => by
        refine ex_slS (ex_var h4 (ox_none (ox_some (ex_var h6 ⟨_, rfl, _, rfl, by omega, ?_⟩))))
        rw [SX.slice_to (by omega), Int.toNat_natCast]
        exact q
      have fro : ∀ {W : WX} {δ : Sto} {post : Vw → Sto → Prop} {ex : XP}, δ[4]? = some (.dat (.str (SX.S l))) → δ[6]? = some (.dat (.int n)) → post (.d (.str (SX.S (l.drop n)))) δ → EX K W (tSl rSlS (tVar 4) (tPart (tVar 6)) tNoPart) δ post ex := fun h4 h6 q => by
        refine ex_slS (ex_var h4 (ox_some (ex_var h6 ⟨_, rfl, ox_none ⟨_, rfl, by omega, ?_⟩⟩)))
        rw [SX.slice_from (by omega), Int.toNat_natCast]
        exact q
      have fro1 : ∀ {W : WX} {δ : Sto} {post : Vw → Sto → Prop} {ex : XP}, δ[4]? = some (.dat (.str (SX.S l))) → δ[6]? = some (.dat (.int n)) → post (.d (.str (SX.S (l.drop (n + 1))))) δ → EX K W (tSl rSlS (tVar 4) (tPart (tOp (rI0 fun a b => .int (a + b)) (tVar 6) (tC (.int 1)))) tNoPart) δ post ex := fun h4 h6 q => by
        refine ex_slS (ex_var h4 (ox_some (ex_op (ex_var h6 (ex_int (rx_ii ⟨_, rfl, ox_none ⟨_, rfl, by omega, ?_⟩⟩))))))
        rw [SX.slice_from (by omega), show ((n : Int) + 1).toNat = n + 1 by omega]
        exact q
      have lt : (l.take n).length ≤ l.length := by rw [List.length_take]; omega
      have ld : (l.drop n).length ≤ l.length := by rw [List.length_drop]; omega
      have ld1 : (l.drop (n + 1)).length ≤ l.length := by rw [List.length_drop]; omega
      have c1 : (l.take n).length + (l.drop n).length ≤ l.length := by rw [List.length_take, List.length_drop]; omega
      have c2 : (l.take n).length + (l.drop (n + 1)).length ≤ l.length := by rw [List.length_take, List.length_drop]; omega
      refine sx_seq (sx_asg (ex_op (ex_listL (ax_cons (ex_op (ex_op (up rfl rfl (ex_var rfl (rx_addS (by simp only [SX.S_len, List.length_cons, List.length_nil]; omega) ?_)))))))))
      rw [SX.S_cat]
      refine fro rfl rfl (rx_addS (by simp only [SX.S_len, List.length_append, List.length_cons, List.length_nil]; omega) ?_)
      rw [SX.S_cat]
      refine ax_cons (ex_op (up rfl rfl (fro1 rfl rfl (rx_addS (by simp only [SX.S_len]; omega) ?_))))
      rw [SX.S_cat]
      refine ax_cons (ex_op (ex_op (up rfl rfl (ex_var rfl (rx_addS (by simp only [SX.S_len, List.length_cons, List.length_nil]; omega) ?_)))))
      rw [SX.S_cat]
      refine fro1 rfl rfl (rx_addS (by simp only [SX.S_len, List.length_append, List.length_cons, List.length_nil]; omega) ?_)
      rw [SX.S_cat]
      refine ax_nil ⟨[_, _, _], rfl, Nat.le_of_ble_eq_true rfl, ?_⟩
      refine ex_callM (ax_cons (ex_mvar rfl (ax_cons (ex_int (ax_nil ⟨_, p, _, rfl, rfl, rfl, ⟨hd, by decide⟩, fun d fs h => ?_⟩)))))
      obtain ⟨hd, i, rfl, k0, k1⟩ := h
      obtain ⟨d, hd3, hat3⟩ := three (a := .str (SX.S (l.take n ++ [c] ++ l.drop n))) (b := .str (SX.S (l.take n ++ l.drop (n + 1)))) (c := .str (SX.S (l.take n ++ [c] ++ l.drop (n + 1)))) k0 k1
      refine rx_ixL hat3 ⟨_, rfl, ?_⟩
      obtain ⟨l2, hl3, asc2, rfl⟩ : ∃ l2 : List Nat, l2.length ≤ 62 + (k + 1) ∧ Asc7 l2 ∧ d = .str (SX.S l2) := by
        rcases hd3 with rfl | rfl | rfl
        · exact ⟨_, by simp only [List.length_append, List.length_cons, List.length_nil]; omega, asc_app (asc_app (asc_take asc n) (asc_one hc)) (asc_drop asc n), rfl⟩
        · exact ⟨_, by simp only [List.length_append]; omega, asc_app (asc_take asc n) (asc_drop asc _), rfl⟩
        · exact ⟨_, by simp only [List.length_append, List.length_cons, List.length_nil]; omega, asc_app (asc_app (asc_take asc n) (asc_one hc)) (asc_drop asc _), rfl⟩
      clear hd3 hat3 up fro fro1 lt ld ld1 c1 c2 hat
      dsimp only [List.set_cons_zero, List.set_cons_succ]
      refine sx_if (tx_test (ex_op (ex_CB (ax_cons (ex_call (fun _ => .nil) ?_)))))
      repeat walk_at "m3e"
      refine ⟨[_], l2, rfl, rfl, rfl, by show l2.length ≤ 1000; omega, fun d hd2 => ?_, fun C hC => hC.elim⟩
      refine ax_nil (vx_repr (rp_due hd2) (by decide) (by decide) ?_)
      refine ex_CB (ax_cons (ex_call (fun _ => .nil) ?_))
      repeat walk_at "m3e"
      refine ⟨[_], l2, rfl, rfl, rfl, ⟨by omega, asc2⟩, fun d2 hd3 => ?_, fun C hC => hC.elim⟩
      have := due_same hd2 hd3
      subst this
      refine ax_nil (vx_repr (rp_due hd2) (by decide) (by decide) (rx_neS ⟨_, rfl, fun h => ?_, fun _ => ?_⟩))
      · simp at h
      · exact sx_next ⟨_, l2, _, _, _, hd, hl3, asc2, rfl⟩
    rintro δ' ⟨es, o4, o5, o6, o7, hd, rfl⟩
    -- bad
    have bd2 : Bd 2 2 := ⟨by decide⟩
    have bN : Bd 62 q.num := zq.num
    have bM : Bd 62 (q.den : Int) := zq.den
    refine sx_seq (sx_asg (ex_listL ?_))
    repeat walk_at "m3e"
    refine rx_Ci (mulA bN bd2 (by decide)) ?_
    repeat walk_at "m3e"
    refine rx_Ci (mulA bM bd2 (by decide)) ?_
    repeat walk_at "m3e"
    refine ex_listL ?_
    repeat walk_at "m3e"
    refine ⟨[_, _, _, _, _, _, _, _, _, _], rfl, Nat.le_of_ble_eq_true rfl, _, rfl, ?_⟩
    dsimp only [List.set_cons_zero, List.set_cons_succ]
    show SX K _ _ [.dat (.list (ns.map .int)), .ml p es, .dat x, .dat (dR q), o4, o5, o6, o7, .dat (.list (badL q)), .no, .no, o11] _
    refine sx_if (tx_test (ex_op (ex_F (p := fun ds δ' => ds = (List.replicate 10 false).map PyData.bool ∧ ∃ o, (∀ q r, o ≠ .ml q r) ∧ δ' = [.dat (.list (ns.map .int)), .ml p es, .dat x, .dat (dR q), o4, o5, o6, o7, .dat (.list (badL q)), .no, .no, o]) (fx_lcL tgc_name (fun ds k acc δ' => acc = (List.replicate k false).map PyData.bool ∧ ∃ o, (∀ q r, o ≠ .ml q r) ∧ δ' = [.dat (.list (ns.map .int)), .ml p es, .dat x, .dat (dR q), o4, o5, o6, o7, .dat (.list (badL q)), .no, .no, o]) (ex_var rfl ⟨_, rfl, ?_, ⟨rfl, .no, (fun _ _ z => nomatch z), rfl⟩, ?_, ?_⟩)) ?_)))
    · intro i hi p' es' z
      have ei : i = 11 := by simpa using hi
      subst ei
      exact ho _ _ (Option.some.inj z)
    · rintro k d acc δ' hk ⟨rfl, o, ho', rfl⟩
      obtain ⟨g1, g2⟩ := bad_all zq d (List.mem_of_getElem? hk)
      have hk10 : k < 10 := (List.getElem?_eq_some_iff.mp hk).1
      refine ⟨trivial, tx_yes ⟨fun _ => ?_, fun h => by cases h⟩⟩
      refine ex_call0 (fun _ => .nil) ?_
      refine ax_cons (ex_var rfl (ax_nil ⟨[_], d, rfl, rfl, rfl, g1, fun d2 hd2 => ⟨d2, rfl, ?_, ?_, .no, (fun _ _ z => nomatch z), rfl⟩, fun C hC => hC.elim⟩))
      · rw [List.length_map, List.length_replicate]
        omega
      · rw [hd2, g2, List.replicate_succ', List.map_append]
        rfl
    · rintro acc δ' ⟨rfl, o, ho', rfl⟩
      exact ⟨rfl, o, ho', rfl⟩
    rintro ds δ' ⟨rfl, o, ho', rfl⟩
    refine ex_F (p := fun ds δ' => ds = (List.replicate 10 false).map PyData.bool ∧ δ' = [.dat (.list (ns.map .int)), .ml p es, .dat x, .dat (dR q), o4, o5, o6, o7, .dat (.list (badL q)), .no, .no, o]) (fx_repC (n := 10) (fx_lst (ax_cons (ex_bl (ax_nil ⟨[.bool false], rfl, by decide, by decide, by decide, rfl, rfl⟩))))) ?_
    rintro ds δ' ⟨rfl, rfl⟩
    refine rx_neD (shaped_bools _) (shaped_bools _) ⟨_, rfl, fun h => ?_, fun _ => sx_next ⟨_, _, _, _, _, _, _, _, _, hd, ho', rfl⟩⟩
    rw [eqv_bools] at h
    cases h
  rintro δ' ⟨es, o2, o3, o4, o5, o6, o7, o8, o11, hd, ho, rfl⟩
  refine sx_seq (sx_asg (ex_op (ex_str (ex_op (ex_CB (ax_cons (ex_callM (ax_cons (ex_mvar rfl (ax_cons (ex_int (ax_nil ⟨_, p, _, rfl, rfl, rfl, ⟨hd, by decide⟩, fun d fs h => ?_⟩))))))))))))
  obtain ⟨hd, i, rfl, i0, i1⟩ := h
  obtain ⟨n, rfl⟩ : ∃ n : Nat, i = n := ⟨i.toNat, by omega⟩
  have hn : n < 10 := by omega
  refine ax_nil (vx_strI (by rw [Int.natAbs_natCast]; exact log10 hn) ?_)
  rw [num_str, TL.numL_lt hn]
  refine ex_int (rx_mulS (n := 29) (by decide) (by decide) (Nat.le_refl 1) (show 1 ≤ 1000 by decide) ?_)
  rw [times_one]
  refine rx_addS ?_ ⟨_, rfl, ?_⟩
  · have := SX.S_len (List.replicate 29 (48 + n))
    rw [List.length_replicate] at this
    show 1 + _ ≤ _
    omega
  rw [show (("1" : Str) ++ SX.S (List.replicate 29 (48 + n))) = SX.S (l30 n) from SX.S_cat [49] _]
  dsimp only [List.set_cons_zero, List.set_cons_succ]
  have hL := l30_len n
  -- told
  refine sx_seq (sx_asg (ex_listL ?_))
  refine ax_cons (ex_call (fun _ => .nil) ?_)
  repeat walk_at "m3e"
  refine ⟨[_], l30 n, rfl, rfl, rfl, by show (l30 n).length ≤ 1000; omega, fun d1 h1 => ?_, fun C hC => hC.elim⟩
  have h1 := l30_due hn h1
  subst h1
  refine ax_cons (ex_call (fun _ => .nil) ?_)
  repeat walk_at "m3e"
  refine rx_addS (by rw [SX.S_len, hL]; decide) ?_
  rw [str_one, SX.S_cat]
  refine ax_nil ⟨[_], l30 n ++ [49], rfl, rfl, rfl, by show (l30 n ++ [49]).length ≤ 1000; rw [List.length_append, hL]; decide, fun d1 h1 => ?_, fun C hC => hC.elim⟩
  have h1 := due_none (no_31 (l := l30 n ++ [49]) (by simp [l30]; omega) (by simp [l30]) (by rw [List.length_append, hL]; decide)) h1
  subst h1
  refine ax_cons (ex_call (fun _ => .nil) ?_)
  repeat walk_at "m3e"
  refine rx_addS (by rw [show ("1/" : Str) = SX.S [49, 47] from rfl, SX.S_len, SX.S_len, hL]; decide) ?_
  rw [show ("1/" : Str) = SX.S [49, 47] from rfl, SX.S_cat]
  refine ex_str (rx_addS (by rw [show ("0" : Str) = SX.S [48] from rfl, SX.S_len, SX.S_len, List.length_append, hL]; decide) ?_)
  rw [show ("0" : Str) = SX.S [48] from rfl, SX.S_cat, show [49, 47] ++ l30 n ++ [48] = [49] ++ 47 :: (l30 n ++ [48]) by simp]
  refine ax_nil ⟨[_], [49] ++ 47 :: (l30 n ++ [48]), rfl, rfl, rfl, by show ([49] ++ 47 :: (l30 n ++ [48])).length ≤ 1000; simp only [List.length_append, List.length_cons, List.length_nil, hL]; decide, fun d1 h1 => ?_, fun C hC => hC.elim⟩
  have h1 := due_none (no_b31 (a := [49]) (b := l30 n ++ [48]) (by decide) (by rw [List.length_append, hL]; decide)) h1
  subst h1
  refine ax_cons (ex_call (fun _ => .nil) ?_)
  repeat walk_at "m3e"
  refine ⟨[_], [], rfl, rfl, rfl, Nat.zero_le _, fun d1 h1 => ?_, fun C hC => hC.elim⟩
  have h1 := due_none no_nil h1
  subst h1
  refine ax_nil ⟨[_, _, _, _], rfl, Nat.le_of_ble_eq_true rfl, _, rfl, ?_⟩
  dsimp only [List.set_cons_zero, List.set_cons_succ]
  have hR : Rp 2 60 (.list [.tuple [.int (NumText.digitsVal (l30 n) : Nat), .int 1], .str "none", .str "none", .str "none"]) := by
    have hv : Rp 1 10 (.tuple [.int (NumText.digitsVal (l30 n) : Nat), .int 1]) := rp_small (p := ((NumText.digitsVal (l30 n) : Nat) : Int)) ⟨by
      show ((NumText.digitsVal (l30 n) : Nat) : Int).natAbs < _
      rw [Int.natAbs_natCast]
      exact l30_small hn, by show 1 < _; decide⟩
    have hs : Rp 1 10 (.str "none") := rp_none.mono (by decide) (by decide)
    exact (rp_lst (rp_cons hv (rp_cons hs (rp_cons hs (rp_cons hs (rp_nil (n := 0))))))).mono (by decide) (by decide)
  refine sx_ret (ex_op (ex_CB (ax_cons (ex_var rfl (ax_nil (vx_repr hR (by decide) (by decide) ?_))))))
  refine ex_CB (ax_cons (ex_listL (ax_cons (ex_tup (ax_cons (ex_CB (ax_cons (ex_var rfl (ax_nil (vx_intS (intText_digits (x := SX.S (l30 n)) (l30_dig hn) (by simp [l30]) (by rw [SX.S_len, hL]; decide)) (by rw [SX.S_len, hL]; decide) ?_))))))))))
  refine ax_cons (ex_int (ax_nil ⟨[_, _], rfl, Nat.le_of_ble_eq_true rfl, ?_⟩))
  refine ax_cons (ex_str (ax_cons (ex_str (ax_cons (ex_str (ax_nil ⟨[_, _, _, _], rfl, Nat.le_of_ble_eq_true rfl, ?_⟩))))))
  refine ax_nil (vx_repr hR (by decide) (by decide) (rx_eqS ⟨_, rfl, ?_⟩))
  exact congrArg PyData.bool (decide_eq_true rfl)
end
theorem all_mk {P q : Program} {w : World} {K : PySem.W.Frag} {h : Heap} {mg : Str → Option Value} {fa : Addr} (X : K.In h) (G : h.Ns mainGlobals mg) (hfa : mg "law" = some (.ref fa)) (own : M3.OwnTabs K q mg h)
    {od0 an0 : Option Addr} {sl0 : Array (Option Value)} {oc0 kV0 dc0 pm0 cd0 ct0 : Value} {f0 : Addr} 
    (a0 : PySem.W.nsIn K mainGlobals "is_whole" = some (some (.ref f0))) (l0 : K.lookup f0 = some ⟨oc0, od0, .func (PySem.W.fnOf "is_whole" "is_whole" (defArgs s_is_whole) (defBody s_is_whole) (defScope s_is_whole) .none kV0 dc0 pm0 an0 cd0 ct0), sl0⟩) (c0 : PySem.W.codeIn K cd0 "is_whole" = true) (k0 : PySem.W.keepIn K (.ref f0) = true) {od1 an1 : Option Addr} {sl1 : Array (Option Value)} {oc1 kV1 dc1 pm1 cd1 ct1 : Value} {f1 : Addr} {t1 : Addr} {do1 : Value} {dd1 : Option Addr} {dn1 : Nat} {ds1 : Array (Option Value)} {dt1 : Tok} 
    (a1 : PySem.W.nsIn K mainGlobals "ratio" = some (some (.ref f1))) (l1 : K.lookup f1 = some ⟨oc1, od1, .func (PySem.W.fnOf "ratio" "ratio" (defArgs s_ratio) (defBody s_ratio) (defScope s_ratio) (.ref t1) kV1 dc1 pm1 an1 cd1 ct1), sl1⟩) (c1 : PySem.W.codeIn K cd1 "ratio" = true) (k1 : PySem.W.keepIn K (.ref f1) = true)  (e1 : K.lookup t1 = some ⟨do1, dd1, .seq #[.int 1 dt1] dn1, ds1⟩) {od2 an2 : Option Addr} {sl2 : Array (Option Value)} {oc2 kV2 dc2 pm2 cd2 ct2 : Value} {f2 : Addr} 
    (a2 : PySem.W.nsIn K mainGlobals "is_ratio" = some (some (.ref f2))) (l2 : K.lookup f2 = some ⟨oc2, od2, .func (PySem.W.fnOf "is_ratio" "is_ratio" (defArgs s_is_ratio) (defBody s_is_ratio) (defScope s_is_ratio) .none kV2 dc2 pm2 an2 cd2 ct2), sl2⟩) (c2 : PySem.W.codeIn K cd2 "is_ratio" = true) (k2 : PySem.W.keepIn K (.ref f2) = true) {od3 an3 : Option Addr} {sl3 : Array (Option Value)} {oc3 kV3 dc3 pm3 cd3 ct3 : Value} {f3 : Addr} 
    (a3 : PySem.W.nsIn K mainGlobals "write_whole" = some (some (.ref f3))) (l3 : K.lookup f3 = some ⟨oc3, od3, .func (PySem.W.fnOf "write_whole" "write_whole" (defArgs s_write_whole) (defBody s_write_whole) (defScope s_write_whole) .none kV3 dc3 pm3 an3 cd3 ct3), sl3⟩) (c3 : PySem.W.codeIn K cd3 "write_whole" = true) (k3 : PySem.W.keepIn K (.ref f3) = true) {od4 an4 : Option Addr} {sl4 : Array (Option Value)} {oc4 kV4 dc4 pm4 cd4 ct4 : Value} {f4 : Addr} 
    (a4 : PySem.W.nsIn K mainGlobals "write_ratio" = some (some (.ref f4))) (l4 : K.lookup f4 = some ⟨oc4, od4, .func (PySem.W.fnOf "write_ratio" "write_ratio" (defArgs s_write_ratio) (defBody s_write_ratio) (defScope s_write_ratio) .none kV4 dc4 pm4 an4 cd4 ct4), sl4⟩) (c4 : PySem.W.codeIn K cd4 "write_ratio" = true) (k4 : PySem.W.keepIn K (.ref f4) = true) {od5 an5 : Option Addr} {sl5 : Array (Option Value)} {oc5 kV5 dc5 pm5 ct5 : Value} {f5 : Addr} {cc5 : Addr} 
    (a5 : PySem.W.nsIn K mainGlobals "are_digits" = some (some (.ref f5))) (l5 : K.lookup f5 = some ⟨oc5, od5, .func (PySem.W.fnOf "are_digits" "are_digits" (defArgs s_are_digits) (defBody s_are_digits) (defScope s_are_digits) .none kV5 dc5 pm5 an5 (.ref cc5) ct5), sl5⟩) (c5 : PySem.W.codeIn K (.ref cc5) "are_digits" = true) (k5 : PySem.W.keepIn K (.ref f5) = true)
    (hr5 : ((recsOf q).any fun e => e.name == ("are_digits" : Str)) = true) (nT5 : K.lookup (M3.tabAt K cc5) = none) (hC5 : PySem.W.codeHdIn K cc5 (M3.tabAt K cc5) = true) {od6 an6 : Option Addr} {sl6 : Array (Option Value)} {oc6 kV6 dc6 pm6 cd6 ct6 : Value} {f6 : Addr} 
    (a6 : PySem.W.nsIn K mainGlobals "read_ratio" = some (some (.ref f6))) (l6 : K.lookup f6 = some ⟨oc6, od6, .func (PySem.W.fnOf "read_ratio" "read_ratio" (defArgs s_read_ratio) (defBody s_read_ratio) (defScope s_read_ratio) .none kV6 dc6 pm6 an6 cd6 ct6), sl6⟩) (c6 : PySem.W.codeIn K cd6 "read_ratio" = true) (k6 : PySem.W.keepIn K (.ref f6) = true) {od7 an7 : Option Addr} {sl7 : Array (Option Value)} {oc7 kV7 dc7 pm7 cd7 ct7 : Value} {f7 : Addr} 
    (a7 : PySem.W.nsIn K mainGlobals "_law_draws" = some (some (.ref f7))) (l7 : K.lookup f7 = some ⟨oc7, od7, .func (PySem.W.fnOf "_law_draws" "_law_draws" (defArgs s__law_draws) (defBody s__law_draws) (defScope s__law_draws) .none kV7 dc7 pm7 an7 cd7 ct7), sl7⟩) (c7 : PySem.W.codeIn K cd7 "_law_draws" = true) (k7 : PySem.W.keepIn K (.ref f7) = true) {od8 an8 : Option Addr} {sl8 : Array (Option Value)} {oc8 kV8 dc8 pm8 cd8 ct8 : Value} {f8 : Addr} 
    (a8 : PySem.W.nsIn K mainGlobals "_law_take" = some (some (.ref f8))) (l8 : K.lookup f8 = some ⟨oc8, od8, .func (PySem.W.fnOf "_law_take" "_law_take" (defArgs s__law_take) (defBody s__law_take) (defScope s__law_take) .none kV8 dc8 pm8 an8 cd8 ct8), sl8⟩) (c8 : PySem.W.codeIn K cd8 "_law_take" = true) (k8 : PySem.W.keepIn K (.ref f8) = true) {od9 an9 : Option Addr} {sl9 : Array (Option Value)} {oc9 kV9 dc9 pm9 cd9 ct9 : Value} {f9 : Addr} 
    (a9 : PySem.W.nsIn K mainGlobals "_law_ratio" = some (some (.ref f9))) (l9 : K.lookup f9 = some ⟨oc9, od9, .func (PySem.W.fnOf "_law_ratio" "_law_ratio" (defArgs s__law_ratio) (defBody s__law_ratio) (defScope s__law_ratio) .none kV9 dc9 pm9 an9 cd9 ct9), sl9⟩) (c9 : PySem.W.codeIn K cd9 "_law_ratio" = true) (k9 : PySem.W.keepIn K (.ref f9) = true) {od10 an10 : Option Addr} {sl10 : Array (Option Value)} {oc10 kV10 dc10 pm10 cd10 ct10 : Value} {f10 : Addr} 
    (a10 : PySem.W.nsIn K mainGlobals "_law_text" = some (some (.ref f10))) (l10 : K.lookup f10 = some ⟨oc10, od10, .func (PySem.W.fnOf "_law_text" "_law_text" (defArgs s__law_text) (defBody s__law_text) (defScope s__law_text) .none kV10 dc10 pm10 an10 cd10 ct10), sl10⟩) (c10 : PySem.W.codeIn K cd10 "_law_text" = true) (k10 : PySem.W.keepIn K (.ref f10) = true) {od11 an11 : Option Addr} {sl11 : Array (Option Value)} {oc11 kV11 dc11 pm11 cd11 ct11 : Value} {f11 : Addr} 
    (a11 : PySem.W.nsIn K mainGlobals "_law_told" = some (some (.ref f11))) (l11 : K.lookup f11 = some ⟨oc11, od11, .func (PySem.W.fnOf "_law_told" "_law_told" (defArgs s__law_told) (defBody s__law_told) (defScope s__law_told) .none kV11 dc11 pm11 an11 cd11 ct11), sl11⟩) (c11 : PySem.W.codeIn K cd11 "_law_told" = true) (k11 : PySem.W.keepIn K (.ref f11) = true) {od12 an12 : Option Addr} {sl12 : Array (Option Value)} {oc12 kV12 dc12 pm12 cd12 ct12 : Value} {f12 : Addr} 
    (a12 : PySem.W.nsIn K mainGlobals "_law_part" = some (some (.ref f12))) (l12 : K.lookup f12 = some ⟨oc12, od12, .func (PySem.W.fnOf "_law_part" "_law_part" (defArgs s__law_part) (defBody s__law_part) (defScope s__law_part) .none kV12 dc12 pm12 an12 cd12 ct12), sl12⟩) (c12 : PySem.W.codeIn K cd12 "_law_part" = true) (k12 : PySem.W.keepIn K (.ref f12) = true) {od13 an13 : Option Addr} {sl13 : Array (Option Value)} {oc13 kV13 dc13 pm13 cd13 ct13 : Value} {f13 : Addr} 
    (a13 : PySem.W.nsIn K mainGlobals "_law_due" = some (some (.ref f13))) (l13 : K.lookup f13 = some ⟨oc13, od13, .func (PySem.W.fnOf "_law_due" "_law_due" (defArgs s__law_due) (defBody s__law_due) (defScope s__law_due) .none kV13 dc13 pm13 an13 cd13 ct13), sl13⟩) (c13 : PySem.W.codeIn K cd13 "_law_due" = true) (k13 : PySem.W.keepIn K (.ref f13) = true) {od14 an14 : Option Addr} {sl14 : Array (Option Value)} {oc14 kV14 dc14 pm14 cd14 ct14 : Value} {f14 : Addr} 
    (a14 : PySem.W.nsIn K mainGlobals "law" = some (some (.ref f14))) (l14 : K.lookup f14 = some ⟨oc14, od14, .func (PySem.W.fnOf "law" "law" (defArgs s_law) (defBody s_law) (defScope s_law) .none kV14 dc14 pm14 an14 cd14 ct14), sl14⟩) (c14 : PySem.W.codeIn K cd14 "law" = true) (k14 : PySem.W.keepIn K (.ref f14) = true) {C0 : Addr} 
    (gx0 : PySem.W.nsIn K mainGlobals "NotNumber" = some (some (.ref C0))) (kx0 : PySem.W.keepIn K (.ref C0) = true) (xx0 : PySem.W.excIn K C0 [.type "ValueError", .type "Exception", .type "BaseException", .type "object"] "ValueError.__new__" = true) (bx0 : PySem.W.subIn K (.ref C0) (.type "BaseException") = some true) (tx0 : PySem.W.typeIn K (.ref C0) = some (.type "type")) (ix0 : PySem.W.isClsIn K C0 = true) (sx0 : PySem.W.subIn K (.ref C0) (.ref C0) = some true) {C1 : Addr} 
    (gx1 : PySem.W.nsIn K mainGlobals "MitreError" = some (some (.ref C1))) (kx1 : PySem.W.keepIn K (.ref C1) = true) (xx1 : PySem.W.excIn K C1 [.type "ValueError", .type "Exception", .type "BaseException", .type "object"] "ValueError.__new__" = true) (bx1 : PySem.W.subIn K (.ref C1) (.type "BaseException") = some true) (tx1 : PySem.W.typeIn K (.ref C1) = some (.type "type")) (ix1 : PySem.W.isClsIn K C1 = true) (sx1 : PySem.W.subIn K (.ref C1) (.ref C1) = some true) {cz0 : Tok}
    (hz0 : PySem.W.nsIn K mainGlobals "CHUNK" = some (some (.int 10000000000000000000000000000000000000000000000000000000000000000 cz0))) {cz1 : Tok}
    (hz1 : PySem.W.nsIn K mainGlobals "CHUNK_DIGITS" = some (some (.int 64 cz1))) {cz2 : Tok}
    (hz2 : PySem.W.nsIn K mainGlobals "DIGITS" = some (some (.str "0123456789" cz2))) {cz3 : Tok}
    (hz3 : PySem.W.nsIn K mainGlobals "MOST_DIGITS" = some (some (.int 30 cz3))) 
    (z0 : PySem.W.nsIn K mainGlobals "abs" = some none) 
    (z1 : PySem.W.nsIn K mainGlobals "all" = some none) 
    (z2 : PySem.W.nsIn K mainGlobals "bool" = some none) 
    (z3 : PySem.W.nsIn K mainGlobals "divmod" = some none) 
    (z4 : PySem.W.nsIn K mainGlobals "int" = some none) 
    (z5 : PySem.W.nsIn K mainGlobals "isinstance" = some none) 
    (z6 : PySem.W.nsIn K mainGlobals "len" = some none) 
    (z7 : PySem.W.nsIn K mainGlobals "list" = some none) 
    (z8 : PySem.W.nsIn K mainGlobals "range" = some none) 
    (z9 : PySem.W.nsIn K mainGlobals "repr" = some none) 
    (z10 : PySem.W.nsIn K mainGlobals "reversed" = some none) 
    (z11 : PySem.W.nsIn K mainGlobals "str" = some none) 
    (z12 : PySem.W.nsIn K mainGlobals "tuple" = some none) 
    (y0 : PySem.W.nsIn K mainGlobals "gcd" = some (some (.builtin "math.gcd"))) :
    ∃ (N : NmC) (fd : FuncData) (cs : List (Addr × Addr)), (∀ p ∈ cs, h.get? p.2 = some emptyT) ∧ (∀ p ∈ cs, K.lookup p.2 = none) ∧ (∀ p ∈ cs, PySem.W.CodeHd h p.1 p.2) ∧ (∀ Q, N.tb Q → Q ∈ cs.map (·.2)) ∧
      (∀ (s : Shared) (v : Value), BindsTo s fd ⟨[v], []⟩ [("script", v)]) ∧ ∀ base : Heap, K.In base → base.Ns mainGlobals mg → (∀ p ∈ cs, TabX base mg p.1 p.2) → FnG P w K mg base 5 fa fd ["script"] (@spScript N K) := by
  generalize M3.tabAt K cc5 = P5 at nT5 hC5
  letI N : NmC := ⟨fun P q => False, fun P => P = P5⟩
  have hT5 := own_get (own _ _ hr5 (PySem.W.mg_of X G a5)) l5 rfl hC5
  have e := hfa.symm.trans (PySem.W.mg_of X G a14)
  cases e
  have F0 := fd_mk (st := s_is_whole) l0 c0 k0
  have b0 := Binds.all (K := K) (fd := PySem.W.fnOf "is_whole" "is_whole" (defArgs s_is_whole) (defBody s_is_whole) (defScope s_is_whole) .none kV0 dc0 pm0 an0 cd0 ct0) (ps := ["value"]) fun us hl => match us, hl with | [_], _ => rfl
  have F1 := fd_mk (st := s_ratio) l1 c1 k1
  have D1 : FunD K "ratio" "ratio" (defArgs s_ratio) (defBody s_ratio) (defScope s_ratio) [.int 1] [] f1 _ := ⟨⟨oc1, od1, _, kV1, dc1, pm1, an1, cd1, ct1, sl1, rfl, l1, c1, .inr ⟨by simp, t1, _, _, dn1, rfl, e1, rfl, .cons ⟨_, rfl⟩ .nil⟩, .inl rfl⟩, k1⟩
  obtain ⟨v1, q1, b1⟩ := D1.binds1 (ps := ["above", "below"]) 2 1 (by simp) rfl (fun T kV doc pm an cdv ct us its h1 h2 => match us, its, h1, h2 with | [_, _], [_], _, _ => ⟨_, rfl, rfl⟩)
  cases q1
  obtain ⟨w1, r1, bd1⟩ := D1.binds1 (ps := ["above", "below"]) 1 0 (by simp) rfl (fun T kV doc pm an cdv ct us its h1 h2 => match us, its, h1, h2 with | [_], [_], _, _ => ⟨_, rfl, rfl⟩)
  have F2 := fd_mk (st := s_is_ratio) l2 c2 k2
  have b2 := Binds.all (K := K) (fd := PySem.W.fnOf "is_ratio" "is_ratio" (defArgs s_is_ratio) (defBody s_is_ratio) (defScope s_is_ratio) .none kV2 dc2 pm2 an2 cd2 ct2) (ps := ["value"]) fun us hl => match us, hl with | [_], _ => rfl
  have F3 := fd_mk (st := s_write_whole) l3 c3 k3
  have b3 := Binds.all (K := K) (fd := PySem.W.fnOf "write_whole" "write_whole" (defArgs s_write_whole) (defBody s_write_whole) (defScope s_write_whole) .none kV3 dc3 pm3 an3 cd3 ct3) (ps := ["number"]) fun us hl => match us, hl with | [_], _ => rfl
  have F4 := fd_mk (st := s_write_ratio) l4 c4 k4
  have b4 := Binds.all (K := K) (fd := PySem.W.fnOf "write_ratio" "write_ratio" (defArgs s_write_ratio) (defBody s_write_ratio) (defScope s_write_ratio) .none kV4 dc4 pm4 an4 cd4 ct4) (ps := ["one"]) fun us hl => match us, hl with | [_], _ => rfl
  have F5 := fd_mk (st := s_are_digits) l5 c5 k5
  have b5 := Binds.all (K := K) (fd := PySem.W.fnOf "are_digits" "are_digits" (defArgs s_are_digits) (defBody s_are_digits) (defScope s_are_digits) .none kV5 dc5 pm5 an5 (.ref cc5) ct5) (ps := ["text"]) fun us hl => match us, hl with | [_], _ => rfl
  have F6 := fd_mk (st := s_read_ratio) l6 c6 k6
  have b6 := Binds.all (K := K) (fd := PySem.W.fnOf "read_ratio" "read_ratio" (defArgs s_read_ratio) (defBody s_read_ratio) (defScope s_read_ratio) .none kV6 dc6 pm6 an6 cd6 ct6) (ps := ["word"]) fun us hl => match us, hl with | [_], _ => rfl
  have F7 := fd_mk (st := s__law_draws) l7 c7 k7
  have b7 := Binds.all (K := K) (fd := PySem.W.fnOf "_law_draws" "_law_draws" (defArgs s__law_draws) (defBody s__law_draws) (defScope s__law_draws) .none kV7 dc7 pm7 an7 cd7 ct7) (ps := ["script"]) fun us hl => match us, hl with | [_], _ => rfl
  have F8 := fd_mk (st := s__law_take) l8 c8 k8
  have b8 := Binds.all (K := K) (fd := PySem.W.fnOf "_law_take" "_law_take" (defArgs s__law_take) (defBody s__law_take) (defScope s__law_take) .none kV8 dc8 pm8 an8 cd8 ct8) (ps := ["draws", "bound"]) fun us hl => match us, hl with | [_, _], _ => rfl
  have F9 := fd_mk (st := s__law_ratio) l9 c9 k9
  have b9 := Binds.all (K := K) (fd := PySem.W.fnOf "_law_ratio" "_law_ratio" (defArgs s__law_ratio) (defBody s__law_ratio) (defScope s__law_ratio) .none kV9 dc9 pm9 an9 cd9 ct9) (ps := ["draws"]) fun us hl => match us, hl with | [_], _ => rfl
  have F10 := fd_mk (st := s__law_text) l10 c10 k10
  have b10 := Binds.all (K := K) (fd := PySem.W.fnOf "_law_text" "_law_text" (defArgs s__law_text) (defBody s__law_text) (defScope s__law_text) .none kV10 dc10 pm10 an10 cd10 ct10) (ps := ["one"]) fun us hl => match us, hl with | [_], _ => rfl
  have F11 := fd_mk (st := s__law_told) l11 c11 k11
  have b11 := Binds.all (K := K) (fd := PySem.W.fnOf "_law_told" "_law_told" (defArgs s__law_told) (defBody s__law_told) (defScope s__law_told) .none kV11 dc11 pm11 an11 cd11 ct11) (ps := ["text"]) fun us hl => match us, hl with | [_], _ => rfl
  have F12 := fd_mk (st := s__law_part) l12 c12 k12
  have b12 := Binds.all (K := K) (fd := PySem.W.fnOf "_law_part" "_law_part" (defArgs s__law_part) (defBody s__law_part) (defScope s__law_part) .none kV12 dc12 pm12 an12 cd12 ct12) (ps := ["word"]) fun us hl => match us, hl with | [_], _ => rfl
  have F13 := fd_mk (st := s__law_due) l13 c13 k13
  have b13 := Binds.all (K := K) (fd := PySem.W.fnOf "_law_due" "_law_due" (defArgs s__law_due) (defBody s__law_due) (defScope s__law_due) .none kV13 dc13 pm13 an13 cd13 ct13) (ps := ["text"]) fun us hl => match us, hl with | [_], _ => rfl
  have F14 := fd_mk (st := s_law) l14 c14 k14
  have b14 := Binds.all (K := K) (fd := PySem.W.fnOf "law" "law" (defArgs s_law) (defBody s_law) (defScope s_law) .none kV14 dc14 pm14 an14 cd14 ct14) (ps := ["script"]) fun us hl => match us, hl with | [_], _ => rfl
  have m0 : PySem.W.exmOne K (.ref C0) (.ref C0) = some true := exm_self bx0 ix0 tx0 sx0
  have m1 : PySem.W.exmOne K (.ref C1) (.ref C1) = some true := exm_self bx1 ix1 tx1 sx1
  have T : Txt K mg ⟨f0, _, f1, _, f2, _, f3, _, f4, _, f5, _, f6, _, f7, _, f8, _, f9, _, f10, _, f11, _, f12, _, f13, _, fa, _, C0, C1, cc5, P5, w1, cz0, cz1, cz2, cz3⟩ := ⟨F0, PySem.W.mg_of X G a0, k0, b0, F1, PySem.W.mg_of X G a1, k1, b1, F2, PySem.W.mg_of X G a2, k2, b2, F3, PySem.W.mg_of X G a3, k3, b3, F4, PySem.W.mg_of X G a4, k4, b4, F5, PySem.W.mg_of X G a5, k5, b5, F6, PySem.W.mg_of X G a6, k6, b6, F7, PySem.W.mg_of X G a7, k7, b7, F8, PySem.W.mg_of X G a8, k8, b8, F9, PySem.W.mg_of X G a9, k9, b9, F10, PySem.W.mg_of X G a10, k10, b10, F11, PySem.W.mg_of X G a11, k11, b11, F12, PySem.W.mg_of X G a12, k12, b12, F13, PySem.W.mg_of X G a13, k13, b13, F14, PySem.W.mg_of X G a14, k14, b14, (fun cdv ⟨o, fd, e1, e2, e3⟩ => by rw [l5] at e1; cases e1; cases e2; exact e3.symm), (fun q h => h), rfl, r1, bd1, PySem.W.mg_of X G gx0, kx0, xx0, bx0, tx0, m0, PySem.W.mg_of X G gx1, kx1, xx1, bx1, tx1, m1, PySem.W.mg_of X G hz0, PySem.W.mg_of X G hz1, PySem.W.mg_of X G hz2, PySem.W.mg_of X G hz3, PySem.W.mg_none_of X G z0, PySem.W.mg_none_of X G z1, PySem.W.mg_none_of X G z2, PySem.W.mg_none_of X G z3, PySem.W.mg_none_of X G z4, PySem.W.mg_none_of X G z5, PySem.W.mg_none_of X G z6, PySem.W.mg_none_of X G z7, PySem.W.mg_none_of X G z8, PySem.W.mg_none_of X G z9, PySem.W.mg_none_of X G z10, PySem.W.mg_none_of X G z11, PySem.W.mg_none_of X G z12, PySem.W.mg_of X G y0⟩
  refine ⟨N, PySem.W.fnOf "law" "law" (defArgs s_law) (defBody s_law) (defScope s_law) .none kV14 dc14 pm14 an14 cd14 ct14, [(cc5, P5)], (fun p hp => by rw [List.mem_singleton.mp hp]; exact hT5), (fun p hp => by rw [List.mem_singleton.mp hp]; exact nT5), (fun p hp => by rw [List.mem_singleton.mp hp]; exact PySem.W.codeHd_of_K X hC5), fun Q hQ => by rw [show Q = P5 from hQ]; exact List.mem_singleton.mpr rfl, fun s v => .of_eq rfl, fun base _ _ hX => ?_⟩
  have TB_are_digits : LamX.TabB base mg cc5 P5 := by
    have t := hX (cc5, P5) (List.mem_singleton.mpr rfl)
    exact ⟨t.hd, t.bm, t.ne⟩
  have o_is_whole := ok_is_whole (P := P) (w := w) (base := base) T
  have o_ratio := ok_ratio (P := P) (w := w) (base := base) T
  have o_is_ratio := ok_is_ratio (P := P) (w := w) (base := base) T o_is_whole
  have o_write_whole := ok_write_whole (P := P) (w := w) (base := base) T
  have o_write_ratio := ok_write_ratio (P := P) (w := w) (base := base) T o_write_whole
  have o_are_digits := ok_are_digits (P := P) (w := w) (base := base) T TB_are_digits
  have o_read_ratio := ok_read_ratio (P := P) (w := w) (base := base) T o_ratio o_write_ratio o_are_digits
  have o__law_draws := ok__law_draws (P := P) (w := w) (base := base) T
  have o__law_take := ok__law_take (P := P) (w := w) (base := base) T
  have o__law_ratio := ok__law_ratio (P := P) (w := w) (base := base) T o__law_take o_ratio
  have o__law_text := ok__law_text (P := P) (w := w) (base := base) T
  have o__law_told := ok__law_told (P := P) (w := w) (base := base) T o_read_ratio
  have o__law_part := ok__law_part (P := P) (w := w) (base := base) T
  have o__law_due := ok__law_due (P := P) (w := w) (base := base) T o__law_part o_ratio
  have o_law := ok_law (P := P) (w := w) (base := base) T o__law_draws o__law_ratio o__law_text o__law_told o__law_take o_write_ratio o_is_ratio o__law_due
  exact o_law
end K01
open PySem PySem.W PyProof.Rows
set_option maxRecDepth 100000 in
set_option maxHeartbeats 0 in
theorem PySem.Challenge.cw_mitrehouse_k01_texts_of_ratios_holds : PySem.Challenge.rw_mitrehouse_k01_texts_of_ratios.Holds := by
  w_on; o_law; k_head; (case hw => w_witness2)
  k_fill
  refine M3.walk_law3 (l := PySem.Challenge.rw_mitrehouse_k01_texts_of_ratios) (k := 5) (x := "script") rfl rfl ⟨rfl, by decide, by decide⟩ (fun w h Y => PySem.W.kIn_of Y) ?F
  case F =>
    intro w mg fa h Y KX G hmg own
    refine' K01.all_mk KX G hmg own ?a0 ?l0 ?c0 ?k0 ?a1 ?l1 ?c1 ?k1 ?e1 ?a2 ?l2 ?c2 ?k2 ?a3 ?l3 ?c3 ?k3 ?a4 ?l4 ?c4 ?k4 ?a5 ?l5 ?c5 ?k5 ?hr5 ?nT5 ?hC5 ?a6 ?l6 ?c6 ?k6 ?a7 ?l7 ?c7 ?k7 ?a8 ?l8 ?c8 ?k8 ?a9 ?l9 ?c9 ?k9 ?a10 ?l10 ?c10 ?k10 ?a11 ?l11 ?c11 ?k11 ?a12 ?l12 ?c12 ?k12 ?a13 ?l13 ?c13 ?k13 ?a14 ?l14 ?c14 ?k14 ?gx0 ?kx0 ?xx0 ?bx0 ?tx0 ?ix0 ?sx0 ?gx1 ?kx1 ?xx1 ?bx1 ?tx1 ?ix1 ?sx1 ?hz0 ?hz1 ?hz2 ?hz3 ?z0 ?z1 ?z2 ?z3 ?z4 ?z5 ?z6 ?z7 ?z8 ?z9 ?z10 ?z11 ?z12 ?y0
    (case a0 => first | k_is | k_exc | rfl); (case l0 => first | k_is | k_exc | rfl); (case c0 => first | k_is | k_exc | rfl); (case k0 => first | k_is | k_exc | rfl); (case a1 => first | k_is | k_exc | rfl); (case l1 => first | k_is | k_exc | rfl); (case c1 => first | k_is | k_exc | rfl); (case k1 => first | k_is | k_exc | rfl); (case e1 => first | k_is | k_exc | rfl); (case a2 => first | k_is | k_exc | rfl); (case l2 => first | k_is | k_exc | rfl); (case c2 => first | k_is | k_exc | rfl); (case k2 => first | k_is | k_exc | rfl); (case a3 => first | k_is | k_exc | rfl); (case l3 => first | k_is | k_exc | rfl); (case c3 => first | k_is | k_exc | rfl); (case k3 => first | k_is | k_exc | rfl); (case a4 => first | k_is | k_exc | rfl); (case l4 => first | k_is | k_exc | rfl); (case c4 => first | k_is | k_exc | rfl); (case k4 => first | k_is | k_exc | rfl); (case a5 => first | k_is | k_exc | rfl); (case l5 => first | k_is | k_exc | rfl); (case c5 => first | k_is | k_exc | rfl); (case k5 => first | k_is | k_exc | rfl); (case hr5 => first | rfl | decide +kernel); (case nT5 => first | rfl | k_is); (case hC5 => first | rfl | k_is); (case a6 => first | k_is | k_exc | rfl); (case l6 => first | k_is | k_exc | rfl); (case c6 => first | k_is | k_exc | rfl); (case k6 => first | k_is | k_exc | rfl); (case a7 => first | k_is | k_exc | rfl); (case l7 => first | k_is | k_exc | rfl); (case c7 => first | k_is | k_exc | rfl); (case k7 => first | k_is | k_exc | rfl); (case a8 => first | k_is | k_exc | rfl); (case l8 => first | k_is | k_exc | rfl); (case c8 => first | k_is | k_exc | rfl); (case k8 => first | k_is | k_exc | rfl); (case a9 => first | k_is | k_exc | rfl); (case l9 => first | k_is | k_exc | rfl); (case c9 => first | k_is | k_exc | rfl); (case k9 => first | k_is | k_exc | rfl); (case a10 => first | k_is | k_exc | rfl); (case l10 => first | k_is | k_exc | rfl); (case c10 => first | k_is | k_exc | rfl); (case k10 => first | k_is | k_exc | rfl); (case a11 => first | k_is | k_exc | rfl); (case l11 => first | k_is | k_exc | rfl); (case c11 => first | k_is | k_exc | rfl); (case k11 => first | k_is | k_exc | rfl); (case a12 => first | k_is | k_exc | rfl); (case l12 => first | k_is | k_exc | rfl); (case c12 => first | k_is | k_exc | rfl); (case k12 => first | k_is | k_exc | rfl); (case a13 => first | k_is | k_exc | rfl); (case l13 => first | k_is | k_exc | rfl); (case c13 => first | k_is | k_exc | rfl); (case k13 => first | k_is | k_exc | rfl); (case a14 => first | k_is | k_exc | rfl); (case l14 => first | k_is | k_exc | rfl); (case c14 => first | k_is | k_exc | rfl); (case k14 => first | k_is | k_exc | rfl); (case gx0 => first | k_is | k_exc | rfl); (case kx0 => first | k_is | k_exc | rfl); (case xx0 => first | k_is | k_exc | rfl); (case bx0 => first | k_is | k_exc | rfl); (case tx0 => first | k_is | k_exc | rfl); (case ix0 => first | k_is | k_exc | rfl); (case sx0 => first | k_is | k_exc | rfl); (case gx1 => first | k_is | k_exc | rfl); (case kx1 => first | k_is | k_exc | rfl); (case xx1 => first | k_is | k_exc | rfl); (case bx1 => first | k_is | k_exc | rfl); (case tx1 => first | k_is | k_exc | rfl); (case ix1 => first | k_is | k_exc | rfl); (case sx1 => first | k_is | k_exc | rfl); (case hz0 => first | k_is | k_exc | rfl); (case hz1 => first | k_is | k_exc | rfl); (case hz2 => first | k_is | k_exc | rfl); (case hz3 => first | k_is | k_exc | rfl); (case z0 => first | k_is | k_exc | rfl); (case z1 => first | k_is | k_exc | rfl); (case z2 => first | k_is | k_exc | rfl); (case z3 => first | k_is | k_exc | rfl); (case z4 => first | k_is | k_exc | rfl); (case z5 => first | k_is | k_exc | rfl); (case z6 => first | k_is | k_exc | rfl); (case z7 => first | k_is | k_exc | rfl); (case z8 => first | k_is | k_exc | rfl); (case z9 => first | k_is | k_exc | rfl); (case z10 => first | k_is | k_exc | rfl); (case z11 => first | k_is | k_exc | rfl); (case z12 => first | k_is | k_exc | rfl); (case y0 => first | k_is | k_exc | rfl)
