import PyProof.Rows.All
import Wide.All
import OpenK.AllK
import Wide.FinOn
import HandS.ForMost
import HandS.ForExc
import HandS.Gcd
import HandS.Wide
import HandS.IsInst
import HandS.TryMany
import HandS.Flow
import HandS.Defaults
import PySem.Challenge.RW_mitrehouse_k00_ratios
set_option Elab.async false
set_option linter.all false
set_option maxRecDepth 100000
set_option maxHeartbeats 1000000
/-! Abstract stores over the hand layer: slots hold data (PyData) or lists of one's own that may still change. -/
namespace M3
open PySem PySem.Spec PyProof.Rows L2

/-! ### data -/
def kD : Key → PyData
  | .inl i => .int i
  | .inr s => .str s
mutual
inductive Dd (K : PySem.W.Frag) (H : Hp) : V → PyData → Prop
  | non : Dd K H .non .none
  | bl (b : Bool) : Dd K H (.bl b) (.bool b)
  | int (i : Int) : Dd K H (.int i) (.int i)
  | str (x : Str) : Dd K H (.str x) (.str x)
  | lst {a : Addr} {xs : List V} {ds : List PyData} (h : SqL K H a xs) (r : Da K H xs ds) : Dd K H (.ref a) (.list ds)
  | tup {a : Addr} {xs : List V} {ds : List PyData} (h : SqT K H a xs) (r : Da K H xs ds) : Dd K H (.ref a) (.tuple ds)
  | dK {a : Addr} {xs : List (Key × V)} {ds : List (PyData × PyData)} (h : H a = some (.dK xs)) (r : Dk K H xs ds) : Dd K H (.ref a) (.dict ds)
  | dT {a : Addr} {xs : List (List Key × V)} {ds : List (PyData × PyData)} (h : H a = some (.dT xs)) (r : Dt K H xs ds) : Dd K H (.ref a) (.dict ds)
inductive Da (K : PySem.W.Frag) (H : Hp) : List V → List PyData → Prop
  | nil : Da K H [] []
  | cons {v : V} {vs : List V} {d : PyData} {ds : List PyData} (h : Dd K H v d) (r : Da K H vs ds) : Da K H (v :: vs) (d :: ds)
inductive Dk (K : PySem.W.Frag) (H : Hp) : List (Key × V) → List (PyData × PyData) → Prop
  | nil : Dk K H [] []
  | cons {k : Key} {v : V} {vs : List (Key × V)} {d : PyData} {ds : List (PyData × PyData)} (h : Dd K H v d) (r : Dk K H vs ds) : Dk K H ((k, v) :: vs) ((kD k, d) :: ds)
inductive Dt (K : PySem.W.Frag) (H : Hp) : List (List Key × V) → List (PyData × PyData) → Prop
  | nil : Dt K H [] []
  | cons {k : List Key} {v : V} {vs : List (List Key × V)} {d : PyData} {ds : List (PyData × PyData)} (h : Dd K H v d) (r : Dt K H vs ds) : Dt K H ((k, v) :: vs) ((.tuple (k.map kD), d) :: ds)
end

theorem Same.tup {K : PySem.W.Frag} {H H' : Hp} {a : Addr} {xs : List V} (e : Same H H') (h : SqT K H a xs) : SqT K H' a xs := by
  rcases h with (h | ⟨o, h⟩) | h
  · exact .inl (.inl (e _ _ h))
  · exact .inl (.inr ⟨o, e _ _ h⟩)
  · exact .inr h

section
variable {K : PySem.W.Frag} {H H' : Hp}
mutual
theorem Dd.mono (e : Same H H') : ∀ {v : V} {d : PyData}, Dd K H v d → Dd K H' v d
  | _, _, .non => .non
  | _, _, .bl b => .bl b
  | _, _, .int i => .int i
  | _, _, .str x => .str x
  | _, _, .lst h r => .lst (Same.seq e h) (Da.mono e r)
  | _, _, .tup h r => .tup (Same.tup e h) (Da.mono e r)
  | _, _, .dK h r => .dK (e _ _ h) (Dk.mono e r)
  | _, _, .dT h r => .dT (e _ _ h) (Dt.mono e r)
theorem Da.mono (e : Same H H') : ∀ {v : List V} {d : List PyData}, Da K H v d → Da K H' v d
  | _, _, .nil => .nil
  | _, _, .cons h r => .cons (Dd.mono e h) (Da.mono e r)
theorem Dk.mono (e : Same H H') : ∀ {v : List (Key × V)} {d : List (PyData × PyData)}, Dk K H v d → Dk K H' v d
  | _, _, .nil => .nil
  | _, _, .cons h r => .cons (Dd.mono e h) (Dk.mono e r)
theorem Dt.mono (e : Same H H') : ∀ {v : List (List Key × V)} {d : List (PyData × PyData)}, Dt K H v d → Dt K H' v d
  | _, _, .nil => .nil
  | _, _, .cons h r => .cons (Dd.mono e h) (Dt.mono e r)
end
theorem Da.length : ∀ {vs : List V} {ds : List PyData}, Da K H vs ds → vs.length = ds.length
  | _, _, .nil => rfl
  | _, _, .cons _ r => congrArg (· + 1) r.length
theorem Da.get : ∀ {vs : List V} {ds : List PyData} {i : Nat} {d : PyData}, Da K H vs ds → ds[i]? = some d → ∃ v, vs[i]? = some v ∧ Dd K H v d
  | _, _, _, _, .nil, h => by simp at h
  | _, _, 0, _, .cons h r, e => by
    simp only [List.getElem?_cons_zero, Option.some.injEq] at e
    subst e
    exact ⟨_, rfl, h⟩
  | _, _, i + 1, _, .cons h r, e => by
    obtain ⟨v, h1, h2⟩ := Da.get (i := i) r (by simpa using e)
    exact ⟨v, by simpa using h1, h2⟩
theorem Da.get' : ∀ {vs : List V} {ds : List PyData} {i : Nat} {v : V}, Da K H vs ds → vs[i]? = some v → ∃ d, ds[i]? = some d ∧ Dd K H v d
  | _, _, _, _, .nil, h => by simp at h
  | _, _, 0, _, .cons h r, e => by
    simp only [List.getElem?_cons_zero, Option.some.injEq] at e
    subst e
    exact ⟨_, rfl, h⟩
  | _, _, i + 1, _, .cons h r, e => by
    obtain ⟨v, h1, h2⟩ := Da.get' (i := i) r (by simpa using e)
    exact ⟨v, by simpa using h1, h2⟩
theorem Da.append : ∀ {vs ws : List V} {ds es : List PyData}, Da K H vs ds → Da K H ws es → Da K H (vs ++ ws) (ds ++ es)
  | _, _, _, _, .nil, s => s
  | _, _, _, _, .cons h r, s => .cons h (Da.append r s)
theorem Da.dropLast : ∀ {vs : List V} {ds : List PyData}, Da K H vs ds → Da K H vs.dropLast ds.dropLast
  | _, _, .nil => .nil
  | _, _, .cons h .nil => .nil
  | _, _, .cons h (.cons h2 r) => .cons h (Da.dropLast (.cons h2 r))
theorem Da.ints : ∀ {vs : List V} {ns : List Int}, Da K H vs (ns.map PyData.int) → vs = ns.map V.int
  | _, [], .nil => rfl
  | _, n :: ns, .cons (.int _) r => congrArg (V.int n :: ·) (Da.ints r)
theorem Da.of_ints : ∀ (ns : List Int), Da K H (ns.map V.int) (ns.map PyData.int)
  | [] => .nil
  | n :: ns => .cons (.int n) (Da.of_ints ns)

/-- no dict within -/
theorem no_dict : ∀ (d : PyData), d.hasDict = d.hasDict := fun _ => rfl
end

/-! ### what is hidden -/
open Classical in
noncomputable def hide (m : Addr → Prop) (H : Hp) : Hp := fun a => if m a then none else H a
theorem hide_of {m : Addr → Prop} {H : Hp} {a : Addr} (h : ¬ m a) : hide m H a = H a := by
  unfold hide
  rw [if_neg h]
theorem hide_in {m : Addr → Prop} {H : Hp} {a : Addr} {o : HO} (h : hide m H a = some o) : ¬ m a ∧ H a = some o := by
  unfold hide at h
  by_cases c : m a
  · rw [if_pos c] at h
    cases h
  · rw [if_neg c] at h
    exact ⟨c, h⟩
theorem hide_some {m : Addr → Prop} {H : Hp} {a : Addr} {o : HO} (c : ¬ m a) (h : H a = some o) : hide m H a = some o := by
  rw [hide_of c]
  exact h
theorem hide_same {m : Addr → Prop} {H : Hp} : Same (hide m H) H := fun _ _ h => (hide_in h).2
theorem hide_mono {m : Addr → Prop} {H H' : Hp} (e : Same H H') : Same (hide m H) (hide m H') := fun a o h => by
  obtain ⟨c, h⟩ := hide_in h
  exact hide_some c (e _ _ h)

/-! ### abstract stores -/
inductive Sl where
  | no
  | dat (d : PyData)
  | ml (p : Addr) (ds : List PyData)
abbrev Sto := List Sl
/-- addresses of the lists that may still change -/
def own (δ : Sto) (a : Addr) : Prop := ∃ (i : Nat) (ds : List PyData), δ[i]? = some (.ml a ds)
def hid (m : Addr → Prop) (δ : Sto) : Addr → Prop := fun a => m a ∨ own δ a

structure Env3 (K : PySem.W.Frag) (m : Addr → Prop) (H : Hp) (σ : L2.St) (δ : Sto) : Prop where
  len : σ.length = δ.length
  dat : ∀ (i : Nat) (d : PyData), δ[i]? = some (.dat d) → ∃ v, σ[i]? = some (some v) ∧ Dd K (hide (hid m δ) H) v d
  ml : ∀ (i : Nat) (p : Addr) (ds : List PyData), δ[i]? = some (.ml p ds) → σ[i]? = some (some (.ref p)) ∧ ¬ m p ∧ ∃ xs, H p = some (.lst xs) ∧ Da K (hide (hid m δ) H) xs ds
  one : ∀ (i j : Nat) (p : Addr) (ds es : List PyData), δ[i]? = some (.ml p ds) → δ[j]? = some (.ml p es) → i = j
  got : ∀ a, m a → H a ≠ none

/-- from one state to a later one -/
structure Gw (m : Addr → Prop) (δ : Sto) (H : Hp) (δ' : Sto) (H' : Hp) : Prop where
  same : Same (hide (hid m δ) H) (hide (hid m δ') H')
  keep : ∀ a, m a → H' a = H a
theorem Gw.refl {m : Addr → Prop} {δ : Sto} {H : Hp} : Gw m δ H δ H := ⟨Same.refl _, fun _ _ => rfl⟩
theorem Gw.trans {m : Addr → Prop} {δ δ1 δ2 : Sto} {H H1 H2 : Hp} (a : Gw m δ H δ1 H1) (b : Gw m δ1 H1 δ2 H2) : Gw m δ H δ2 H2 :=
  ⟨a.same.trans b.same, fun x h => (b.keep x h).trans (a.keep x h)⟩
theorem Gw.of_same {m : Addr → Prop} {δ : Sto} {H H' : Hp} (got : ∀ a, m a → H a ≠ none) (e : Same H H') : Gw m δ H δ H' :=
  ⟨hide_mono e, fun a h => by
    cases q : H a with
    | none => exact absurd q (got a h)
    | some o => exact e a o q⟩
theorem Env3.same {K : PySem.W.Frag} {m : Addr → Prop} {H H' : Hp} {σ : L2.St} {δ : Sto} (I : Env3 K m H σ δ) (e : Same H H') : Env3 K m H' σ δ where
  len := I.len
  dat := fun i d h => by
    obtain ⟨v, h1, h2⟩ := I.dat i d h
    exact ⟨v, h1, h2.mono (hide_mono e)⟩
  ml := fun i p ds h => by
    obtain ⟨h1, h2, xs, h3, h4⟩ := I.ml i p ds h
    exact ⟨h1, h2, xs, e _ _ h3, h4.mono (hide_mono e)⟩
  one := I.one
  got := fun a h => by
    cases q : H a with
    | none => exact absurd q (I.got a h)
    | some o =>
      rw [e a o q]
      exact fun z => by cases z

/-! ### values as they are seen -/
inductive Vw where
  | d (x : PyData)
  | m (i : Nat)
  | v (x : V)
def VwOk (K : PySem.W.Frag) (m : Addr → Prop) (H : Hp) (δ : Sto) (v : V) : Vw → Prop
  | .d x => Dd K (hide (hid m δ) H) v x
  | .m i => ∃ p ds, δ[i]? = some (.ml p ds) ∧ v = .ref p
  | .v x => v = x
/-- the lists that may change stay where they are while an expression runs -/
def Stay (δ δ' : Sto) : Prop := ∀ (i : Nat) (p : Addr) (ds : List PyData), δ[i]? = some (.ml p ds) → ∃ es, δ'[i]? = some (.ml p es)
theorem Stay.refl (δ : Sto) : Stay δ δ := fun i p ds h => ⟨ds, h⟩
theorem Stay.trans {a b c : Sto} (h : Stay a b) (k : Stay b c) : Stay a c := fun i p ds e => by
  obtain ⟨es, e1⟩ := h i p ds e
  exact k i p es e1
theorem VwOk.go {K : PySem.W.Frag} {m : Addr → Prop} {H H' : Hp} {δ δ' : Sto} {v : V} {w : Vw} (h : VwOk K m H δ v w) (g : Gw m δ H δ' H') (s : Stay δ δ') : VwOk K m H' δ' v w := by
  cases w with
  | d x => exact Dd.mono g.same h
  | m i =>
    obtain ⟨p, ds, h1, h2⟩ := h
    obtain ⟨es, h3⟩ := s i p ds h1
    exact ⟨p, es, h3, h2⟩
  | v x => exact h
inductive VwAll (K : PySem.W.Frag) (m : Addr → Prop) (H : Hp) (δ : Sto) : List V → List Vw → Prop
  | nil : VwAll K m H δ [] []
  | cons {v : V} {w : Vw} {vs : List V} {ws : List Vw} (h : VwOk K m H δ v w) (r : VwAll K m H δ vs ws) : VwAll K m H δ (v :: vs) (w :: ws)
theorem VwAll.go {K : PySem.W.Frag} {m : Addr → Prop} {H H' : Hp} {δ δ' : Sto} (g : Gw m δ H δ' H') (s : Stay δ δ') : ∀ {vs : List V} {ws : List Vw}, VwAll K m H δ vs ws → VwAll K m H' δ' vs ws
  | _, _, .nil => .nil
  | _, _, .cons h r => .cons (h.go g s) (r.go g s)

/-! ### what an expression, a test, arguments, a statement do to a store -/
abbrev XP := Value → Sto → Prop
def EX (K : PySem.W.Frag) (W : WX) (te : TE) (δ : Sto) (post : Vw → Sto → Prop) (ex : XP) : Prop :=
  ∀ (m : Addr → Prop) (H : Hp) (σ : L2.St), Env3 K m H σ δ → ∀ Q : VK,
    (∀ v w H' δ', Gw m δ H δ' H' → Stay δ δ' → Env3 K m H' σ δ' → VwOk K m H' δ' v w → post w δ' → Q v H') →
    (∀ C H' δ', Gw m δ H δ' H' → Env3 K m H' σ δ' → ex C δ' → W C none σ H') → te σ H Q
def TX (K : PySem.W.Frag) (W : WX) (tt : TT) (δ : Sto) (post : Bool → Sto → Prop) (ex : XP) : Prop :=
  ∀ (m : Addr → Prop) (H : Hp) (σ : L2.St), Env3 K m H σ δ → ∀ Q : Bool → Hp → Prop,
    (∀ b H' δ', Gw m δ H δ' H' → Stay δ δ' → Env3 K m H' σ δ' → post b δ' → Q b H') →
    (∀ C H' δ', Gw m δ H δ' H' → Env3 K m H' σ δ' → ex C δ' → W C none σ H') → tt σ H Q
def AX (K : PySem.W.Frag) (W : WX) (ta : TA) (δ : Sto) (post : List Vw → Sto → Prop) (ex : XP) : Prop :=
  ∀ (m : Addr → Prop) (H : Hp) (σ : L2.St), Env3 K m H σ δ → ∀ Q : List V → Hp → Prop,
    (∀ vs ws H' δ', Gw m δ H δ' H' → Stay δ δ' → Env3 K m H' σ δ' → VwAll K m H' δ' vs ws → post ws δ' → Q vs H') →
    (∀ C H' δ', Gw m δ H δ' H' → Env3 K m H' σ δ' → ex C δ' → W C none σ H') → ta σ H Q
structure Ends3 where
  nx : Sto → Prop
  rt : Vw → Sto → Prop
  bk : Sto → Prop
  ct : Sto → Prop
  ex : XP
abbrev Ends3.nxt (R : Ends3) (n : Sto → Prop) : Ends3 := ⟨n, R.rt, R.bk, R.ct, R.ex⟩
abbrev Ends3.loop (R : Ends3) (n : Sto → Prop) : Ends3 := ⟨n, R.rt, R.nx, n, R.ex⟩
abbrev Ends3.catch (R : Ends3) (e : XP) : Ends3 := ⟨R.nx, R.rt, R.bk, R.ct, e⟩
/-- the ends of a def's body: post of what is handed back, exn of what is raised -/
abbrev RD (post : PyData → Prop) (exn : Value → Prop) : Ends3 := ⟨fun _ => post .none, fun w _ => ∃ d, w = .d d ∧ post d, fun _ => False, fun _ => False, fun C _ => exn C⟩
/-- .. of a def that changes its first argument, the list at p -/
abbrev RM (p : Addr) (post : PyData → List PyData → Prop) : Ends3 := ⟨fun δ' => ∃ fs, δ'[0]? = some (.ml p fs) ∧ post .none fs, fun w δ' => ∃ d fs, w = .d d ∧ δ'[0]? = some (.ml p fs) ∧ post d fs, fun _ => False, fun _ => False, fun _ _ => False⟩
def SX (K : PySem.W.Frag) (W : WX) (t : TS) (δ : Sto) (R : Ends3) : Prop :=
  ∀ (m : Addr → Prop) (H : Hp) (σ : L2.St), Env3 K m H σ δ → ∀ D : Ends,
    (∀ σ' H' δ', Gw m δ H δ' H' → Env3 K m H' σ' δ' → R.nx δ' → D.nx σ' H') →
    (∀ v w σ' H' δ', Gw m δ H δ' H' → Env3 K m H' σ' δ' → VwOk K m H' δ' v w → R.rt w δ' → D.rt v H') →
    (∀ σ' H' δ', Gw m δ H δ' H' → Env3 K m H' σ' δ' → R.bk δ' → D.bk σ' H') →
    (∀ σ' H' δ', Gw m δ H δ' H' → Env3 K m H' σ' δ' → R.ct δ' → D.ct σ' H') →
    (∀ C σ' H' δ', Gw m δ H δ' H' → Env3 K m H' σ' δ' → R.ex C δ' → W C none σ' H') → t D σ H
end M3
namespace M3
open PySem PySem.Spec PyProof.Rows L2

section
variable {K : PySem.W.Frag} {W : WX} {δ : Sto} {ex : XP} {post : Vw → Sto → Prop} {ta tb tc te : TE} {tt tu : TT} {R : Ends3} {t u : TS}

/-! ### consequence -/
theorem EX.imp {p q : Vw → Sto → Prop} {e f : XP} (h : EX K W te δ p e) (a : ∀ w δ', p w δ' → q w δ') (b : ∀ C δ', e C δ' → f C δ') : EX K W te δ q f :=
  fun m H σ I Q k k2 => h m H σ I Q (fun v w H' δ' g s J o pp => k v w H' δ' g s J o (a _ _ pp)) (fun C H' δ' g J ee => k2 C H' δ' g J (b _ _ ee))
theorem TX.imp {p q : Bool → Sto → Prop} {e f : XP} (h : TX K W tt δ p e) (a : ∀ w δ', p w δ' → q w δ') (b : ∀ C δ', e C δ' → f C δ') : TX K W tt δ q f :=
  fun m H σ I Q k k2 => h m H σ I Q (fun v H' δ' g s J pp => k v H' δ' g s J (a _ _ pp)) (fun C H' δ' g J ee => k2 C H' δ' g J (b _ _ ee))
/-- the store behind a part is what it was, its value known -/
theorem SX.imp {R' : Ends3} (h : SX K W t δ R) (a : ∀ δ', R.nx δ' → R'.nx δ') (b : ∀ w δ', R.rt w δ' → R'.rt w δ') (c : ∀ δ', R.bk δ' → R'.bk δ') (d : ∀ δ', R.ct δ' → R'.ct δ') (e : ∀ C δ', R.ex C δ' → R'.ex C δ') : SX K W t δ R' :=
  fun m H σ I D k1 k2 k3 k4 k5 => h m H σ I D (fun σ' H' δ' g J p => k1 σ' H' δ' g J (a _ p)) (fun v w σ' H' δ' g J o p => k2 v w σ' H' δ' g J o (b _ _ p)) (fun σ' H' δ' g J p => k3 σ' H' δ' g J (c _ p)) (fun σ' H' δ' g J p => k4 σ' H' δ' g J (d _ p)) (fun C σ' H' δ' g J p => k5 C σ' H' δ' g J (e _ _ p))

/-! ### names, written values -/
theorem ex_var {i : Nat} {d : PyData} (h : δ[i]? = some (.dat d)) (q : post (.d d) δ) : EX K W (tVar i) δ post ex := fun m H σ I Q k _ => by
  obtain ⟨v, h1, h2⟩ := I.dat i d h
  exact ⟨v, h1, k v (.d d) H δ .refl (.refl δ) I h2 q⟩
theorem ex_mvar {i : Nat} {p : Addr} {ds : List PyData} (h : δ[i]? = some (.ml p ds)) (q : post (.m i) δ) : EX K W (tVar i) δ post ex := fun m H σ I Q k _ => by
  obtain ⟨h1, h2, _⟩ := I.ml i p ds h
  exact ⟨.ref p, h1, k (.ref p) (.m i) H δ .refl (.refl δ) I ⟨p, ds, h, rfl⟩ q⟩
theorem ex_c {v : V} {d : PyData} (h : ∀ H, Dd K H v d) (q : post (.d d) δ) : EX K W (tC v) δ post ex := fun m H σ I Q k _ => k v (.d d) H δ .refl (.refl δ) I (h _) q
theorem ex_int {n : Int} (q : post (.d (.int n)) δ) : EX K W (tC (.int n)) δ post ex := ex_c (fun _ => .int n) q
theorem ex_str {n : Str} (q : post (.d (.str n)) δ) : EX K W (tC (.str n)) δ post ex := ex_c (fun _ => .str n) q
theorem ex_bl {n : Bool} (q : post (.d (.bool n)) δ) : EX K W (tC (.bl n)) δ post ex := ex_c (fun _ => .bl n) q
theorem ex_non (q : post (.d .none) δ) : EX K W (tC .non) δ post ex := ex_c (fun _ => .non) q

/-! ### operations on values -/
def RX (K : PySem.W.Frag) (r : R2) (w1 w2 : Vw) (δ : Sto) (post : Vw → Sto → Prop) : Prop :=
  ∀ (m : Addr → Prop) (H : Hp) (σ : L2.St) (v1 v2 : V), Env3 K m H σ δ → VwOk K m H δ v1 w1 → VwOk K m H δ v2 w2 → ∀ Q : VK,
    (∀ v w H', Same H H' → VwOk K m H' δ v w → post w δ → Q v H') → r v1 v2 H Q
def UX (K : PySem.W.Frag) (r : V → Hp → VK → Prop) (w1 : Vw) (δ : Sto) (post : Vw → Sto → Prop) : Prop :=
  ∀ (m : Addr → Prop) (H : Hp) (σ : L2.St) (v1 : V), Env3 K m H σ δ → VwOk K m H δ v1 w1 → ∀ Q : VK,
    (∀ v w H', Same H H' → VwOk K m H' δ v w → post w δ → Q v H') → r v1 H Q
theorem ex_op {r : R2} (h : EX K W ta δ (fun w1 δ1 => EX K W tb δ1 (fun w2 δ2 => RX K r w1 w2 δ2 post) ex) ex) : EX K W (tOp r ta tb) δ post ex :=
  fun m H σ I Q k k2 => h m H σ I _ (fun v1 w1 H1 δ1 g1 s1 I1 o1 hb => hb m H1 σ I1 _ (fun v2 w2 H2 δ2 g2 s2 I2 o2 hr =>
    hr m H2 σ v1 v2 I2 (o1.go g2 s2) o2 Q fun v w H3 e o p => k v w H3 δ2 ((g1.trans g2).trans (.of_same I2.got e)) (s1.trans s2) (I2.same e) o p)
    (fun C H' δ' g J e => k2 C H' δ' (g1.trans g) J e)) k2
theorem ex_un {r : V → Hp → VK → Prop} (h : EX K W ta δ (fun w1 δ1 => UX K r w1 δ1 post) ex) : EX K W (tUn r ta) δ post ex :=
  fun m H σ I Q k k2 => h m H σ I _ (fun v1 w1 H1 δ1 g1 s1 I1 o1 hr =>
    hr m H1 σ v1 I1 o1 Q fun v w H3 e o p => k v w H3 δ1 (g1.trans (.of_same I1.got e)) s1 (I1.same e) o p) k2
theorem dd_int {H : Hp} {v : V} {i : Int} (h : Dd K H v (.int i)) : v = .int i := by cases h; rfl
theorem dd_bool {H : Hp} {v : V} {i : Bool} (h : Dd K H v (.bool i)) : v = .bl i := by cases h; rfl
theorem dd_str {H : Hp} {v : V} {i : Str} (h : Dd K H v (.str i)) : v = .str i := by cases h; rfl
theorem dd_none {H : Hp} {v : V} (h : Dd K H v .none) : v = .non := by cases h; rfl
theorem rx_ii {f : Int → Int → Int} {i j : Int} (q : post (.d (.int (f i j))) δ) : RX K (rI0 fun a b => .int (f a b)) (.d (.int i)) (.d (.int j)) δ post :=
  fun m H σ v1 v2 I h1 h2 Q k => ⟨i, j, dd_int h1, dd_int h2, k _ (.d (.int (f i j))) H (.refl H) (.int _) q⟩
theorem rx_ib {f : Int → Int → Bool} {i j : Int} (q : post (.d (.bool (f i j))) δ) : RX K (rI0 fun a b => .bl (f a b)) (.d (.int i)) (.d (.int j)) δ post :=
  fun m H σ v1 v2 I h1 h2 Q k => ⟨i, j, dd_int h1, dd_int h2, k _ (.d (.bool (f i j))) H (.refl H) (.bl _) q⟩
theorem rx_Ci {C : Int → Int → Prop} {f : Int → Int → Int} {i j : Int} (c : C i j) (q : post (.d (.int (f i j))) δ) : RX K (rI C fun a b => .int (f a b)) (.d (.int i)) (.d (.int j)) δ post :=
  fun m H σ v1 v2 I h1 h2 Q k => ⟨i, j, dd_int h1, dd_int h2, c, k _ (.d (.int (f i j))) H (.refl H) (.int _) q⟩
theorem ux_i {f : Int → Int} {i : Int} (q : post (.d (.int (f i))) δ) : UX K (rU fun a => .int (f a)) (.d (.int i)) δ post :=
  fun m H σ v1 I h1 Q k => ⟨i, dd_int h1, k _ (.d (.int (f i))) H (.refl H) (.int _) q⟩
theorem dd_tup {H : Hp} {v : V} {ds : List PyData} (h : Dd K H v (.tuple ds)) : ∃ a xs, v = .ref a ∧ SqT K H a xs ∧ Da K H xs ds := by
  cases h with
  | tup h r => exact ⟨_, _, rfl, h, r⟩
theorem dd_lst {H : Hp} {v : V} {ds : List PyData} (h : Dd K H v (.list ds)) : ∃ a xs, v = .ref a ∧ SqL K H a xs ∧ Da K H xs ds := by
  cases h with
  | lst h r => exact ⟨_, _, rfl, h, r⟩
theorem da_at {H : Hp} {xs : List V} {ds : List PyData} {i : Int} {d : PyData} (r : Da K H xs ds) (h : atI ds i = some d) : ∃ v, atI xs i = some v ∧ Dd K H v d := by
  have hl := r.length
  unfold atI at h ⊢
  rw [hl]
  cases e : ixN ds.length i with
  | none =>
    rw [e] at h
    cases h
  | some j =>
    rw [e] at h
    exact r.get h
theorem rx_ixT {ds : List PyData} {i : Int} {d : PyData} (h : atI ds i = some d) (q : post (.d d) δ) : RX K (rIxT K) (.d (.tuple ds)) (.d (.int i)) δ post := fun m H σ v1 v2 I h1 h2 Q k => by
  obtain ⟨a, xs, e, s, r⟩ := dd_tup h1
  obtain ⟨v, ha, hd⟩ := da_at r h
  exact ⟨a, xs, i, v, e, dd_int h2, Same.tup hide_same s, ha, k v (.d d) H (.refl H) hd q⟩
theorem rx_ixL {ds : List PyData} {i : Int} {d : PyData} (h : atI ds i = some d) (q : post (.d d) δ) : RX K (rIxL K) (.d (.list ds)) (.d (.int i)) δ post := fun m H σ v1 v2 I h1 h2 Q k => by
  obtain ⟨a, xs, e, s, r⟩ := dd_lst h1
  obtain ⟨v, ha, hd⟩ := da_at r h
  exact ⟨a, xs, i, v, e, dd_int h2, Same.seq hide_same s, ha, k v (.d d) H (.refl H) hd q⟩
theorem rx_ixM {n : Nat} {p : Addr} {ds : List PyData} {i : Int} {d : PyData} (hn : δ[n]? = some (.ml p ds)) (h : atI ds i = some d) (q : post (.d d) δ) : RX K (rIxL K) (.m n) (.d (.int i)) δ post := fun m H σ v1 v2 I h1 h2 Q k => by
  obtain ⟨p', ds', e1, rfl⟩ := h1
  rw [hn] at e1
  cases e1
  obtain ⟨_, _, xs, hp, r⟩ := I.ml n p ds hn
  obtain ⟨v, ha, hd⟩ := da_at r h
  exact ⟨p, xs, i, v, rfl, dd_int h2, .inl (.inl hp), ha, k v (.d d) H (.refl H) hd q⟩

/-! ### tests, and, or, if -/
theorem tx_test (h : EX K W te δ (fun w δ' => ∃ b, w = .d (.bool b) ∧ p b δ') ex) : TX K W (tTest te) δ p ex :=
  fun m H σ I Q k k2 => h m H σ I _ (fun v w H' δ' g s J o ⟨b, e, q⟩ => by
    subst e
    exact ⟨b, dd_bool o, k b H' δ' g s J q⟩) k2
theorem tx_B (h : EX K W te δ (fun w δ' => ∃ b, w = .d (.bool b) ∧ p b δ') ex) : TX K W (tB te) δ p ex :=
  fun m H σ I Q k k2 => h m H σ I _ (fun v w H' δ' g s J o ⟨b, e, q⟩ => by
    subst e
    exact ⟨b, dd_bool o, k b H' δ' g s J q⟩) k2
theorem tx_and {p : Bool → Sto → Prop} (h : TX K W tt δ (fun b δ' => (b = true → TX K W tu δ' p ex) ∧ (b = false → p false δ')) ex) : TX K W (tAnd tt tu) δ p ex :=
  fun m H σ I Q k k2 => h m H σ I _ (fun b H' δ' g s J ⟨q1, q2⟩ => by
    cases b with
    | true => exact iteT (q1 rfl m H' σ J Q (fun b H2 δ2 g2 s2 J2 q => k b H2 δ2 (g.trans g2) (s.trans s2) J2 q) (fun C H2 δ2 g2 J2 e => k2 C H2 δ2 (g.trans g2) J2 e))
    | false => exact iteF (k false H' δ' g s J (q2 rfl))) k2
theorem tx_or {p : Bool → Sto → Prop} (h : TX K W tt δ (fun b δ' => (b = true → p true δ') ∧ (b = false → TX K W tu δ' p ex)) ex) : TX K W (tOr tt tu) δ p ex :=
  fun m H σ I Q k k2 => h m H σ I _ (fun b H' δ' g s J ⟨q1, q2⟩ => by
    cases b with
    | true => exact iteT (k true H' δ' g s J (q1 rfl))
    | false => exact iteF (q2 rfl m H' σ J Q (fun b H2 δ2 g2 s2 J2 q => k b H2 δ2 (g.trans g2) (s.trans s2) J2 q) (fun C H2 δ2 g2 J2 e => k2 C H2 δ2 (g.trans g2) J2 e))) k2
theorem tx_not {p : Bool → Sto → Prop} (h : TX K W tt δ (fun b δ' => p (!b) δ') ex) : TX K W (tNot tt) δ p ex :=
  fun m H σ I Q k k2 => h m H σ I _ (fun b H' δ' g s J q => k (!b) H' δ' g s J q) k2
theorem ex_andV (h : EX K W ta δ (fun w δ' => ∃ b, w = .d (.bool b) ∧ (b = true → EX K W tb δ' post ex) ∧ (b = false → post (.d (.bool false)) δ')) ex) : EX K W (tAndV ta tb) δ post ex :=
  fun m H σ I Q k k2 => h m H σ I _ (fun v w H' δ' g s J o ⟨b, e, q1, q2⟩ => by
    subst e
    refine ⟨b, dd_bool o, ?_⟩
    cases b with
    | true => exact iteT (q1 rfl m H' σ J Q (fun v w H2 δ2 g2 s2 J2 o2 q => k v w H2 δ2 (g.trans g2) (s.trans s2) J2 o2 q) (fun C H2 δ2 g2 J2 e => k2 C H2 δ2 (g.trans g2) J2 e))
    | false => exact iteF (k _ (.d (.bool false)) H' δ' g s J (.bl false) (q2 rfl))) k2
theorem ex_orV (h : EX K W ta δ (fun w δ' => ∃ b, w = .d (.bool b) ∧ (b = false → EX K W tb δ' post ex) ∧ (b = true → post (.d (.bool true)) δ')) ex) : EX K W (tOrV ta tb) δ post ex :=
  fun m H σ I Q k k2 => h m H σ I _ (fun v w H' δ' g s J o ⟨b, e, q1, q2⟩ => by
    subst e
    refine ⟨b, dd_bool o, ?_⟩
    cases b with
    | false => exact iteF (q1 rfl m H' σ J Q (fun v w H2 δ2 g2 s2 J2 o2 q => k v w H2 δ2 (g.trans g2) (s.trans s2) J2 o2 q) (fun C H2 δ2 g2 J2 e => k2 C H2 δ2 (g.trans g2) J2 e))
    | true => exact iteT (k _ (.d (.bool true)) H' δ' g s J (.bl true) (q2 rfl))) k2
theorem ex_notV (h : EX K W ta δ (fun w δ' => ∃ b, w = .d (.bool b) ∧ post (.d (.bool (!b))) δ') ex) : EX K W (tNotV ta) δ post ex :=
  fun m H σ I Q k k2 => h m H σ I _ (fun v w H' δ' g s J o ⟨b, e, q⟩ => by
    subst e
    exact ⟨b, dd_bool o, k _ (.d (.bool (!b))) H' δ' g s J (.bl _) q⟩) k2
theorem ex_if (h : TX K W tt δ (fun b δ' => (b = true → EX K W ta δ' post ex) ∧ (b = false → EX K W tb δ' post ex)) ex) : EX K W (tIf tt ta tb) δ post ex :=
  fun m H σ I Q k k2 => h m H σ I _ (fun b H' δ' g s J ⟨q1, q2⟩ => by
    cases b with
    | true => exact iteT (q1 rfl m H' σ J Q (fun v w H2 δ2 g2 s2 J2 o2 q => k v w H2 δ2 (g.trans g2) (s.trans s2) J2 o2 q) (fun C H2 δ2 g2 J2 e => k2 C H2 δ2 (g.trans g2) J2 e))
    | false => exact iteF (q2 rfl m H' σ J Q (fun v w H2 δ2 g2 s2 J2 o2 q => k v w H2 δ2 (g.trans g2) (s.trans s2) J2 o2 q) (fun C H2 δ2 g2 J2 e => k2 C H2 δ2 (g.trans g2) J2 e))) k2

/-! ### arguments, displays -/
theorem ax_nil {p : List Vw → Sto → Prop} (q : p [] δ) : AX K W tNil δ p ex := fun m H σ I Q k _ => k [] [] H δ .refl (.refl δ) I .nil q
theorem ax_cons {p : List Vw → Sto → Prop} {tr : TA} (h : EX K W ta δ (fun w δ1 => AX K W tr δ1 (fun ws δ2 => p (w :: ws) δ2) ex) ex) : AX K W (tCons ta tr) δ p ex :=
  fun m H σ I Q k k2 => h m H σ I _ (fun v w H1 δ1 g1 s1 I1 o1 hr => hr m H1 σ I1 _ (fun vs ws H2 δ2 g2 s2 I2 o2 q => k (v :: vs) (w :: ws) H2 δ2 (g1.trans g2) (s1.trans s2) I2 (.cons (o1.go g2 s2) o2) q)
    (fun C H' δ' g J e => k2 C H' δ' (g1.trans g) J e)) k2
theorem not_hid {m : Addr → Prop} {H : Hp} {σ : L2.St} {p : Addr} (I : Env3 K m H σ δ) (h : H p = none) : ¬ hid m δ p := fun z => by
  rcases z with z | ⟨i, ds, z⟩
  · exact I.got p z h
  · obtain ⟨_, _, xs, e, _⟩ := I.ml i p ds z
    rw [h] at e
    cases e
theorem da_of {m : Addr → Prop} {H : Hp} : ∀ {vs : List V} {ds : List PyData}, VwAll K m H δ vs (ds.map .d) → Da K (hide (hid m δ) H) vs ds
  | _, [], .nil => .nil
  | _, _ :: _, .cons h r => .cons h (da_of r)
theorem same_upd {H : Hp} {p : Addr} {o : HO} (h : H p = none) : Same H (upd H p o) := fun b x e => by
  rw [upd_ne (ne_of_none e h)]
  exact e
theorem vw_len {m : Addr → Prop} {H : Hp} : ∀ {vs : List V} {ws : List Vw}, VwAll K m H δ vs ws → vs.length = ws.length
  | _, _, .nil => rfl
  | _, _, .cons _ r => congrArg (· + 1) (vw_len r)
theorem ex_tup {t : TA} (h : AX K W t δ (fun ws δ' => ∃ ds : List PyData, ws = ds.map .d ∧ ds.length ≤ 100000 ∧ post (.d (.tuple ds)) δ') ex) : EX K W (tTup t) δ post ex :=
  fun m H σ I Q k k2 => h m H σ I _ (fun vs ws H1 δ1 g1 s1 I1 o1 ⟨ds, e, hl, q⟩ => by
    subst e
    have r := da_of o1
    refine ⟨by rw [r.length]; exact Nat.le_trans hl (by decide), fun p hp => ?_⟩
    have sm := same_upd (o := .tup vs) hp
    refine k (.ref p) (.d (.tuple ds)) _ δ1 (g1.trans (.of_same I1.got sm)) s1 (I1.same sm) ?_ q
    exact .tup (.inl (.inl (hide_some (not_hid I1 hp) upd_same))) (r.mono (hide_mono sm))) k2

/-! ### a fresh list: nobody else has it -/
open Classical in
noncomputable def erase (p : Addr) (H : Hp) : Hp := fun a => if a = p then none else H a
theorem erase_same {p : Addr} {H : Hp} : Same (erase p H) H := fun a o h => by
  unfold erase at h
  by_cases c : a = p
  · rw [if_pos c] at h
    cases h
  · rw [if_neg c] at h
    exact h
theorem erase_ne {p a : Addr} {H : Hp} (c : a ≠ p) : erase p H a = H a := by
  unfold erase
  rw [if_neg c]
theorem erase_at {p : Addr} {H : Hp} : erase p H p = none := by
  unfold erase
  rw [if_pos rfl]
theorem erase_upd {p : Addr} {H : Hp} {o : HO} (h : H p = none) : erase p (upd H p o) = H := by
  funext a
  by_cases c : a = p
  · rw [c, erase_at, h]
  · rw [erase_ne c, upd_ne c]
def FX (K : PySem.W.Frag) (W : WX) (te : TE) (δ : Sto) (post : List PyData → Sto → Prop) (ex : XP) : Prop :=
  ∀ (m : Addr → Prop) (H : Hp) (σ : L2.St), Env3 K m H σ δ → ∀ Q : VK,
    (∀ p xs ds H' δ', Gw m δ H δ' (erase p H') → Stay δ δ' → Env3 K m (erase p H') σ δ' → H' p = some (.lst xs) → Da K (hide (hid m δ') (erase p H')) xs ds → post ds δ' → Q (.ref p) H') →
    (∀ C H' δ', Gw m δ H δ' H' → Env3 K m H' σ δ' → ex C δ' → W C none σ H') → te σ H Q
theorem gw_erase {m : Addr → Prop} {δ' : Sto} {H H' : Hp} {p : Addr} {σ : L2.St} (g : Gw m δ H δ' (erase p H')) (I : Env3 K m (erase p H') σ δ') : Gw m δ H δ' H' := g.trans (.of_same I.got erase_same)
theorem ex_F {p : List PyData → Sto → Prop} (h : FX K W te δ p ex) (q : ∀ ds δ', p ds δ' → post (.d (.list ds)) δ') : EX K W te δ post ex :=
  fun m H σ I Q k k2 => h m H σ I Q (fun p xs ds H' δ' g s J e r pp => by
    refine k (.ref p) (.d (.list ds)) H' δ' (gw_erase g J) s (J.same erase_same) ?_ (q _ _ pp)
    exact .lst (.inl (.inl (hide_some (not_hid J erase_at) e))) (r.mono (hide_mono erase_same))) k2
theorem fx_lst {t : TA} {p : List PyData → Sto → Prop} (h : AX K W t δ (fun ws δ' => ∃ ds : List PyData, ws = ds.map .d ∧ ds.length ≤ 100000 ∧ p ds δ') ex) : FX K W (tLst t) δ p ex :=
  fun m H σ I Q k k2 => h m H σ I _ (fun vs ws H1 δ1 g1 s1 I1 o1 ⟨ds, e, hl, q⟩ => by
    subst e
    have r := da_of o1
    refine ⟨by rw [r.length]; exact Nat.le_trans hl (by decide), fun p hp => ?_⟩
    have ee := erase_upd (o := .lst vs) hp
    refine k p vs ds _ δ1 (by rw [ee]; exact g1) s1 (by rw [ee]; exact I1) upd_same (by rw [ee]; exact r) q) k2
end
end M3
namespace M3
open PySem PySem.Spec PyProof.Rows L2

section
variable {K : PySem.W.Frag} {W : WX} {δ : Sto} {ex : XP} {post : Vw → Sto → Prop} {ta tb tc te : TE} {tt tu : TT} {R : Ends3} {t u : TS}

/-! ### slots are set -/
theorem hid_set {m : Addr → Prop} {i : Nat} {s : Sl} {a : Addr} (hs : ∀ p ds, s ≠ .ml p ds) (h : hid m (δ.set i s) a) : hid m δ a := by
  rcases h with h | ⟨j, ds, h⟩
  · exact .inl h
  · refine .inr ⟨j, ds, ?_⟩
    by_cases c : i = j
    · subst c
      rw [List.getElem?_set] at h
      simp only [if_true] at h
      split at h
      · exact absurd (Option.some.inj h) (hs _ _)
      · cases h
    · rw [List.getElem?_set_ne c] at h
      exact h
theorem hide_set {m : Addr → Prop} {H : Hp} {i : Nat} {s : Sl} (hs : ∀ p ds, s ≠ .ml p ds) : Same (hide (hid m δ) H) (hide (hid m (δ.set i s)) H) := fun a o h => by
  obtain ⟨c, e⟩ := hide_in h
  exact hide_some (fun z => c (hid_set hs z)) e
theorem set_get {α : Type} {l : List α} {i j : Nat} {x y : α} (h : (l.set i x)[j]? = some y) : (i = j ∧ x = y ∧ i < l.length) ∨ (i ≠ j ∧ l[j]? = some y) := by
  by_cases c : i = j
  · subst c
    rw [List.getElem?_set] at h
    simp only [if_true] at h
    split at h
    · exact .inl ⟨rfl, Option.some.inj h, ‹_›⟩
    · cases h
  · rw [List.getElem?_set_ne c] at h
    exact .inr ⟨c, h⟩
theorem Env3.set_dat {m : Addr → Prop} {H : Hp} {σ : L2.St} {i : Nat} {v : V} {d : PyData} (I : Env3 K m H σ δ) (h : Dd K (hide (hid m δ) H) v d) : Env3 K m H (σ.set i (some v)) (δ.set i (.dat d)) where
  len := by rw [List.length_set, List.length_set, I.len]
  dat := fun j e hj => by
    have hm := hide_set (m := m) (δ := δ) (H := H) (i := i) (s := .dat d) (fun _ _ z => nomatch z)
    rcases set_get hj with ⟨rfl, e1, hi⟩ | ⟨ne, hj⟩
    · cases e1
      exact ⟨v, by rw [List.getElem?_set_self (by rw [I.len]; exact hi)], h.mono hm⟩
    · obtain ⟨u, h1, h2⟩ := I.dat j e hj
      exact ⟨u, by rw [List.getElem?_set_ne ne]; exact h1, h2.mono hm⟩
  ml := fun j p ds hj => by
    have hm := hide_set (m := m) (δ := δ) (H := H) (i := i) (s := .dat d) (fun _ _ z => nomatch z)
    rcases set_get hj with ⟨_, e1, _⟩ | ⟨ne, hj⟩
    · cases e1
    · obtain ⟨h1, h2, xs, h3, h4⟩ := I.ml j p ds hj
      exact ⟨by rw [List.getElem?_set_ne ne]; exact h1, h2, xs, h3, h4.mono hm⟩
  one := fun j k p ds es hj hk => by
    rcases set_get hj with ⟨_, e1, _⟩ | ⟨ne, hj⟩
    · cases e1
    · rcases set_get hk with ⟨_, e1, _⟩ | ⟨ne2, hk⟩
      · cases e1
      · exact I.one j k p ds es hj hk
  got := I.got
theorem Gw.set_dat {m : Addr → Prop} {H : Hp} {i : Nat} {d : PyData} : Gw m δ H (δ.set i (.dat d)) H := ⟨hide_set (fun _ _ z => nomatch z), fun _ _ => rfl⟩
/-- a list of one's own turns into data: it will not change any more -/
theorem Env3.freeze {m : Addr → Prop} {H : Hp} {σ : L2.St} {i : Nat} {p : Addr} {ds : List PyData} (I : Env3 K m H σ δ) (h : δ[i]? = some (.ml p ds)) : Env3 K m H σ (δ.set i (.dat (.list ds))) := by
  obtain ⟨h1, h2, xs, h3, h4⟩ := I.ml i p ds h
  have hσ : σ.set i (some (.ref p)) = σ := by
    obtain ⟨hl, e⟩ := List.getElem?_eq_some_iff.mp h1
    rw [← e]
    exact List.set_getElem_self hl
  have hm := hide_set (m := m) (δ := δ) (H := H) (i := i) (s := .dat (.list ds)) (fun _ _ z => nomatch z)
  have hi : i < δ.length := (List.getElem?_eq_some_iff.mp h).1
  have np : ¬ hid m (δ.set i (.dat (.list ds))) p := fun z => by
    rcases z with z | ⟨j, es, z⟩
    · exact h2 z
    · rcases set_get z with ⟨_, e1, _⟩ | ⟨ne, z⟩
      · cases e1
      · exact ne (I.one i j p ds es h z)
  refine ⟨by rw [List.length_set, I.len], fun j e hj => ?_, fun j q es hj => ?_, fun j k q es fs hj hk => ?_, I.got⟩
  · rcases set_get hj with ⟨rfl, e1, _⟩ | ⟨ne, hj⟩
    · cases e1
      exact ⟨_, h1, .lst (.inl (.inl (hide_some np h3))) (h4.mono hm)⟩
    · obtain ⟨u, g1, g2⟩ := I.dat j e hj
      exact ⟨u, g1, g2.mono hm⟩
  · rcases set_get hj with ⟨_, e1, _⟩ | ⟨ne, hj⟩
    · cases e1
    · obtain ⟨g1, g2, ys, g3, g4⟩ := I.ml j q es hj
      exact ⟨g1, g2, ys, g3, g4.mono hm⟩
  · rcases set_get hj with ⟨_, e1, _⟩ | ⟨ne, hj⟩
    · cases e1
    · rcases set_get hk with ⟨_, e1, _⟩ | ⟨ne2, hk⟩
      · cases e1
      · exact I.one j k q es fs hj hk
theorem Gw.freeze {m : Addr → Prop} {H : Hp} {i : Nat} {d : PyData} : Gw m δ H (δ.set i (.dat d)) H := Gw.set_dat
/-- a fresh list into a slot -/
theorem hide_fresh {m : Addr → Prop} {H : Hp} {i : Nat} {p : Addr} {ds : List PyData} : Same (hide (hid m δ) (erase p H)) (hide (hid m (δ.set i (.ml p ds))) H) := fun a o h => by
  obtain ⟨c, e⟩ := hide_in h
  have ne : a ≠ p := fun z => by rw [z, erase_at] at e; cases e
  rw [erase_ne ne] at e
  refine hide_some (fun z => c ?_) e
  rcases z with z | ⟨j, es, z⟩
  · exact .inl z
  · rcases set_get z with ⟨_, e1, _⟩ | ⟨ne2, z⟩
    · cases e1
      exact absurd rfl ne
    · exact .inr ⟨j, es, z⟩
theorem Env3.set_ml {m : Addr → Prop} {H : Hp} {σ : L2.St} {i : Nat} {p : Addr} {xs : List V} {ds : List PyData} (I : Env3 K m (erase p H) σ δ) (h : H p = some (.lst xs)) (r : Da K (hide (hid m δ) (erase p H)) xs ds) :
    Env3 K m H (σ.set i (some (.ref p))) (δ.set i (.ml p ds)) := by
  have hm := hide_fresh (m := m) (δ := δ) (H := H) (i := i) (p := p) (ds := ds)
  have notp : ¬ m p := fun z => I.got p z erase_at
  have nop : ∀ (j : Nat) (es : List PyData), δ[j]? ≠ some (.ml p es) := fun j es z => by
    obtain ⟨_, _, ys, e, _⟩ := I.ml j p es z
    rw [erase_at] at e
    cases e
  refine ⟨by rw [List.length_set, List.length_set, I.len], fun j e hj => ?_, fun j q es hj => ?_, fun j k q es fs hj hk => ?_, fun a ha => ?_⟩
  · rcases set_get hj with ⟨_, e1, _⟩ | ⟨ne, hj⟩
    · cases e1
    · obtain ⟨u, h1, h2⟩ := I.dat j e hj
      exact ⟨u, by rw [List.getElem?_set_ne ne]; exact h1, h2.mono hm⟩
  · rcases set_get hj with ⟨rfl, e1, hi⟩ | ⟨ne, hj⟩
    · cases e1
      exact ⟨by rw [List.getElem?_set_self (by rw [I.len]; exact hi)], notp, xs, h, r.mono hm⟩
    · obtain ⟨h1, h2, ys, h3, h4⟩ := I.ml j q es hj
      exact ⟨by rw [List.getElem?_set_ne ne]; exact h1, h2, ys, erase_same _ _ h3, h4.mono hm⟩
  · rcases set_get hj with ⟨rfl, e1, _⟩ | ⟨ne, hj⟩
    · cases e1
      rcases set_get hk with ⟨e2, _, _⟩ | ⟨ne2, hk⟩
      · exact e2
      · exact absurd hk (nop _ _)
    · rcases set_get hk with ⟨rfl, e1, _⟩ | ⟨ne2, hk⟩
      · cases e1
        exact absurd hj (nop _ _)
      · exact I.one j k q es fs hj hk
  · have := I.got a ha
    rw [erase_ne (fun z => by rw [z] at ha; exact notp ha)] at this
    exact this
theorem Gw.set_ml {m : Addr → Prop} {H : Hp} {σ : L2.St} {i : Nat} {p : Addr} {ds : List PyData} (I : Env3 K m (erase p H) σ δ) : Gw m δ (erase p H) (δ.set i (.ml p ds)) H :=
  ⟨hide_fresh, fun a ha => (erase_ne fun z => by subst z; exact I.got a ha erase_at).symm⟩
/-- a list of one's own is changed -/
theorem hid_chg {m : Addr → Prop} {i : Nat} {p : Addr} {ds es : List PyData} (h : δ[i]? = some (.ml p ds)) {a : Addr} : hid m (δ.set i (.ml p es)) a ↔ hid m δ a := by
  constructor
  · rintro (z | ⟨j, fs, z⟩)
    · exact .inl z
    · rcases set_get z with ⟨rfl, e1, _⟩ | ⟨ne, z⟩
      · cases e1
        exact .inr ⟨_, ds, h⟩
      · exact .inr ⟨j, fs, z⟩
  · rintro (z | ⟨j, fs, z⟩)
    · exact .inl z
    · by_cases c : i = j
      · subst c
        rw [h] at z
        cases z
        exact .inr ⟨i, es, by rw [List.getElem?_set_self (List.getElem?_eq_some_iff.mp h).1]⟩
      · exact .inr ⟨j, fs, by rw [List.getElem?_set_ne c]; exact z⟩
theorem hide_chg {m : Addr → Prop} {H H' : Hp} {i : Nat} {p : Addr} {ds es : List PyData} (h : δ[i]? = some (.ml p ds)) (e : Same (erase p H) (erase p H')) : Same (hide (hid m δ) H) (hide (hid m (δ.set i (.ml p es))) H') := fun a o z => by
  obtain ⟨c, z⟩ := hide_in z
  have ne : a ≠ p := fun q => c (.inr ⟨i, ds, by rw [q]; exact h⟩)
  refine hide_some (fun q => c ((hid_chg h).mp q)) ?_
  have := e a o (by rw [erase_ne ne]; exact z)
  exact erase_same _ _ this
theorem Env3.chg {m : Addr → Prop} {H H' : Hp} {σ : L2.St} {i : Nat} {p : Addr} {xs : List V} {ds es : List PyData} (I : Env3 K m H σ δ) (h : δ[i]? = some (.ml p ds)) (e : Same (erase p H) (erase p H')) (hp : H' p = some (.lst xs))
    (r : Da K (hide (hid m δ) (erase p H')) xs es) : Env3 K m H' σ (δ.set i (.ml p es)) := by
  have hm := hide_chg (m := m) (es := es) h e
  obtain ⟨hσ, np, _⟩ := I.ml i p ds h
  have up : ∀ a o, a ≠ p → H a = some o → H' a = some o := fun a o ne z => erase_same _ _ (e a o (by rw [erase_ne ne]; exact z))
  have r' : Da K (hide (hid m (δ.set i (.ml p es))) H') xs es := r.mono fun a o z => by
    obtain ⟨c, z⟩ := hide_in z
    exact hide_some (fun q => c ((hid_chg h).mp q)) (erase_same _ _ z)
  refine ⟨by rw [List.length_set, I.len], fun j e2 hj => ?_, fun j q fs hj => ?_, fun j k q fs gs hj hk => ?_, fun a ha => ?_⟩
  · rcases set_get hj with ⟨_, e1, _⟩ | ⟨ne, hj⟩
    · cases e1
    · obtain ⟨u, h1, h2⟩ := I.dat j e2 hj
      exact ⟨u, h1, h2.mono hm⟩
  · rcases set_get hj with ⟨rfl, e1, _⟩ | ⟨ne, hj⟩
    · cases e1
      exact ⟨hσ, np, xs, hp, r'⟩
    · obtain ⟨h1, h2, ys, h3, h4⟩ := I.ml j q fs hj
      have nq : q ≠ p := fun z => ne (I.one i j p ds fs h (by rw [← z]; exact hj))
      exact ⟨h1, h2, ys, up _ _ nq h3, h4.mono hm⟩
  · have back : ∀ {j : Nat} {fs : List PyData}, (δ.set i (.ml p es))[j]? = some (.ml q fs) → ∃ gs, δ[j]? = some (.ml q gs) := fun {j fs} z => by
      rcases set_get z with ⟨rfl, e1, _⟩ | ⟨ne, z⟩
      · cases e1
        exact ⟨ds, h⟩
      · exact ⟨fs, z⟩
    obtain ⟨a1, b1⟩ := back hj
    obtain ⟨a2, b2⟩ := back hk
    exact I.one j k q a1 a2 b1 b2
  · have ne : a ≠ p := fun z => np (z ▸ ha)
    cases q : H a with
    | none => exact absurd q (I.got a ha)
    | some o =>
      rw [up a o ne q]
      exact fun z => by cases z
theorem Gw.chg {m : Addr → Prop} {H H' : Hp} {σ : L2.St} {i : Nat} {p : Addr} {ds es : List PyData} (I : Env3 K m H σ δ) (h : δ[i]? = some (.ml p ds)) (e : Same (erase p H) (erase p H')) (k : ∀ a, m a → H' a = H a) : Gw m δ H (δ.set i (.ml p es)) H' :=
  ⟨hide_chg h e, k⟩
theorem Stay.chg {i : Nat} {p : Addr} {ds es : List PyData} (h : δ[i]? = some (.ml p ds)) : Stay δ (δ.set i (.ml p es)) := fun j q fs z => by
  by_cases c : i = j
  · subst c
    rw [h] at z
    cases z
    exact ⟨es, by rw [List.getElem?_set_self (List.getElem?_eq_some_iff.mp h).1]⟩
  · exact ⟨fs, by rw [List.getElem?_set_ne c]; exact z⟩

/-! ### statements -/
theorem sx_next (q : R.nx δ) : SX K W tNext δ R := fun m H σ I D k1 _ _ _ _ => k1 σ H δ .refl I q
theorem sx_break (q : R.bk δ) : SX K W tBreak δ R := fun m H σ I D _ _ k3 _ _ => k3 σ H δ .refl I q
theorem sx_cont (q : R.ct δ) : SX K W tCont δ R := fun m H σ I D _ _ _ k4 _ => k4 σ H δ .refl I q
theorem sx_seq (h : SX K W t δ (R.nxt fun δ' => SX K W u δ' R)) : SX K W (tSeq t u) δ R := fun m H σ I D k1 k2 k3 k4 k5 =>
  h m H σ I { D with nx := u D } (fun σ' H' δ' g J p => p m H' σ' J D (fun σ2 H2 δ2 g2 J2 q => k1 σ2 H2 δ2 (g.trans g2) J2 q) (fun v w σ2 H2 δ2 g2 J2 o q => k2 v w σ2 H2 δ2 (g.trans g2) J2 o q)
    (fun σ2 H2 δ2 g2 J2 q => k3 σ2 H2 δ2 (g.trans g2) J2 q) (fun σ2 H2 δ2 g2 J2 q => k4 σ2 H2 δ2 (g.trans g2) J2 q) (fun C σ2 H2 δ2 g2 J2 q => k5 C σ2 H2 δ2 (g.trans g2) J2 q)) k2 k3 k4 k5
theorem sx_asg {i : Nat} (h : EX K W te δ (fun w δ' => ∃ d, w = .d d ∧ R.nx (δ'.set i (.dat d))) R.ex) : SX K W (tAsg te (gName i)) δ R := fun m H σ I D k1 k2 k3 k4 k5 =>
  h m H σ I _ (fun v w H' δ' g s J o ⟨d, e, q⟩ => by
    subst e
    exact k1 _ _ _ (g.trans .set_dat) (J.set_dat o) q) (fun C H' δ' g J e => k5 C σ H' δ' g J e)
theorem sx_asgF {i : Nat} (h : FX K W te δ (fun ds δ' => ∀ p, R.nx (δ'.set i (.ml p ds))) R.ex) : SX K W (tAsg te (gName i)) δ R := fun m H σ I D k1 k2 k3 k4 k5 =>
  h m H σ I _ (fun p xs ds H' δ' g s J e r q => k1 _ _ _ (g.trans (.set_ml J)) (J.set_ml e r) (q p)) (fun C H' δ' g J e => k5 C σ H' δ' g J e)
theorem sx_drop (h : EX K W te δ (fun _ δ' => R.nx δ') R.ex) : SX K W (tDrop te) δ R := fun m H σ I D k1 k2 k3 k4 k5 =>
  h m H σ I _ (fun v w H' δ' g s J o q => k1 _ _ _ g J q) (fun C H' δ' g J e => k5 C σ H' δ' g J e)
theorem sx_ret (h : EX K W te δ R.rt R.ex) : SX K W (tRet te) δ R := fun m H σ I D k1 k2 k3 k4 k5 =>
  h m H σ I _ (fun v w H' δ' g s J o q => k2 v w _ _ _ g J o q) (fun C H' δ' g J e => k5 C σ H' δ' g J e)
theorem sx_retN (h : R.rt (.d .none) δ) : SX K W tRetN δ R := fun m H σ I D k1 k2 k3 k4 k5 => k2 .non (.d .none) σ H δ .refl I .non h
theorem sx_if (h : TX K W tt δ (fun b δ' => (b = true → SX K W t δ' R) ∧ (b = false → SX K W u δ' R)) R.ex) : SX K W (tIfS tt t u) δ R := fun m H σ I D k1 k2 k3 k4 k5 =>
  h m H σ I _ (fun b H' δ' g s J ⟨q1, q2⟩ => by
    have go : ∀ {x : TS}, SX K W x δ' R → x D σ H' := fun {x} q => q m H' σ J D (fun σ2 H2 δ2 g2 J2 q => k1 σ2 H2 δ2 (g.trans g2) J2 q) (fun v w σ2 H2 δ2 g2 J2 o q => k2 v w σ2 H2 δ2 (g.trans g2) J2 o q)
      (fun σ2 H2 δ2 g2 J2 q => k3 σ2 H2 δ2 (g.trans g2) J2 q) (fun σ2 H2 δ2 g2 J2 q => k4 σ2 H2 δ2 (g.trans g2) J2 q) (fun C σ2 H2 δ2 g2 J2 q => k5 C σ2 H2 δ2 (g.trans g2) J2 q)
    cases b with
    | true => exact iteT (go (q1 rfl))
    | false => exact iteF (go (q2 rfl))) (fun C H' δ' g J e => k5 C σ H' δ' g J e)
/-- a list of one's own is data from here on -/
theorem sx_freeze {i : Nat} {p : Addr} {ds : List PyData} (h : δ[i]? = some (.ml p ds)) (q : SX K W t (δ.set i (.dat (.list ds))) R) : SX K W t δ R := fun m H σ I D k1 k2 k3 k4 k5 =>
  q m H σ (I.freeze h) D (fun σ2 H2 δ2 g2 J2 q => k1 σ2 H2 δ2 (Gw.freeze.trans g2) J2 q) (fun v w σ2 H2 δ2 g2 J2 o q => k2 v w σ2 H2 δ2 (Gw.freeze.trans g2) J2 o q)
    (fun σ2 H2 δ2 g2 J2 q => k3 σ2 H2 δ2 (Gw.freeze.trans g2) J2 q) (fun σ2 H2 δ2 g2 J2 q => k4 σ2 H2 δ2 (Gw.freeze.trans g2) J2 q) (fun C σ2 H2 δ2 g2 J2 q => k5 C σ2 H2 δ2 (Gw.freeze.trans g2) J2 q)
/-- a slot that is not asked any more -/
theorem Env3.drop {m : Addr → Prop} {H : Hp} {σ : L2.St} {i : Nat} (I : Env3 K m H σ δ) (v : Option V) : Env3 K m H (σ.set i v) (δ.set i .no) := by
  have hm := hide_set (m := m) (δ := δ) (H := H) (i := i) (s := .no) (fun _ _ z => nomatch z)
  refine ⟨by rw [List.length_set, List.length_set, I.len], fun j e hj => ?_, fun j p ds hj => ?_, fun j k p ds es hj hk => ?_, I.got⟩
  · rcases set_get hj with ⟨_, e1, _⟩ | ⟨ne, hj⟩
    · cases e1
    · obtain ⟨u, h1, h2⟩ := I.dat j e hj
      exact ⟨u, by rw [List.getElem?_set_ne ne]; exact h1, h2.mono hm⟩
  · rcases set_get hj with ⟨_, e1, _⟩ | ⟨ne, hj⟩
    · cases e1
    · obtain ⟨h1, h2, ys, h3, h4⟩ := I.ml j p ds hj
      exact ⟨by rw [List.getElem?_set_ne ne]; exact h1, h2, ys, h3, h4.mono hm⟩
  · rcases set_get hj with ⟨_, e1, _⟩ | ⟨ne, hj⟩
    · cases e1
    · rcases set_get hk with ⟨_, e1, _⟩ | ⟨ne2, hk⟩
      · cases e1
      · exact I.one j k p ds es hj hk
/-- less is known -/
def Less (δ δ' : Sto) : Prop := δ'.length = δ.length ∧ ∀ (i : Nat), δ'[i]? = δ[i]? ∨ δ'[i]? = some .no
theorem Env3.less {m : Addr → Prop} {H : Hp} {σ : L2.St} {δ' : Sto} (I : Env3 K m H σ δ) (h : Less δ δ') : Env3 K m H σ δ' ∧ Same (hide (hid m δ) H) (hide (hid m δ') H) := by
  have back : ∀ {i : Nat} {s : Sl}, δ'[i]? = some s → s ≠ .no → δ[i]? = some s := fun {i s} e n => by
    rcases h.2 i with z | z
    · rw [← z]
      exact e
    · rw [z] at e
      exact absurd (Option.some.inj e).symm n
  have hm : Same (hide (hid m δ) H) (hide (hid m δ') H) := fun a o z => by
    obtain ⟨c, z⟩ := hide_in z
    refine hide_some (fun q => c ?_) z
    rcases q with q | ⟨i, ds, q⟩
    · exact .inl q
    · exact .inr ⟨i, ds, back q (fun z => nomatch z)⟩
  refine ⟨⟨by rw [I.len, h.1], fun i d e => ?_, fun i p ds e => ?_, fun i j p ds es a b => I.one i j p ds es (back a fun z => nomatch z) (back b fun z => nomatch z), I.got⟩, hm⟩
  · obtain ⟨v, h1, h2⟩ := I.dat i d (back e fun z => nomatch z)
    exact ⟨v, h1, h2.mono hm⟩
  · obtain ⟨h1, h2, xs, h3, h4⟩ := I.ml i p ds (back e fun z => nomatch z)
    exact ⟨h1, h2, xs, h3, h4.mono hm⟩
theorem sx_less {δ' : Sto} (h : Less δ δ') (q : SX K W t δ' R) : SX K W t δ R := fun m H σ I D k1 k2 k3 k4 k5 => by
  obtain ⟨J, sm⟩ := I.less h
  have g0 : Gw m δ H δ' H := ⟨sm, fun _ _ => rfl⟩
  exact q m H σ J D (fun σ2 H2 δ2 g2 J2 q => k1 σ2 H2 δ2 (g0.trans g2) J2 q) (fun v w σ2 H2 δ2 g2 J2 o q => k2 v w σ2 H2 δ2 (g0.trans g2) J2 o q)
    (fun σ2 H2 δ2 g2 J2 q => k3 σ2 H2 δ2 (g0.trans g2) J2 q) (fun σ2 H2 δ2 g2 J2 q => k4 σ2 H2 δ2 (g0.trans g2) J2 q) (fun C σ2 H2 δ2 g2 J2 q => k5 C σ2 H2 δ2 (g0.trans g2) J2 q)
/-- a, b = e -/
def setAll : Sto → List Nat → List PyData → Sto
  | δ, i :: is, d :: ds => setAll (δ.set i (.dat d)) is ds
  | δ, _, _ => δ
def gNames : List Nat → TGs
  | [] => gNil
  | i :: is => gCons (gName i) (gNames is)
theorem names_go {D : L2.St → Hp → Prop} : ∀ (is : List Nat) (ds : List PyData) (xs : List V) (m : Addr → Prop) (H : Hp) (σ : L2.St) (δ : Sto), Env3 K m H σ δ → Da K (hide (hid m δ) H) xs ds → ds.length = is.length →
    (∀ σ' , Gw m δ H (setAll δ is ds) H → Env3 K m H σ' (setAll δ is ds) → D σ' H) → gNames is xs σ H D
  | [], [], _, m, H, σ, δ, I, hr, _, k => by
    cases hr
    exact ⟨rfl, k σ .refl I⟩
  | i :: is, d :: ds, v :: vs, m, H, σ, δ, I, hr, hl, k => by
    cases hr with
    | cons h r =>
      refine ⟨v, vs, rfl, ?_⟩
      refine names_go is ds vs m H (σ.set i (some v)) (δ.set i (.dat d)) (I.set_dat h) (r.mono (hide_set (s := .dat d) (fun _ _ z => nomatch z))) (Nat.succ.inj hl) fun σ' g J => k σ' (Gw.set_dat.trans g) J
  | i :: is, d :: ds, [], m, H, σ, δ, I, hr, hl, k => by cases hr
  | [], d :: ds, _, m, H, σ, δ, I, hr, hl, k => by cases hl
  | i :: is, [], _, m, H, σ, δ, I, hr, hl, k => by cases hl
theorem sx_unpack {n : Nat} {is : List Nat} (h : EX K W te δ (fun w δ' => ∃ ds, w = .d (.tuple ds) ∧ ds.length = n ∧ R.nx (setAll δ' is ds)) R.ex) (hn : is.length = n) : SX K W (tAsg te (gTup K n (gNames is))) δ R := fun m H σ I D k1 k2 k3 k4 k5 =>
  h m H σ I _ (fun v w H' δ' g s J o ⟨ds, e, hl, q⟩ => by
    subst e
    obtain ⟨a, xs, rfl, hs, r⟩ := dd_tup o
    refine ⟨a, xs, rfl, Same.tup hide_same hs, by rw [r.length, hl], ?_⟩
    exact names_go is ds xs m H' σ δ' J r (by rw [hl, hn]) fun σ' g' J' => k1 σ' H' _ (g.trans g') J' q) (fun C H' δ' g J e => k5 C σ H' δ' g J e)
end
end M3
namespace M3
open PySem PySem.Spec PyProof.Rows L2

/-! ### a def's promise where nothing is being shown (no repr runs) -/
structure FnG (P : Program) (w : World) (K : PySem.W.Frag) (mg : Str → Option Value) (base : Heap) (k : Nat) (f : Addr) (fd : FuncData) (ps : List Str) (sp : Sp) : Prop where
  len : ∀ vs H Q E, sp vs H Q E → vs.length = ps.length
  run : ∀ (A : Around) (outer : List Env) (s : Shared) (H : Hp) (args : Args) (us : List Value) (vs : List V) (Q : VK) (E : XK), A.guards = some [] → Room k A → Env0 P w K mg base A outer s H →
    BindsTo s fd args (ps.zip us) → Vals vs us → sp vs H Q E → codeAny (model P w) A (.call (.ref f) args) (CR (L2.CX P w) outer P w H s Q E) s
section
variable {P : Program} {w : World} {K : PySem.W.Frag} {mg : Str → Option Value} {base : Heap} {k : Nat} {f : Addr} {fd : FuncData} {ps N : List Str} {sp sp' : Sp}
theorem FnG.up {j : Nat} (F : FnG P w K mg base j f fd ps sp) (h : j ≤ k) : FnG P w K mg base k f fd ps sp :=
  ⟨F.len, fun A outer s H args us vs Q E g hr => F.run A outer s H args us vs Q E g (hr.mono h)⟩
theorem FnG.weak (F : FnG P w K mg base k f fd ps sp) (h : ∀ vs H Q E, sp' vs H Q E → sp vs H Q E) : FnG P w K mg base k f fd ps sp' :=
  ⟨fun vs H Q E q => F.len vs H Q E (h _ _ _ _ q), fun A outer s H args us vs Q E g hr e b v q => F.run A outer s H args us vs Q E g hr e b v (h _ _ _ _ q)⟩
/-- the context in which a body runs -/
abbrev bodyX (P : Program) (w : World) (K : PySem.W.Frag) (mg : Str → Option Value) (base : Heap) (N : List Str) (qual : Str) (st : Stmt) (f : Addr) (cdv : Value) (A : Around) (outer : List Env) (s : Shared) (H : Hp) (E : XK) : Cx :=
  cxOf (L2.CX P w) P w K mg base N qual (defScope st) f cdv A outer s H E
/-- a def of the text as it stands behind the top, whatever its defaults are -/
structure Fd (K : PySem.W.Frag) (x qual : Str) (st : Stmt) (f : Addr) (fd : FuncData) : Prop where
  ex : ∃ (oc : Value) (od : Option Addr) (dV kV doc pm : Value) (an : Option Addr) (cdv ct : Value) (osl : Array (Option Value)),
    fd = PySem.W.fnOf x qual (defArgs st) (defBody st) (defScope st) dV kV doc pm an cdv ct ∧ K.lookup f = some ⟨oc, od, .func fd, osl⟩ ∧ PySem.W.codeIn K cdv qual = true
  kp : PySem.W.keepIn K (.ref f) = true
theorem fd_mk {x qual : Str} {st : Stmt} {oc : Value} {od an : Option Addr} {osl : Array (Option Value)} {dV kV doc pm cdv ct : Value} (l : K.lookup f = some ⟨oc, od, .func (PySem.W.fnOf x qual (defArgs st) (defBody st) (defScope st) dV kV doc pm an cdv ct), osl⟩)
    (c : PySem.W.codeIn K cdv qual = true) (k : PySem.W.keepIn K (.ref f) = true) : Fd K x qual st f (PySem.W.fnOf x qual (defArgs st) (defBody st) (defScope st) dV kV doc pm an cdv ct) :=
  ⟨⟨oc, od, dV, kV, doc, pm, an, cdv, ct, osl, rfl, l, c⟩, k⟩
theorem bodyK {N : List Str} {qual : Str} {st : Stmt} {cdv : Value} {A : Around} {outer : List Env} {s : Shared} {H : Hp} {E : XK} : (bodyX P w K mg base N qual st f cdv A outer s H E).K = K := rfl
theorem fn_body {x qual : Str} {st : Stmt} (F : Fd K x qual st f fd) (S : FnScope N ps (defScope st)) (len : ∀ vs H Q E, sp vs H Q E → vs.length = ps.length)
    (body : ∀ (cdv : Value) (A : Around) (outer : List Env) (s : Shared) (H : Hp) (vs : List V) (Q : VK) (E : XK), A.guards = some [] → Room k (A.deeper (envOfC qual (defScope st) s.heap.objs.size f cdv)) → sp vs H Q E →
      ∃ t, PSs (bodyX P w K mg base N qual st f cdv A outer s H E) (defBody st) t ∧ t { nx := fun _ H' => Q .non H', rt := Q } (start N vs) H) : FnG P w K mg base (k + 1) f fd ps sp := by
  obtain ⟨oc, od, dV, kV, doc, pm, an, cdv, ct, osl, e, lk, hcd⟩ := F.ex
  subst e
  refine ⟨len, fun A outer s H args us vs Q E hgd hr e0 hb hvs hsp => ?_⟩
  have old : ∀ b o, base.get? b = some o → s.heap.get? b = some o := fun b o e => (e0.bs b o e).1
  have hkd : ∀ y ∈ ps.zip us, (defScope st).names.lookup y.1 = some .local ∨ ((defScope st).names.lookup y.1 = some .cell ∧ ((cellsFrom (s.heap.objs.size + 1) (defScope st).names []).lookup y.1).isSome = true) := by
    rintro ⟨n, v⟩ hy
    cases S.par n (List.of_mem_zip hy).1 with
    | inl q => exact .inl q
    | inr q => exact .inr ⟨q, PySem.W.cellsFrom_some _ _ _ (.inl q)⟩
  refine codeAny_call_function hr.depth ((e0.mod.kin.keeps old) _ _ lk) rfl S.co S.gen rfl (PySem.W.codeRec_of (e0.mod.kin.keeps old) hcd) (hb _ _ _ _ ?_)
  refine wpAny_newFunctionEnv_cells S.kind hkd fun env he s1 x => ?_
  cases he
  obtain ⟨t, ht, hq⟩ := body cdv A outer s H vs Q E hgd (hr.deeper _) hsp
  refine ⟨(e0.mod.nolimit.keeps old).keeps x.toInCall.keep, codeAny_func ?_⟩
  have I0 := inv_start (CX := L2.CX P w) (E := E) S hr.hd e0 (len _ _ _ _ hsp) hvs x
  refine wpAny_mono (ht.run [] s1 (start N vs) H _ I0 hq) (fun fl s' hs => ?_) (fun _ _ z => z)
  cases fl with
  | brk => obtain ⟨_, _, _, q⟩ := hs; exact q.elim
  | cont => obtain ⟨_, _, _, q⟩ := hs; exact q.elim
  | next =>
    obtain ⟨σ', H', J, q⟩ := hs
    exact ⟨V.non, H', J.os, J.bare, J.base, J.hok, rfl, q⟩
  | ret u =>
    obtain ⟨v, σ', H', J, rv, q⟩ := hs
    exact ⟨v, H', J.os, J.bare, J.base, J.hok, rv, q⟩
end

/-! ### calls -/
section
variable {X : Cx} {k : Nat} {f : Addr} {fd : FuncData} {ps : List Str} {sp : Sp} {E : L2.St → XK} {x : Str} {p pos : Pos} {e : Expr} {es : List Expr} {t : TA} {dvs : List V} {ds : List Value}
/-- f(e, ..), written defaults dvs behind -/
def tCallG (sp : Sp) (dvs : List V) (E : L2.St → XK) (t : TA) : TE := fun σ H Q => t σ H fun vs H1 => sp (vs ++ dvs) H1 Q (E σ)
theorem run_G {pins : List (Addr × Obj)} {σ : L2.St} {H : Hp} {s : Shared} {Q : VK} {us : List Value} {vs : List V} (F : FnG X.prog X.w X.K X.mg X.base k f fd ps sp) (hgd : X.A.guards = some []) (hr : Room k X.A) (hb : Binds X.K fd ps ds) (hd : Vals dvs ds)
    (hx : PassesAt (L2.CX X.prog X.w) X σ (E σ)) (I : Inv X pins σ H s) (r : Vals vs us) (h : sp (vs ++ dvs) H Q (E σ)) : wpAny (model X.prog X.w) X.A (call (.ref f) us) (EP X pins σ Q) X.xe s := by
  have r2 := r.append hd
  have hl : (us ++ ds).length = ps.length := r2.length.symm.trans (F.len _ _ _ _ h)
  refine wpAny_call (codeAny_mono (F.run X.A X.stack s H ⟨us, []⟩ (us ++ ds) _ Q (E σ) hgd hr I.env0 (hb s us I.kIn hl) r2 h) ?_)
  rintro (er | fl) s' hq
  · exact hx pins H s er s' I hq
  · cases fl with
    | ret u => exact I.after hq
    | next => exact hq.elim
    | brk => exact hq.elim
    | cont => exact hq.elim
theorem pe_G (F : FnG X.prog X.w X.K X.mg X.base k f fd ps sp) (hgd : X.A.guards = some []) (hr : Room k X.A) (hg : Gl X x) (hm : X.mg x = some (.ref f)) (hk : PySem.W.keepIn X.K (.ref f) = true) (hb : Binds X.K fd ps ds) (hd : Vals dvs ds)
    (hx : ∀ σ, PassesAt (L2.CX X.prog X.w) X σ (E σ)) (ha : PA X (e :: es) t) (hdb : (x == ("__debug__" : Str)) = false := by decide) (he : starEach (e :: es) X.env = (false, eval e X.env) :: starEach es X.env := by rfl)
    (hpl : (backTo pos (starEach es X.env)).any (·.1) = false := by rfl) : PE X (.Call (.Name x p) (e :: es) [] pos) (tCallG sp dvs E t) :=
  ⟨fun pins s σ H Q I h => wpAny_Call_Name_kw (ld_glob I hg hm (PySem.W.callWith_K (h₀ := X.base) I.ok.mod.kin hk
    (thn (ha.run pos pins s σ H _ I h) fun us s1 ⟨vs, H1, I1, r, q⟩ => ⟨I1.kIn, run_G F hgd hr hb hd (hx σ) I1 r q⟩) he hpl) hdb)⟩
/-- a call where nothing may leave (in a comprehension) -/
theorem noPass {X : Cx} (σ : L2.St) : PassesAt (L2.CX X.prog X.w) X σ (fun _ _ _ => False) := fun _ _ _ _ _ _ h => by
  obtain ⟨_, _, _, _, _, _, _, _, _, _, _, _, z⟩ := h
  exact z.elim
end

/-! ### promises over data -/
/-- a def of data: it is called with enc a for an a with pre a; post tells what comes back, exn what is raised -/
def spD (K : PySem.W.Frag) {α : Type} (n : Nat) (enc : α → List PyData) (pre : α → Prop) (post : α → PyData → Prop) (exn : α → Value → Prop) : Sp := fun vs H Q E =>
  ∃ (m : Addr → Prop) (a : α), (∀ x, m x → H x ≠ none) ∧ Da K (hide m H) vs (enc a) ∧ (enc a).length = n ∧ pre a ∧ (∀ v d H', Same H H' → Dd K (hide m H') v d → post a d → Q v H') ∧
    ∀ C H', Same H H' → exn a C → E C none H'
/-- a def whose first argument is a list that it may change: es its items ahead, fs behind -/
def spM (K : PySem.W.Frag) {α : Type} (n : Nat) (enc : α → List PyData) (pre : List PyData → α → Prop) (post : List PyData → α → PyData → List PyData → Prop) : Sp := fun vs H Q _ =>
  ∃ (m : Addr → Prop) (p : Addr) (vr xs : List V) (es : List PyData) (a : α), vs = .ref p :: vr ∧ (∀ x, m x → H x ≠ none) ∧ ¬ m p ∧ H p = some (.lst xs) ∧ Da K (hide m (erase p H)) xs es ∧ Da K (hide m (erase p H)) vr (enc a) ∧ (enc a).length = n ∧ pre es a ∧
    ∀ v d ys fs H', Same (hide m (erase p H)) (hide m (erase p H')) → (∀ x, m x → H' x = H x) → H' p = some (.lst ys) → Da K (hide m (erase p H')) ys fs → Dd K (hide m (erase p H')) v d → post es a d fs → Q v H'
section
variable {K : PySem.W.Frag} {W : WX} {δ : Sto} {ex : XP} {P : Vw → Sto → Prop} {t : TA} {n : Nat} {α : Type} {enc : α → List PyData} {pre : α → Prop} {post : α → PyData → Prop} {exn : α → Value → Prop}
theorem got_hid {m : Addr → Prop} {H : Hp} {σ : L2.St} (I : Env3 K m H σ δ) : ∀ a, hid m δ a → H a ≠ none := fun a h z => not_hid I z h
theorem da_defaults {H : Hp} {dvs : List V} {dds : List PyData} (h : ∀ H, Da K H dvs dds) : Da K H dvs dds := h H
theorem ex_call {dvs : List V} {dds : List PyData} (hd : ∀ H, Da K H dvs dds)
    (h : AX K W t δ (fun ws δ' => ∃ (ds : List PyData) (a : α), ws = ds.map .d ∧ enc a = ds ++ dds ∧ (enc a).length = n ∧ pre a ∧ (∀ d, post a d → P (.d d) δ') ∧ (∀ C, exn a C → ex C δ')) ex) :
    EX K W (tCallG (spD K n enc pre post exn) dvs (WE W) t) δ P ex := fun m H σ I Q k k2 =>
  h m H σ I _ (fun vs ws H1 δ1 g1 s1 I1 o1 ⟨ds, a, e, ea, hl, hp, q, q2⟩ => by
    subst e
    exact ⟨hid m δ1, a, got_hid I1, by rw [ea]; exact (da_of o1).append (hd _), hl, hp, fun v d H' sm dd pd => k v (.d d) H' δ1 (g1.trans (.of_same I1.got sm)) s1 (I1.same sm) dd (q d pd),
      fun C H' sm ee => k2 C H' δ1 (g1.trans (.of_same I1.got sm)) (I1.same sm) (q2 C ee)⟩) k2
/-- the same in a comprehension: nothing may be raised -/
theorem ex_call0 {dvs : List V} {dds : List PyData} (hd : ∀ H, Da K H dvs dds)
    (h : AX K W t δ (fun ws δ' => ∃ (ds : List PyData) (a : α), ws = ds.map .d ∧ enc a = ds ++ dds ∧ (enc a).length = n ∧ pre a ∧ (∀ d, post a d → P (.d d) δ') ∧ (∀ C, ¬ exn a C)) ex) :
    EX K W (tCallG (spD K n enc pre post exn) dvs (fun _ _ _ _ => False) t) δ P ex := fun m H σ I Q k k2 =>
  h m H σ I _ (fun vs ws H1 δ1 g1 s1 I1 o1 ⟨ds, a, e, ea, hl, hp, q, q2⟩ => by
    subst e
    exact ⟨hid m δ1, a, got_hid I1, by rw [ea]; exact (da_of o1).append (hd _), hl, hp, fun v d H' sm dd pd => k v (.d d) H' δ1 (g1.trans (.of_same I1.got sm)) s1 (I1.same sm) dd (q d pd),
      fun C H' sm ee => (q2 C ee).elim⟩) k2
theorem hide_erase {m : Addr → Prop} {i : Nat} {p : Addr} {ds : List PyData} {H : Hp} (h : δ[i]? = some (.ml p ds)) : hide (hid m δ) (erase p H) = hide (hid m δ) H := by
  funext a
  by_cases c : hid m δ a
  · unfold hide
    rw [if_pos c, if_pos c]
  · have ne : a ≠ p := fun z => c (.inr ⟨i, ds, by rw [z]; exact h⟩)
    rw [hide_of c, hide_of c, erase_ne ne]
theorem sub_hide {m : Addr → Prop} {δ : Sto} {H : Hp} : Same (hide (hid m δ) H) (hide m H) := fun a o z => by
  obtain ⟨c, z⟩ := hide_in z
  exact hide_some (fun q => c (.inl q)) z
/-- hidden from a callee that has the list at p: all else of one's own -/
def hidBut (m : Addr → Prop) (δ : Sto) (p : Addr) : Addr → Prop := fun a => hid m δ a ∧ a ≠ p
theorem hide_but {m : Addr → Prop} {i : Nat} {p : Addr} {ds : List PyData} {H : Hp} (h : δ[i]? = some (.ml p ds)) : hide (hidBut m δ p) (erase p H) = hide (hid m δ) H := by
  funext a
  by_cases c : a = p
  · subst c
    have h1 : hid m δ a := .inr ⟨i, ds, h⟩
    have h2 : ¬ hidBut m δ a a := fun z => z.2 rfl
    rw [hide_of h2, erase_at]
    unfold hide
    rw [if_pos h1]
  · by_cases c2 : hid m δ a
    · unfold hide
      rw [if_pos c2, if_pos (show hidBut m δ p a from ⟨c2, c⟩)]
    · rw [hide_of c2, hide_of (fun z => c2 z.1), erase_ne c]
theorem ex_callM {i : Nat} {preM : List PyData → α → Prop} {postM : List PyData → α → PyData → List PyData → Prop} {E : L2.St → XK}
    (h : AX K W t δ (fun ws δ' => ∃ (a : α) (p : Addr) (es : List PyData), ws = .m i :: (enc a).map .d ∧ δ'[i]? = some (.ml p es) ∧ (enc a).length = n ∧ preM es a ∧ ∀ d fs, postM es a d fs → P (.d d) (δ'.set i (.ml p fs))) ex) :
    EX K W (tCallG (spM K n enc preM postM) [] E t) δ P ex := fun m H σ I Q k k2 =>
  h m H σ I _ (fun vs ws H1 δ1 g1 s1 I1 o1 ⟨ds, p, es, e, hi, hl, hp, q⟩ => by
    subst e
    cases o1 with
    | cons hv hr =>
      obtain ⟨p', es', e1, rfl⟩ := hv
      rw [hi] at e1
      cases e1
      obtain ⟨_, np, xs, hx, hxs⟩ := I1.ml i p es hi
      rw [List.append_nil]
      refine ⟨hidBut m δ1 p, p, _, xs, es, ds, rfl, fun a z => got_hid I1 a z.1, fun z => z.2 rfl, hx, ?_, ?_, hl, hp, fun v d ys fs H' sm kp hy hys hv2 pq => ?_⟩
      · rw [hide_but hi]
        exact hxs
      · rw [hide_but hi]
        exact da_of hr
      · rw [hide_but hi, hide_but hi] at sm
        rw [hide_but hi] at hys hv2
        have sme : Same (erase p H1) (erase p H') := fun a o z => by
          have ne : a ≠ p := fun q => by rw [q, erase_at] at z; cases z
          rw [erase_ne ne] at z ⊢
          by_cases c : hid m δ1 a
          · rw [kp a ⟨c, ne⟩]
            exact z
          · exact (hide_in (sm a o (hide_some c z))).2
        have g2 : Gw m δ1 H1 (δ1.set i (.ml p fs)) H' := .chg I1 hi sme fun a ha => kp a ⟨.inl ha, fun z => np (z ▸ ha)⟩
        have I2 : Env3 K m H' σ (δ1.set i (.ml p fs)) := I1.chg hi sme hy (by rw [hide_erase hi]; exact hys)
        refine k v (.d d) H' _ (g1.trans g2) (s1.trans (.chg hi)) I2 ?_ (q d fs pq)
        exact Dd.mono (fun a o z => by
          obtain ⟨c, z⟩ := hide_in z
          exact hide_some (fun q => c ((hid_chg hi).mp q)) z) hv2) k2
end

/-! ### a def by its body over stores -/
def st0 (n : Nat) (ds : List PyData) : Sto := ds.map .dat ++ List.replicate (n - ds.length) .no
abbrev W0 (E : XK) : WX := fun cls d _ H => E cls d H
section
variable {P : Program} {w : World} {K : PySem.W.Frag} {mg : Str → Option Value} {base : Heap} {k : Nat} {f : Addr} {fd : FuncData} {ps N : List Str}
theorem st0_env {H : Hp} {m : Addr → Prop} {n : Nat} : ∀ {vs : List V} {ds : List PyData}, Da K (hide m H) vs ds → (∀ a, m a → H a ≠ none) → Env3 K m H (vs.map some ++ List.replicate (n - vs.length) none) (st0 n ds) := fun {vs ds} r got => by
  have hl := r.length
  have noml : ∀ (i : Nat) (p : Addr) (es : List PyData), (st0 n ds)[i]? ≠ some (.ml p es) := fun i p es z => by
    unfold st0 at z
    rw [List.getElem?_append] at z
    split at z
    · rw [List.getElem?_map] at z
      cases q : ds[i]? with
      | none => rw [q] at z; cases z
      | some d => rw [q] at z; cases z
    · rw [List.getElem?_replicate] at z
      split at z <;> cases z
  have hm : Same (hide m H) (hide (hid m (st0 n ds)) H) := fun a o z => by
    obtain ⟨c, z⟩ := hide_in z
    refine hide_some (fun q => ?_) z
    rcases q with q | ⟨i, es, q⟩
    · exact c q
    · exact noml _ _ _ q
  refine ⟨?_, fun i d e => ?_, fun i p es e => absurd e (noml i p es), fun i j p es fs e _ => absurd e (noml i p es), got⟩
  · unfold st0
    rw [List.length_append, List.length_append, List.length_map, List.length_map, List.length_replicate, List.length_replicate, hl]
  · unfold st0 at e
    rw [List.getElem?_append] at e
    split at e
    · rename_i hi
      rw [List.length_map] at hi
      rw [List.getElem?_map] at e
      cases q : ds[i]? with
      | none => rw [q] at e; cases e
      | some d' =>
        rw [q] at e
        cases e
        obtain ⟨v, h1, h2⟩ := r.get q
        refine ⟨v, ?_, h2.mono hm⟩
        rw [List.getElem?_append_left (by rw [List.length_map, hl]; exact hi), List.getElem?_map, h1]
        rfl
    · rw [List.getElem?_replicate] at e
      split at e <;> cases e
theorem fn_data {x qual : Str} {st : Stmt} {n : Nat} {α : Type} {enc : α → List PyData} {pre : α → Prop} {post : α → PyData → Prop} {exn : α → Value → Prop} (F : Fd K x qual st f fd) (S : FnScope N ps (defScope st)) (hn : ps.length = n)
    (body : ∀ (cdv : Value) (A : Around) (outer : List Env) (s : Shared) (H : Hp) (E : XK), A.guards = some [] → Room k (A.deeper (envOfC qual (defScope st) s.heap.objs.size f cdv)) →
      ∃ t, PSs (bodyX P w K mg base N qual st f cdv A outer s H E) (defBody st) t ∧ ∀ a, pre a → SX K (W0 E) t (st0 N.length (enc a))
        (RD (post a) (exn a))) : FnG P w K mg base (k + 1) f fd ps (spD K n enc pre post exn) := by
  refine fn_body F S (fun vs H Q E ⟨m, a, _, r, hl, _⟩ => by rw [r.length, hl, hn]) fun cdv A outer s H vs Q E hgd hr h => ?_
  obtain ⟨m, a, got, r, hl, hp, q, q2⟩ := h
  obtain ⟨t, ht, hb⟩ := body cdv A outer s H E hgd hr
  have I0 : Env3 K m H (start N vs) (st0 N.length (enc a)) := st0_env r got
  have sm : ∀ {H' : Hp} {δ' : Sto}, Gw m (st0 N.length (enc a)) H δ' H' → Same H H' := fun {H' δ'} g b o z => by
    by_cases c : m b
    · rw [g.keep b c]
      exact z
    · have no : ¬ hid m (st0 N.length (enc a)) b := fun y => by
        rcases y with y | ⟨i, es, y⟩
        · exact c y
        · obtain ⟨z1, _⟩ := I0.ml i b es y
          unfold st0 at y
          rw [List.getElem?_append] at y
          split at y
          · rw [List.getElem?_map] at y
            cases q : (enc a)[i]? with
            | none => rw [q] at y; cases y
            | some d => rw [q] at y; cases y
          · rw [List.getElem?_replicate] at y
            split at y <;> cases y
      exact (hide_in (g.same b o (hide_some no z))).2
  exact ⟨t, ht, hb a hp m H (start N vs) I0 _ (fun σ' H' δ' g J pp => q .non .none H' (sm g) .non pp) (fun v w σ' H' δ' g J o ⟨d, e, pp⟩ => by
    subst e
    exact q v d H' (sm g) (Dd.mono sub_hide o) pp) (fun _ _ _ _ _ z => z.elim) (fun _ _ _ _ _ z => z.elim) fun C σ' H' δ' g J e => q2 C H' (sm g) e⟩
end
end M3
namespace M3
open PySem PySem.Spec PyProof.Rows L2

/-! ### rules of one's own over the layer -/
section
variable {X : Cx}
theorem op_fdX : OpR X (binaryOp .FloorDiv) (rI (fun _ j => j ≠ 0 ∧ j.natAbs.log2 < 9000) fun i j => .int (i.fdiv j)) :=
  opI fun i j _ _ _ _ _ hc q => floordiv_int hc.1 q (.inl (PyProof.noPylong_of_log2 hc.2))
end
/-- what a value of data is called -/
def tyN : PyData → String
  | .none => "NoneType"
  | .bool _ => "bool"
  | .int _ => "int"
  | .str _ => "str"
  | .list _ => "list"
  | .tuple _ => "tuple"
  | .dict _ => "dict"
section
variable {K : PySem.W.Frag} {W : WX} {δ : Sto} {ex : XP} {post : Vw → Sto → Prop} {ta tb tc te : TE} {tt tu : TT} {R : Ends3} {t u : TS} {H : Hp}
theorem tyX_of {v : V} {d : PyData} (h : Dd K H v d) : TyX K H v (.type (tyN d)) := by
  cases h with
  | non => exact .base .non
  | bl b => exact .base (.bl b)
  | int i => exact .base (.int i)
  | str x => exact .base (.str x)
  | lst h r =>
    rcases h with (h | ⟨o, h⟩) | ⟨o, its, n, h, c, _⟩
    · exact .base (.lst h)
    · exact .base (.frz h)
    · exact .kList h c
  | dK h r => exact .base (.dK h)
  | dT h r => exact .base (.dT h)
  | tup h r =>
    rcases h with (h | ⟨o, h⟩) | ⟨o, its, n, h, c, _⟩
    · exact .base (.tup h)
    · exact .fTuple h
    · exact .kTuple h c
mutual
theorem dp_of : ∀ {v : V} {d : PyData}, Dd K H v d → d.canLay0 = true → Dp K H v d
  | _, _, .non, _ => .non
  | _, _, .bl b, _ => .bl b
  | _, _, .int i, _ => .int i
  | _, _, .str x, _ => .str x
  | _, _, .lst h r, c => .lst h (dpAll_of r (by simpa only [PyData.canLay0] using c))
  | _, _, .tup h r, c => .tup h (dpAll_of r (by simpa only [PyData.canLay0] using c))
  | _, _, .dK h r, c => by simp only [PyData.canLay0] at c; cases c
  | _, _, .dT h r, c => by simp only [PyData.canLay0] at c; cases c
theorem dpAll_of : ∀ {v : List V} {d : List PyData}, Da K H v d → PyData.canLayAll0 d = true → DpAll K H v d
  | _, _, .nil, _ => .nil
  | _, _, .cons h r, c => by
    simp only [PyData.canLayAll0, Bool.and_eq_true] at c
    exact .cons (dp_of h c.1) (dpAll_of r c.2)
end
/-! ### calls by values -/
def VX (K : PySem.W.Frag) (r : List V → Hp → VK → Prop) (ws : List Vw) (δ : Sto) (post : Vw → Sto → Prop) : Prop :=
  ∀ (m : Addr → Prop) (H : Hp) (σ : L2.St) (vs : List V), Env3 K m H σ δ → VwAll K m H δ vs ws → ∀ Q : VK,
    (∀ v w H', Same H H' → VwOk K m H' δ v w → post w δ → Q v H') → r vs H Q
theorem ex_CB {r : List V → Hp → VK → Prop} {t : TA} (h : AX K W t δ (fun ws δ' => VX K r ws δ' post) ex) : EX K W (tCB r t) δ post ex :=
  fun m H σ I Q k k2 => h m H σ I _ (fun vs ws H1 δ1 g1 s1 I1 o1 hr => hr m H1 σ vs I1 o1 Q fun v w H3 e o p => k v w H3 δ1 (g1.trans (.of_same I1.got e)) s1 (I1.same e) o p) k2
theorem ex_cv {v : V} (q : post (.v v) δ) : EX K W (tC v) δ post ex := fun m H σ I Q k _ => k v (.v v) H δ .refl (.refl δ) I rfl q
theorem vw1 {m : Addr → Prop} {vs : List V} {w : Vw} (h : VwAll K m H δ vs [w]) : ∃ v, vs = [v] ∧ VwOk K m H δ v w := by
  cases h with
  | cons h r => cases r; exact ⟨_, rfl, h⟩
theorem vw2 {m : Addr → Prop} {vs : List V} {w x : Vw} (h : VwAll K m H δ vs [w, x]) : ∃ v u, vs = [v, u] ∧ VwOk K m H δ v w ∧ VwOk K m H δ u x := by
  cases h with
  | cons h r =>
    obtain ⟨u, rfl, h2⟩ := vw1 r
    exact ⟨_, _, rfl, h, h2⟩
theorem tyX_hide {m : Addr → Prop} {v : V} {d : PyData} (h : Dd K (hide m H) v d) : TyX K H v (.type (tyN d)) := tyX_of (h.mono hide_same)
theorem vx_isi {d : PyData} {T : String} {b : Bool} (e : kitB (tyN d) T = some b) (q : post (.d (.bool b)) δ) : VX K (rIsi K) [.d d, .v (.ty T)] δ post := fun m H σ vs I h Q k => by
  obtain ⟨v, u, rfl, h1, h2⟩ := vw2 h
  cases (show u = V.ty T from h2)
  exact ⟨v, .ty T, .type (tyN d), .type T, b, rfl, .ty T, tyX_hide h1, kit_ty e, k _ (.d (.bool b)) H (.refl H) (.bl b) q⟩
abbrev rLenS (K : PySem.W.Frag) : List V → Hp → VK → Prop := fun xs H Q => ∃ p ys, xs = [.ref p] ∧ (SqL K H p ys ∨ SqT K H p ys) ∧ Q (.int ys.length) H
theorem vx_lenT {ds : List PyData} (q : post (.d (.int ds.length)) δ) : VX K (rLenS K) [.d (.tuple ds)] δ post := fun m H σ vs I h Q k => by
  obtain ⟨v, rfl, h1⟩ := vw1 h
  obtain ⟨a, xs, rfl, hs, r⟩ := dd_tup h1
  refine ⟨a, xs, rfl, .inr (Same.tup hide_same hs), k _ (.d (.int ds.length)) H (.refl H) ?_ q⟩
  rw [← r.length]
  exact .int _
theorem vx_lenL {ds : List PyData} (q : post (.d (.int ds.length)) δ) : VX K (rLenS K) [.d (.list ds)] δ post := fun m H σ vs I h Q k => by
  obtain ⟨v, rfl, h1⟩ := vw1 h
  obtain ⟨a, xs, rfl, hs, r⟩ := dd_lst h1
  refine ⟨a, xs, rfl, .inl (Same.seq hide_same hs), k _ (.d (.int ds.length)) H (.refl H) ?_ q⟩
  rw [← r.length]
  exact .int _
theorem vx_lenM {i : Nat} {p : Addr} {ds : List PyData} (hi : δ[i]? = some (.ml p ds)) (q : post (.d (.int ds.length)) δ) : VX K (rLenS K) [.m i] δ post := fun m H σ vs I h Q k => by
  obtain ⟨v, rfl, p', ds', e, rfl⟩ := vw1 h
  rw [hi] at e
  cases e
  obtain ⟨_, _, xs, hp, r⟩ := I.ml i p ds hi
  refine ⟨p, xs, rfl, .inl (.inl (.inl hp)), k _ (.d (.int ds.length)) H (.refl H) ?_ q⟩
  rw [← r.length]
  exact .int _
theorem vx_gcd {a b : Int} (q : post (.d (.int ((Nat.gcd a.natAbs b.natAbs : Nat) : Int))) δ) : VX K rGcd [.d (.int a), .d (.int b)] δ post := fun m H σ vs I h Q k => by
  obtain ⟨v, u, rfl, h1, h2⟩ := vw2 h
  cases dd_int h1
  cases dd_int h2
  exact ⟨a, b, rfl, k _ (.d (.int _)) H (.refl H) (.int _) q⟩
abbrev rAbs : List V → Hp → VK → Prop := fun xs H Q => ∃ i, xs = [.int i] ∧ Q (.int (if i < 0 then -i else i)) H
theorem vx_abs {a : Int} (q : post (.d (.int (if a < 0 then -a else a))) δ) : VX K rAbs [.d (.int a)] δ post := fun m H σ vs I h Q k => by
  obtain ⟨v, rfl, h1⟩ := vw1 h
  cases dd_int h1
  exact ⟨a, rfl, k _ (.d (.int _)) H (.refl H) (.int _) q⟩
abbrev rInt1 : List V → Hp → VK → Prop := fun xs H Q => (∃ i, xs = [.int i] ∧ Q (.int i) H) ∨ ∃ k, xs = [.bl k] ∧ Q (.int (if k then 1 else 0)) H
theorem vx_intI {a : Int} (q : post (.d (.int a)) δ) : VX K rInt1 [.d (.int a)] δ post := fun m H σ vs I h Q k => by
  obtain ⟨v, rfl, h1⟩ := vw1 h
  cases dd_int h1
  exact .inl ⟨a, rfl, k _ (.d (.int _)) H (.refl H) (.int _) q⟩
theorem vx_intB {a : Bool} (q : post (.d (.int (if a then 1 else 0))) δ) : VX K rInt1 [.d (.bool a)] δ post := fun m H σ vs I h Q k => by
  obtain ⟨v, rfl, h1⟩ := vw1 h
  cases dd_bool h1
  exact .inr ⟨a, rfl, k _ (.d (.int _)) H (.refl H) (.int _) q⟩

/-! ### == of data -/
theorem rx_eqD {d e : PyData} (h1 : SeqAt.shaped d = true) (h2 : SeqAt.shaped e = true) (q : post (.d (.bool (PyData.eqv d e))) δ) : RX K (rEqD K) (.d d) (.d e) δ post := fun m H σ v1 v2 I o1 o2 Q k =>
  ⟨d, e, dp_of (Dd.mono hide_same o1) (SeqAt.canLay_of_shaped h1), dp_of (Dd.mono hide_same o2) (SeqAt.canLay_of_shaped h2), h1, h2, k _ (.d (.bool _)) H (.refl H) (.bl _) q⟩
theorem rx_neD {d e : PyData} (h1 : SeqAt.shaped d = true) (h2 : SeqAt.shaped e = true) (q : post (.d (.bool (!PyData.eqv d e))) δ) : RX K (rNeD K) (.d d) (.d e) δ post := fun m H σ v1 v2 I o1 o2 Q k =>
  ⟨d, e, dp_of (Dd.mono hide_same o1) (SeqAt.canLay_of_shaped h1), dp_of (Dd.mono hide_same o2) (SeqAt.canLay_of_shaped h2), h1, h2, k _ (.d (.bool _)) H (.refl H) (.bl _) q⟩

/-! ### truth -/
def truD : PyData → Option Bool
  | .none => some false
  | .bool b => some b
  | .int i => some (i != 0)
  | .str x => if x.length ≤ 100000 then some ((x.length : Int) != 0) else none
  | .list xs => some (!xs.isEmpty)
  | .tuple xs => some (!xs.isEmpty)
  | .dict _ => none
theorem truV_of {v : V} {d : PyData} {b : Bool} (h : Dd K H v d) (e : truD d = some b) : TruV K v H b := by
  cases h with
  | non => cases e; rfl
  | bl x => cases e; rfl
  | int i => cases e; rfl
  | str x =>
    simp only [truD] at e
    split at e
    · cases e
      exact ⟨Nat.le_trans ‹_› (by decide), rfl⟩
    · cases e
  | @lst a xs ds h r =>
    cases e
    refine .inl ⟨xs, h, ?_⟩
    cases r <;> rfl
  | @tup a xs ds h r =>
    cases e
    refine .inr (.inl ⟨xs, h, ?_⟩)
    cases r <;> rfl
  | dK h r => cases e
  | dT h r => cases e
theorem ex_orT {b : Bool} (h : EX K W ta δ (fun w δ' => ∃ d b, w = .d d ∧ truD d = some b ∧ (b = true → post (.d d) δ') ∧ (b = false → EX K W tb δ' post ex)) ex) : EX K W (tOrT K ta tb) δ post ex :=
  fun m H σ I Q k k2 => h m H σ I _ (fun v w H' δ' g s J o ⟨d, b, e, tr, q1, q2⟩ => by
    subst e
    refine ⟨b, truV_of (Dd.mono hide_same o) tr, ?_⟩
    cases b with
    | true => exact iteT (k v (.d d) H' δ' g s J o (q1 rfl))
    | false => exact iteF (q2 rfl m H' σ J Q (fun v w H2 δ2 g2 s2 J2 o2 q => k v w H2 δ2 (g.trans g2) (s.trans s2) J2 o2 q) (fun C H2 δ2 g2 J2 e => k2 C H2 δ2 (g.trans g2) J2 e))) k2
theorem ex_andT {b : Bool} (h : EX K W ta δ (fun w δ' => ∃ d b, w = .d d ∧ truD d = some b ∧ (b = false → post (.d d) δ') ∧ (b = true → EX K W tb δ' post ex)) ex) : EX K W (tAndT K ta tb) δ post ex :=
  fun m H σ I Q k k2 => h m H σ I _ (fun v w H' δ' g s J o ⟨d, b, e, tr, q1, q2⟩ => by
    subst e
    refine ⟨b, truV_of (Dd.mono hide_same o) tr, ?_⟩
    cases b with
    | false => exact iteF (k v (.d d) H' δ' g s J o (q1 rfl))
    | true => exact iteT (q2 rfl m H' σ J Q (fun v w H2 δ2 g2 s2 J2 o2 q => k v w H2 δ2 (g.trans g2) (s.trans s2) J2 o2 q) (fun C H2 δ2 g2 J2 e => k2 C H2 δ2 (g.trans g2) J2 e))) k2
def tTru (K : PySem.W.Frag) (ta : TE) : TT := fun σ H Q => ta σ H fun x H' => ∃ k, TruV K x H' k ∧ Q k H'
theorem tx_tru {p : Bool → Sto → Prop} (h : EX K W ta δ (fun w δ' => ∃ d b, w = .d d ∧ truD d = some b ∧ p b δ') ex) : TX K W (tTru K ta) δ p ex :=
  fun m H σ I Q k k2 => h m H σ I _ (fun v w H' δ' g s J o ⟨d, b, e, tr, q⟩ => by
    subst e
    exact ⟨b, truV_of (Dd.mono hide_same o) tr, k b H' δ' g s J q⟩) k2

/-! ### raise, try -/
def tRaise3 (W : WX) (C : Value) : TS := fun _ σ H => (fun (_ : L2.St) (H : Hp) (Q : XK) => Q C none H) σ H fun cls d H' => W cls d σ H'
theorem sx_raise {C : Value} (q : R.ex C δ) : SX K W (fun D σ H => (fun (_ : L2.St) (H : Hp) (Q : XK) => Q C none H) σ H fun cls d H' => W cls d σ H') δ R :=
  fun m H σ I D _ _ _ _ k5 => k5 C σ H δ .refl I q
theorem sx_try {c : Value} {tb : WX → TS} {ts : Addr → Value → Option Addr → TS}
    (h : ∀ W', SX K W' (tb W') δ (R.catch fun C δ' => ∃ b, PySem.W.exmOne K C c = some b ∧ (b = true → ∀ a, SX K W (ts a C none) δ' R) ∧ (b = false → R.ex C δ'))) :
    SX K W (fun D σ H => tb (wOnly K c ts W D) D σ H) δ R := fun m H σ I D k1 k2 k3 k4 k5 =>
  h (wOnly K c ts W D) m H σ I D k1 k2 k3 k4 fun C σ' H' δ' g J ⟨b, e, q1, q2⟩ => ⟨b, e, fun hb a ha => q1 hb a m H' σ' J D (fun σ2 H2 δ2 g2 J2 q => k1 σ2 H2 δ2 (g.trans g2) J2 q) (fun v w σ2 H2 δ2 g2 J2 o q => k2 v w σ2 H2 δ2 (g.trans g2) J2 o q)
      (fun σ2 H2 δ2 g2 J2 q => k3 σ2 H2 δ2 (g.trans g2) J2 q) (fun σ2 H2 δ2 g2 J2 q => k4 σ2 H2 δ2 (g.trans g2) J2 q) (fun C σ2 H2 δ2 g2 J2 q => k5 C σ2 H2 δ2 (g.trans g2) J2 q),
    fun hb => k5 C σ' H' δ' g J (q2 hb)⟩
end
end M3
namespace M3
open PySem PySem.Spec PyProof.Rows L2
theorem pt_tru {X : Cx} {a : Expr} {ta : TE} (ha : PE X a ta) (he : ∀ whole, isTrue a X.env whole = (do let v ← whole; standAt a.pos; holding [v] (truthy v))) : PT X a (tTru X.K ta) := pt_truth ha he
end M3
namespace M3
open PySem PySem.Spec PyProof.Rows L2

/-! ### list + list of any lists that can be read -/
def rCatL (K : PySem.W.Frag) : R2 := fun x y H Q => ∃ l b xs zs, x = .ref l ∧ y = .ref b ∧ SqL K H l xs ∧ SqL K H b zs ∧ xs.length + zs.length ≤ sizeLine ∧ ∀ p, H p = none → Q (.ref p) (upd H p (.lst (xs ++ zs)))
theorem op_catL {X : Cx} : OpR X (binaryOp .Add) (rCatL X.K) := by
  intro pins s σ H x y v u Q I rx ry h
  obtain ⟨l, b, xs, zs, rfl, rfl, hH, hB, hz, q⟩ := h
  cases rx
  cases ry
  obtain ⟨its, r, ⟨⟨cls, dd, data, sl⟩, n, ho, hc, _, hd⟩, z⟩ := I.list hH
  obtain ⟨its2, r2, ⟨⟨cls2, dd2, data2, sl2⟩, n2, ho2, hc2, _, hd2⟩, z2⟩ := I.list hB
  simp only at hc hd hc2 hd2
  subst hc hd hc2 hd2
  have ln := r.length
  have ln2 := r2.length
  refine concat_meets ⟨_, ho, rfl⟩ ⟨_, ho2, rfl⟩ noFill_list_add seq_list_add PySem.F.slot_list_add PySem.F.entry_list_add (PySem.F.args_list_add_2 _ _) (list_addW l b its.toArray its2.toArray n n2 dd dd2 sl sl2 (by rw [List.size_toArray, List.size_toArray]; omega)) ⟨ho, ho2, ?_⟩
  rw [show its.toArray ++ its2.toArray = (its ++ its2).toArray by simp]
  exact ⟨.ref _, _, I.lnew (t' := s.toks) (r.append r2) (by rw [List.length_append]; omega), rfl, q _ I.fresh⟩

section
variable {K : PySem.W.Frag} {W : WX} {δ : Sto} {ex : XP} {post : Vw → Sto → Prop} {ta tb tc te : TE} {tt tu : TT} {R : Ends3} {t u : TS} {H : Hp}

/-- an if without else whose test is known and changes nothing -/
theorem sx_guard (c : Bool) (h : TX K W tt δ (fun b δ' => b = c ∧ δ' = δ) R.ex) (h1 : c = true → SX K W t δ (R.nxt fun δ' => SX K W u δ' R)) (h2 : c = false → SX K W u δ R) : SX K W (tSeq (tIfS tt t tNext) u) δ R :=
  sx_seq (sx_if (h.imp (fun b δ' ⟨e1, e2⟩ => by
    subst e1 e2
    exact ⟨h1, fun hb => sx_next (h2 hb)⟩) fun _ _ e => e))
/-- an if with else whose test is known and changes nothing -/
theorem sx_fork (c : Bool) (h : TX K W tt δ (fun b δ' => b = c ∧ δ' = δ) R.ex) (h1 : c = true → SX K W t δ R) (h2 : c = false → SX K W u δ R) : SX K W (tIfS tt t u) δ R :=
  sx_if (h.imp (fun b δ' ⟨e1, e2⟩ => by
    subst e1 e2
    exact ⟨h1, h2⟩) fun _ _ e => e)
/-! ### fresh lists from operations -/
/-- r makes a fresh list of ds -/
def RF (K : PySem.W.Frag) (r : R2) (w1 w2 : Vw) (δ : Sto) (ds : List PyData) : Prop :=
  ∀ (m : Addr → Prop) (H : Hp) (σ : L2.St) (v1 v2 : V), Env3 K m H σ δ → VwOk K m H δ v1 w1 → VwOk K m H δ v2 w2 → ∀ Q : VK,
    (∀ p xs, H p = none → Da K (hide (hid m δ) H) xs ds → Q (.ref p) (upd H p (.lst xs))) → r v1 v2 H Q
theorem fx_made {m : Addr → Prop} {σ : L2.St} {p : Addr} {xs : List V} {ds : List PyData} {Q : VK} (I : Env3 K m H σ δ) (hp : H p = none) (r : Da K (hide (hid m δ) H) xs ds)
    (k : ∀ p xs ds H' δ', Gw m δ H δ' (erase p H') → Stay δ δ' → Env3 K m (erase p H') σ δ' → H' p = some (.lst xs) → Da K (hide (hid m δ') (erase p H')) xs ds → Q (.ref p) H') : Q (.ref p) (upd H p (.lst xs)) := by
  have ee := erase_upd (o := .lst xs) hp
  exact k p xs ds _ δ (by rw [ee]; exact .refl) (.refl δ) (by rw [ee]; exact I) upd_same (by rw [ee]; exact r)
theorem fx_op {r : R2} {p : List PyData → Sto → Prop} (h : EX K W ta δ (fun w1 δ1 => EX K W tb δ1 (fun w2 δ2 => ∃ ds, RF K r w1 w2 δ2 ds ∧ p ds δ2) ex) ex) : FX K W (tOp r ta tb) δ p ex :=
  fun m H σ I Q k k2 => h m H σ I _ (fun v1 w1 H1 δ1 g1 s1 I1 o1 hb => hb m H1 σ I1 _ (fun v2 w2 H2 δ2 g2 s2 I2 o2 ⟨ds, hr, q⟩ =>
    hr m H2 σ v1 v2 I2 (o1.go g2 s2) o2 Q fun p xs hp rr => by
      have ee := erase_upd (o := .lst xs) hp
      exact k p xs ds _ δ2 (by rw [ee]; exact g1.trans g2) (s1.trans s2) (by rw [ee]; exact I2) upd_same (by rw [ee]; exact rr) q)
    (fun C H' δ' g J e => k2 C H' δ' (g1.trans g) J e)) k2
theorem rf_cat {ds es : List PyData} (hl : ds.length + es.length ≤ 1000000) : RF K (rCatL K) (.d (.list ds)) (.d (.list es)) δ (ds ++ es) := fun m H σ v1 v2 I o1 o2 Q k => by
  obtain ⟨a, xs, rfl, h1, r1⟩ := dd_lst o1
  obtain ⟨b, ys, rfl, h2, r2⟩ := dd_lst o2
  refine ⟨a, b, xs, ys, rfl, rfl, Same.seq hide_same h1, Same.seq hide_same h2, ?_, fun p hp => k p _ hp (r1.append r2)⟩
  rw [r1.length, r2.length]
  exact Nat.le_trans hl (by decide)
/-! ### slices -/
def OX (K : PySem.W.Frag) (W : WX) (to : TO) (δ : Sto) (post : Option Int → Sto → Prop) (ex : XP) : Prop :=
  ∀ (m : Addr → Prop) (H : Hp) (σ : L2.St), Env3 K m H σ δ → ∀ Q : Option Int → Hp → Prop,
    (∀ v H' δ', Gw m δ H δ' H' → Stay δ δ' → Env3 K m H' σ δ' → post v δ' → Q v H') →
    (∀ C H' δ', Gw m δ H δ' H' → Env3 K m H' σ δ' → ex C δ' → W C none σ H') → to σ H Q
theorem ox_none {p : Option Int → Sto → Prop} (q : p none δ) : OX K W tNoPart δ p ex := fun m H σ I Q k _ => k none H δ .refl (.refl δ) I q
theorem ox_some {p : Option Int → Sto → Prop} (h : EX K W te δ (fun w δ' => ∃ i, w = .d (.int i) ∧ p (some i) δ') ex) : OX K W (tPart te) δ p ex :=
  fun m H σ I Q k k2 => h m H σ I _ (fun v w H' δ' g s J o ⟨i, e, q⟩ => by
    subst e
    exact ⟨i, dd_int o, k (some i) H' δ' g s J q⟩) k2
def cutD (xs : List PyData) (lo hi : Option Int) : List PyData := (xs.drop (HT.sIx xs.length 0 lo)).take (HT.sIx xs.length xs.length hi - HT.sIx xs.length 0 lo)
theorem da_drop : ∀ {vs : List V} {ds : List PyData} (n : Nat), Da K H vs ds → Da K H (vs.drop n) (ds.drop n)
  | _, _, 0, r => r
  | _, _, n + 1, .nil => .nil
  | _, _, n + 1, .cons _ r => da_drop n r
theorem da_take : ∀ {vs : List V} {ds : List PyData} (n : Nat), Da K H vs ds → Da K H (vs.take n) (ds.take n)
  | _, _, 0, r => .nil
  | _, _, n + 1, .nil => .nil
  | _, _, n + 1, .cons h r => .cons h (da_take n r)
theorem da_cut {vs : List V} {ds : List PyData} {lo hi : Option Int} (r : Da K H vs ds) : Da K H (cutV vs lo hi) (cutD ds lo hi) := by
  unfold cutV cutD
  rw [r.length]
  exact da_take _ (da_drop _ r)
theorem fx_slL {tl th : TO} {p : List PyData → Sto → Prop} (h : EX K W te δ (fun w δ1 => OX K W tl δ1 (fun lo δ2 => OX K W th δ2 (fun hi δ3 => ∃ ds, w = .d (.list ds) ∧ p (cutD ds lo hi) δ3) ex) ex) ex) : FX K W (tSl (rSlL K) te tl th) δ p ex :=
  fun m H σ I Q k k2 => h m H σ I _ (fun v1 w1 H1 δ1 g1 s1 I1 o1 hb => hb m H1 σ I1 _ (fun lo H2 δ2 g2 s2 I2 hc => hc m H2 σ I2 _ (fun hi H3 δ3 g3 s3 I3 ⟨ds, e, q⟩ => by
      subst e
      obtain ⟨a, xs, rfl, h1, r1⟩ := dd_lst (show Dd K _ v1 (.list ds) from ((o1.go g2 s2).go g3 s3))
      refine ⟨a, xs, rfl, Same.seq hide_same h1, fun p hp => ?_⟩
      have ee := erase_upd (o := .lst (cutV xs lo hi)) hp
      exact k p _ _ _ δ3 (by rw [ee]; exact (g1.trans g2).trans g3) ((s1.trans s2).trans s3) (by rw [ee]; exact I3) upd_same (by rw [ee]; exact da_cut r1) q)
    (fun C H' δ' g J e => k2 C H' δ' ((g1.trans g2).trans g) J e))
    (fun C H' δ' g J e => k2 C H' δ' (g1.trans g) J e)) k2

/-! ### a list of one's own grows, shrinks -/
abbrev tyL (K : PySem.W.Frag) (r : V → List V → Hp → VK → Prop) (ta : TE) (t : TA) : TE := tBM K "list" r ta t
theorem ex_append {i : Nat} (h : EX K W te δ (fun w δ' => ∃ d p ds, w = .d d ∧ δ'[i]? = some (.ml p ds) ∧ ds.length < 1000000 ∧ post (.d .none) (δ'.set i (.ml p (ds ++ [d])))) ex) (hi : ∃ p ds, δ[i]? = some (.ml p ds)) :
    EX K W (tBM K "list" rAppend (tVar i) (tCons te tNil)) δ post ex := fun m H σ I Q k k2 => by
  obtain ⟨p0, ds0, h0⟩ := hi
  obtain ⟨hσ, _, xs0, hx0, _⟩ := I.ml i p0 ds0 h0
  refine ⟨.ref p0, hσ, .inl ⟨rfl, xs0, .inl (.inl hx0)⟩, ?_⟩
  refine h m H σ I _ (fun v w H1 δ1 g1 s1 I1 o1 ⟨d, p, ds, e, h1, hl, q⟩ => ?_) k2
  subst e
  obtain ⟨es, h2⟩ := s1 i p0 ds0 h0
  rw [h1] at h2
  cases h2
  obtain ⟨_, np, xs, hp, r⟩ := I1.ml i p0 ds h1
  refine ⟨p0, xs, v, rfl, rfl, hp, by rw [r.length]; exact Nat.lt_of_lt_of_le hl (by decide), ?_⟩
  have sme : Same (erase p0 H1) (erase p0 (upd H1 p0 (.lst (xs ++ [v])))) := fun a o z => by
    have ne : a ≠ p0 := fun q => by rw [q, erase_at] at z; cases z
    rw [erase_ne ne] at z ⊢
    rw [upd_ne ne]
    exact z
  have r2 : Da K (hide (hid m δ1) (erase p0 (upd H1 p0 (.lst (xs ++ [v]))))) (xs ++ [v]) (ds ++ [d]) := by
    rw [hide_erase h1]
    have e2 : hide (hid m δ1) (upd H1 p0 (.lst (xs ++ [v]))) = hide (hid m δ1) H1 := by
      rw [← hide_erase h1, ← hide_erase (H := H1) h1]
      congr 1
      funext a
      by_cases c : a = p0
      · rw [c, erase_at, erase_at]
      · rw [erase_ne c, erase_ne c, upd_ne c]
    rw [e2]
    exact r.append (.cons o1 .nil)
  have kp : ∀ a, m a → upd H1 p0 (.lst (xs ++ [v])) a = H1 a := fun a ha => upd_ne fun z => np (z ▸ ha)
  exact k .non (.d .none) _ _ (g1.trans (.chg I1 h1 sme kp)) (s1.trans (.chg h1)) (I1.chg h1 sme upd_same r2) .non q
theorem ex_pop {i : Nat} {p : Addr} {ds : List PyData} {d : PyData} (hi : δ[i]? = some (.ml p (ds ++ [d]))) (q : post (.d d) (δ.set i (.ml p ds))) : EX K W (tBM0 K "list" rPop (tVar i)) δ post ex := fun m H σ I Q k k2 => by
  obtain ⟨hσ, np, xs, hx, r⟩ := I.ml i p _ hi
  refine ⟨.ref p, hσ, .inl ⟨rfl, xs, .inl (.inl hx)⟩, ?_⟩
  obtain ⟨ys, v, e, r1, r2⟩ : ∃ ys v, xs = ys ++ [v] ∧ Da K (hide (hid m δ) H) ys ds ∧ Dd K (hide (hid m δ) H) v d := by
    clear hi hx q
    induction ds generalizing xs with
    | nil =>
      cases r with
      | cons h r => cases r; exact ⟨[], _, rfl, .nil, h⟩
    | cons e es ih =>
      cases r with
      | cons h r =>
        obtain ⟨ys, v, e1, r1, r2⟩ := ih _ r
        exact ⟨_ :: ys, v, by rw [e1]; rfl, .cons h r1, r2⟩
  subst e
  refine ⟨p, ys ++ [v], v, rfl, rfl, hx, by simp, ?_⟩
  rw [List.dropLast_concat]
  have sme : Same (erase p H) (erase p (upd H p (.lst ys))) := fun a o z => by
    have ne : a ≠ p := fun q => by rw [q, erase_at] at z; cases z
    rw [erase_ne ne] at z ⊢
    rw [upd_ne ne]
    exact z
  have e2 : hide (hid m δ) (erase p (upd H p (.lst ys))) = hide (hid m δ) H := by
    rw [← hide_erase (H := H) hi]
    congr 1
    funext a
    by_cases c : a = p
    · rw [c, erase_at, erase_at]
    · rw [erase_ne c, erase_ne c, upd_ne c]
  have g2 : Gw m δ H (δ.set i (.ml p ds)) (upd H p (.lst ys)) := .chg I hi sme fun a ha => upd_ne fun z => np (z ▸ ha)
  refine k v (.d d) _ _ g2 (.chg hi) (I.chg hi sme upd_same (by rw [e2]; exact r1)) ?_ q
  exact Dd.mono g2.same r2

/-! ### loops -/
/-- a target that takes data: what the store is then -/
def TgOk (K : PySem.W.Frag) (g : TG) (ok : PyData → Prop) (f : Sto → PyData → Sto) : Prop :=
  ∀ (m : Addr → Prop) (H : Hp) (σ : L2.St) (δ : Sto) (v : V) (d : PyData), Env3 K m H σ δ → Dd K (hide (hid m δ) H) v d → ok d → ∀ D : L2.St → Hp → Prop, (∀ σ', Gw m δ H (f δ d) H → Env3 K m H σ' (f δ d) → D σ' H) → g v σ H D
theorem tg_name {i : Nat} : TgOk K (gName i) (fun _ => True) (fun δ d => δ.set i (.dat d)) := fun m H σ δ v d I h _ D k => k _ .set_dat (I.set_dat h)
def tupItems : PyData → List PyData
  | .tuple ds => ds
  | _ => []
theorem tg_names {n : Nat} {is : List Nat} (hn : is.length = n) : TgOk K (gTup K n (gNames is)) (fun d => ∃ ds, d = .tuple ds ∧ ds.length = n) (fun δ d => setAll δ is (tupItems d)) := fun m H σ δ v d I h ⟨ds, e, hl⟩ D k => by
  subst e
  obtain ⟨a, xs, rfl, hs, r⟩ := dd_tup h
  exact ⟨a, xs, rfl, Same.tup hide_same hs, by rw [r.length, hl], names_go is ds xs m H σ δ I r (by rw [hl, hn]) fun σ' g J => k σ' g J⟩
section
variable {g : TG} {ok : PyData → Prop} {f : Sto → PyData → Sto} {tl : TE} {ds : List PyData}
theorem turn_go {m : Addr → Prop} {H H1 H' : Hp} {σ' : L2.St} {δ δ1 δ' : Sto} {x : V} {d : PyData} {D : Ends} {N : Sto → Prop} {Pn : L2.St → Hp → Prop} (tg : TgOk K g ok f) (g1 : Gw m δ H δ1 H1) (g2 : Gw m δ1 H1 δ' H') (J : Env3 K m H' σ' δ') (hd : Dd K (hide (hid m δ') H') x d) (hok : ok d)
    (hb : SX K W t (f δ' d) (R.loop N)) (hP : ∀ σ2 H2 δ2, Gw m δ1 H1 δ2 H2 → Env3 K m H2 σ2 δ2 → N δ2 → Pn σ2 H2)
    (k1 : ∀ σ' H' δ', Gw m δ H δ' H' → Env3 K m H' σ' δ' → R.nx δ' → D.nx σ' H') (k2 : ∀ v w σ' H' δ', Gw m δ H δ' H' → Env3 K m H' σ' δ' → VwOk K m H' δ' v w → R.rt w δ' → D.rt v H')
    (k5 : ∀ C σ' H' δ', Gw m δ H δ' H' → Env3 K m H' σ' δ' → R.ex C δ' → W C none σ' H') : g x σ' H' fun σ2 H2 => t { D with nx := Pn, ct := Pn, bk := D.nx } σ2 H2 :=
  tg m H' σ' δ' x d J hd hok _ fun σ2 g3 J2 => hb m H' σ2 J2 { D with nx := Pn, ct := Pn, bk := D.nx } (fun σ3 H3 δ3 g4 J3 q => hP σ3 H3 δ3 ((g2.trans g3).trans g4) J3 q)
    (fun v w σ3 H3 δ3 g4 J3 o q => k2 v w σ3 H3 δ3 (((g1.trans g2).trans g3).trans g4) J3 o q) (fun σ3 H3 δ3 g4 J3 q => k1 σ3 H3 δ3 (((g1.trans g2).trans g3).trans g4) J3 q)
    (fun σ3 H3 δ3 g4 J3 q => hP σ3 H3 δ3 ((g2.trans g3).trans g4) J3 q) (fun C σ3 H3 δ3 g4 J3 q => k5 C σ3 H3 δ3 (((g1.trans g2).trans g3).trans g4) J3 q)
/-- what a for over the items ds asks -/
def ForI (K : PySem.W.Frag) (W : WX) (t : TS) (R : Ends3) (ok : PyData → Prop) (f : Sto → PyData → Sto) (ds : List PyData) (Inv : Nat → Sto → Prop) : Prop :=
  (∀ k d δ', ds[k]? = some d → Inv k δ' → ok d ∧ SX K W t (f δ' d) (R.loop (Inv (k + 1)))) ∧ ∀ δ', Inv ds.length δ' → R.nx δ'
theorem sx_forL (tg : TgOk K g ok f) (Inv : List PyData → Nat → Sto → Prop) (h : EX K W tl δ (fun w δ1 => ∃ ds, w = .d (.list ds) ∧ Inv ds 0 δ1 ∧ ForI K W t R ok f ds (Inv ds)) R.ex) : SX K W (tFor (iList K tl) g t) δ R :=
  fun m H σ I D k1 k2 k3 k4 k5 => h m H σ I _ (fun v w H1 δ1 g1 s1 I1 o1 ⟨ds, e, i0, turn, fin⟩ => by
    subst e
    obtain ⟨a, xs, rfl, hs, r⟩ := dd_lst o1
    refine ⟨a, rfl, ⟨xs, Same.seq hide_same hs⟩, for_list (K := K) (a := a) (xs := xs) (fun k σ' H' => ∃ δ', Gw m δ1 H1 δ' H' ∧ Env3 K m H' σ' δ' ∧ Inv ds k δ') ⟨δ1, .refl, I1, i0⟩ (fun k σ' H' _ ⟨δ', g2, J, _⟩ => Same.seq hide_same (Same.seq g2.same hs)) ?_ ?_⟩
    · rintro k x σ' H' hx ⟨δ', g2, J, iv⟩
      obtain ⟨d, hd, dd⟩ := r.get' hx
      obtain ⟨hok, hb⟩ := turn k d δ' hd iv
      exact turn_go tg g1 g2 J (dd.mono g2.same) hok hb (fun σ2 H2 δ2 g3 J2 q => ⟨δ2, g3, J2, q⟩) k1 k2 k5
    · rintro σ' H' ⟨δ', g2, J, iv⟩
      exact k1 σ' H' δ' (g1.trans g2) J (fin δ' (by rw [r.length] at iv; exact iv))) (fun C H' δ' g J e => k5 C σ H' δ' g J e)
theorem sx_forT (tg : TgOk K g ok f) (Inv : List PyData → Nat → Sto → Prop) (h : EX K W tl δ (fun w δ1 => ∃ ds, w = .d (.tuple ds) ∧ Inv ds 0 δ1 ∧ ForI K W t R ok f ds (Inv ds)) R.ex) : SX K W (tFor (iTup K tl) g t) δ R :=
  fun m H σ I D k1 k2 k3 k4 k5 => h m H σ I _ (fun v w H1 δ1 g1 s1 I1 o1 ⟨ds, e, i0, turn, fin⟩ => by
    subst e
    obtain ⟨a, xs, rfl, hs, r⟩ := dd_tup o1
    refine ⟨a, rfl, ⟨xs, Same.tup hide_same hs⟩, for_tup (K := K) (a := a) (xs := xs) (fun k σ' H' => ∃ δ', Gw m δ1 H1 δ' H' ∧ Env3 K m H' σ' δ' ∧ Inv ds k δ') ⟨δ1, .refl, I1, i0⟩ (fun k σ' H' _ ⟨δ', g2, J, _⟩ => Same.tup hide_same (Same.tup g2.same hs)) ?_ ?_⟩
    · rintro k x σ' H' hx ⟨δ', g2, J, iv⟩
      obtain ⟨d, hd, dd⟩ := r.get' hx
      obtain ⟨hok, hb⟩ := turn k d δ' hd iv
      exact turn_go tg g1 g2 J (dd.mono g2.same) hok hb (fun σ2 H2 δ2 g3 J2 q => ⟨δ2, g3, J2, q⟩) k1 k2 k5
    · rintro σ' H' ⟨δ', g2, J, iv⟩
      exact k1 σ' H' δ' (g1.trans g2) J (fin δ' (by rw [r.length] at iv; exact iv))) (fun C H' δ' g J e => k5 C σ H' δ' g J e)
/-- over a list of one's own that stays as it is -/
theorem sx_forM (tg : TgOk K g ok f) {j : Nat} {p : Addr} (Inv : Nat → Sto → Prop) (hj : δ[j]? = some (.ml p ds)) (i0 : Inv 0 δ) (stay : ∀ k δ', Inv k δ' → δ'[j]? = some (.ml p ds)) (hI : ForI K W t R ok f ds Inv) : SX K W (tFor (iList K (tVar j)) g t) δ R :=
  fun m H σ I D k1 k2 k3 k4 k5 => by
    obtain ⟨hσ, np, xs, hp, r⟩ := I.ml j p ds hj
    refine ⟨.ref p, hσ, p, rfl, ⟨xs, .inl (.inl hp)⟩, fun k n σ' H' => n = ds.length - k ∧ k ≤ ds.length ∧ ∃ δ', Gw m δ H δ' H' ∧ Env3 K m H' σ' δ' ∧ Inv k δ', ⟨ds.length, rfl, Nat.zero_le _, δ, .refl, I, i0⟩, ?_⟩
    rintro k n σ' H' ⟨en, hk, δ', g2, J, iv⟩
    obtain ⟨_, _, ys, hy, ry⟩ := J.ml j p ds (stay k δ' iv)
    have sy : SqL K H' p ys := .inl (.inl hy)
    have ly := ry.length
    by_cases c : k < ds.length
    · obtain ⟨x, hx, dd⟩ := ry.get (List.getElem?_eq_getElem c)
      refine .inr ⟨⟨ys, x, sy, hx⟩, fun σ2 H2 => ∃ δ2, Gw m δ H δ2 H2 ∧ Env3 K m H2 σ2 δ2 ∧ Inv (k + 1) δ2, fun σ2 H2 ⟨δ2, g3, J2, q⟩ => ⟨n - 1, by omega, by omega, c, δ2, g3, J2, q⟩, fun v H2 hv => ?_⟩
      obtain ⟨rfl, fv⟩ := hv
      have ev : v = x := Option.some.inj ((fv _ sy).symm.trans hx)
      subst ev
      obtain ⟨hok, hb⟩ := hI.1 k _ δ' (List.getElem?_eq_getElem c) iv
      exact turn_go tg .refl g2 J dd hok hb (fun σ2 H2 δ2 g3 J2 q => ⟨δ2, g3, J2, q⟩) k1 k2 k5
    · have e : k = ds.length := by omega
      subst e
      exact .inl ⟨⟨ys, sy, by omega⟩, k1 σ' H' δ' g2 J (hI.2 δ' iv)⟩
def rangeD (lo : Int) (n : Nat) : List PyData := (List.range n).map fun (i : Nat) => .int (lo + (i : Int))
theorem rangeD_get {lo : Int} {n i : Nat} (h : i < n) : (rangeD lo n)[i]? = some (.int (lo + (i : Int))) := by
  unfold rangeD
  rw [List.getElem?_map, List.getElem?_range h]
  rfl
theorem rangeD_len {lo : Int} {n : Nat} : (rangeD lo n).length = n := by
  unfold rangeD
  rw [List.length_map, List.length_range]
theorem sx_forR1 {ta : TA} (tg : TgOk K g ok f) (Inv : Nat → Sto → Prop) (h : AX K W ta δ (fun ws δ1 => ∃ n : Int, ws = [.d (.int n)] ∧ (-1000000 ≤ n ∧ n ≤ 1000000000) ∧ Inv 0 δ1 ∧ ForI K W t R ok f (rangeD 0 n.toNat) Inv) R.ex) : SX K W (tFor (iRng1 ta) g t) δ R :=
  fun m H σ I D k1 k2 k3 k4 k5 => h m H σ I _ (fun vs w H1 δ1 g1 s1 I1 o1 ⟨n, e, hb, i0, turn, fin⟩ => by
    subst e
    obtain ⟨v, rfl, hv⟩ := vw1 o1
    cases dd_int hv
    refine ⟨n, rfl, by omega, by omega, for_range (lo := 0) (n := n.toNat) (fun k σ' H' => ∃ δ', Gw m δ1 H1 δ' H' ∧ Env3 K m H' σ' δ' ∧ Inv k δ') ⟨δ1, .refl, I1, i0⟩ ?_ ?_⟩
    · rintro k σ' H' hk ⟨δ', g2, J, iv⟩
      obtain ⟨hok, hb⟩ := turn k _ δ' (rangeD_get hk) iv
      exact turn_go tg g1 g2 J (.int _) hok hb (fun σ2 H2 δ2 g3 J2 q => ⟨δ2, g3, J2, q⟩) k1 k2 k5
    · rintro σ' H' ⟨δ', g2, J, iv⟩
      exact k1 σ' H' δ' (g1.trans g2) J (fin δ' (by rw [rangeD_len]; exact iv))) (fun C H' δ' g J e => k5 C σ H' δ' g J e)
theorem sx_forR2 {ta : TA} (tg : TgOk K g ok f) (Inv : Nat → Sto → Prop) (h : AX K W ta δ (fun ws δ1 => ∃ lo n : Int, ws = [.d (.int lo), .d (.int n)] ∧ (-1000000000 ≤ lo ∧ lo ≤ 1000000000 ∧ -1000000000 ≤ n ∧ n ≤ 1000000000) ∧ Inv 0 δ1 ∧ ForI K W t R ok f (rangeD lo (n - lo).toNat) Inv) R.ex) : SX K W (tFor (iRng2 ta) g t) δ R :=
  fun m H σ I D k1 k2 k3 k4 k5 => h m H σ I _ (fun vs w H1 δ1 g1 s1 I1 o1 ⟨lo, n, e, hb, i0, turn, fin⟩ => by
    subst e
    obtain ⟨v, u, rfl, hv, hu⟩ := vw2 o1
    cases dd_int hv
    cases dd_int hu
    refine ⟨lo, n, rfl, by omega, for_range (lo := lo) (n := (n - lo).toNat) (fun k σ' H' => ∃ δ', Gw m δ1 H1 δ' H' ∧ Env3 K m H' σ' δ' ∧ Inv k δ') ⟨δ1, .refl, I1, i0⟩ ?_ ?_⟩
    · rintro k σ' H' hk ⟨δ', g2, J, iv⟩
      obtain ⟨hok, hb⟩ := turn k _ δ' (rangeD_get hk) iv
      exact turn_go tg g1 g2 J (.int _) hok hb (fun σ2 H2 δ2 g3 J2 q => ⟨δ2, g3, J2, q⟩) k1 k2 k5
    · rintro σ' H' ⟨δ', g2, J, iv⟩
      exact k1 σ' H' δ' (g1.trans g2) J (fin δ' (by rw [rangeD_len]; exact iv))) (fun C H' δ' g J e => k5 C σ H' δ' g J e)
/-- a while: Inv with a number that falls -/
theorem sx_while (Inv : Nat → Sto → Prop) (n0 : Nat) (i0 : Inv n0 δ)
    (h : ∀ n δ', Inv n δ' → TX K W tt δ' (fun b δ1 => (b = true → SX K W t δ1 (R.loop fun δ2 => ∃ k, k < n ∧ Inv k δ2)) ∧ (b = false → R.nx δ1)) R.ex) : SX K W (tWhile tt t) δ R :=
  fun m H σ I D k1 k2 k3 k4 k5 => by
    refine ⟨fun n σ' H' => ∃ δ', Gw m δ H δ' H' ∧ Env3 K m H' σ' δ' ∧ Inv n δ', ⟨n0, δ, .refl, I, i0⟩, ?_⟩
    rintro n σ' H' ⟨δ', g1, J, iv⟩
    refine h n δ' iv m H' σ' J _ (fun b H1 δ1 g2 s2 J1 ⟨q1, q2⟩ => ?_) (fun C H1 δ1 g2 J1 e => k5 C σ' H1 δ1 (g1.trans g2) J1 e)
    cases b with
    | false => exact iteF (k1 σ' H1 δ1 (g1.trans g2) J1 (q2 rfl))
    | true =>
      refine iteT ⟨fun σ2 H2 => ∃ k, k < n ∧ ∃ δ2, Gw m δ H δ2 H2 ∧ Env3 K m H2 σ2 δ2 ∧ Inv k δ2, fun σ2 H2 z => z, ?_⟩
      exact q1 rfl m H1 σ' J1 _ (fun σ3 H3 δ3 g4 J3 ⟨k, hk, q⟩ => ⟨k, hk, δ3, (g1.trans g2).trans g4, J3, q⟩) (fun v w σ3 H3 δ3 g4 J3 o q => k2 v w σ3 H3 δ3 ((g1.trans g2).trans g4) J3 o q)
        (fun σ3 H3 δ3 g4 J3 q => k1 σ3 H3 δ3 ((g1.trans g2).trans g4) J3 q) (fun σ3 H3 δ3 g4 J3 ⟨k, hk, q⟩ => ⟨k, hk, δ3, (g1.trans g2).trans g4, J3, q⟩) (fun C σ3 H3 δ3 g4 J3 q => k5 C σ3 H3 δ3 ((g1.trans g2).trans g4) J3 q)
end
end
end M3
namespace M3
open PySem PySem.Spec PyProof.Rows L2

/-! ### comprehensions -/
abbrev WF : WX := fun _ _ _ _ => False
abbrev XF : XP := fun _ _ => False
def wipeD (δ : Sto) : List Nat → Sto
  | [] => δ
  | v :: vs => (wipeD δ vs).set v .no
theorem wipe_set {α : Type} {l : List α} {i j : Nat} {x y : α} : i ≠ j → (l.set i x).set j y = (l.set j y).set i x := fun h => List.set_comm x y h
theorem wipe_in (σ : L2.St) (i : Nat) (x : Option V) : ∀ vs : List Nat, i ∈ vs → wipe (σ.set i x) vs = wipe σ vs
  | v :: vs, h => by
    show (wipe (σ.set i x) vs).set v none = (wipe σ vs).set v none
    by_cases c : i ∈ vs
    · rw [wipe_in σ i x vs c]
    · have e : i = v := by
        rcases List.mem_cons.mp h with e | e
        · exact e
        · exact absurd e c
      subst e
      have out : ∀ (ws : List Nat) (τ : L2.St), i ∉ ws → wipe (τ.set i x) ws = (wipe τ ws).set i x := by
        intro ws
        induction ws with
        | nil => intro τ _; rfl
        | cons u us ih =>
          intro τ hn
          have h1 : i ≠ u := fun z => hn (by rw [z]; exact List.mem_cons_self)
          have h2 : i ∉ us := fun z => hn (List.mem_cons_of_mem _ z)
          show (wipe (τ.set i x) us).set u none = ((wipe τ us).set u none).set i x
          rw [ih τ h2, List.set_comm _ _ h1]
      rw [out vs σ c, List.set_set]
section
variable {K : PySem.W.Frag} {W : WX} {δ : Sto} {ex : XP} {tt : TT} {te tl : TE} {g : TG} {ok : PyData → Prop} {f : Sto → PyData → Sto} {vs : List Nat} {H : Hp}
theorem Env3.wiped {m : Addr → Prop} {σ : L2.St} (I : Env3 K m H σ δ) : ∀ vs : List Nat, Env3 K m H (wipe σ vs) (wipeD δ vs)
  | [] => I
  | v :: vs => (I.wiped vs).drop none
theorem wipeD_some {i : Nat} {s : Sl} : ∀ {vs : List Nat}, (wipeD δ vs)[i]? = some s → s ≠ .no → δ[i]? = some s ∧ i ∉ vs
  | [], h, _ => ⟨h, by simp⟩
  | v :: vs, h, hs => by
    have h : ((wipeD δ vs).set v .no)[i]? = some s := h
    rcases set_get h with ⟨_, e, _⟩ | ⟨ne, h⟩
    · exact absurd e.symm hs
    · obtain ⟨h1, h2⟩ := wipeD_some h hs
      exact ⟨h1, by
        rw [List.mem_cons]
        rintro (z | z)
        · exact ne z.symm
        · exact h2 z⟩
theorem wipeD_out {i : Nat} : ∀ {vs : List Nat}, i ∉ vs → (wipeD δ vs)[i]? = δ[i]?
  | [], _ => rfl
  | v :: vs, h => by
    show ((wipeD δ vs).set v .no)[i]? = _
    rw [List.getElem?_set_ne (fun z => h (by rw [z]; exact List.mem_cons_self))]
    exact wipeD_out fun z => h (List.mem_cons_of_mem _ z)
theorem wipe_back {m : Addr → Prop} {σ : L2.St} {δ' : Sto} (I : Env3 K m H (wipe σ vs) δ') : Env3 K m H σ δ' where
  len := by rw [← I.len, wipe_length]
  dat := fun i d h => by
    obtain ⟨v, h1, h2⟩ := I.dat i d h
    exact ⟨v, (wipe_some h1).1, h2⟩
  ml := fun i p ds h => by
    obtain ⟨h1, h2⟩ := I.ml i p ds h
    exact ⟨(wipe_some h1).1, h2⟩
  one := I.one
  got := I.got
theorem own_wiped {a : Addr} (noml : ∀ i ∈ vs, ∀ p ds, δ[i]? ≠ some (.ml p ds)) : own (wipeD δ vs) a ↔ own δ a := by
  constructor
  · rintro ⟨i, ds, h⟩
    exact ⟨i, ds, (wipeD_some h (fun z => nomatch z)).1⟩
  · rintro ⟨i, ds, h⟩
    refine ⟨i, ds, ?_⟩
    rw [wipeD_out fun z => noml i z _ _ h]
    exact h
/-- a comprehension's target: it stores within vs -/
def TgC (K : PySem.W.Frag) (g : TG) (vs : List Nat) (ok : PyData → Prop) (f : Sto → PyData → Sto) : Prop :=
  (∀ (m : Addr → Prop) (H : Hp) (σ : L2.St) (δ : Sto) (v : V) (d : PyData), Env3 K m H σ δ → Dd K (hide (hid m δ) H) v d → ok d → ∀ D : L2.St → Hp → Prop, (∀ σ2, wipe σ2 vs = wipe σ vs → Gw m δ H (f δ d) H → Env3 K m H σ2 (f δ d) → D σ2 H) → g v σ H D) ∧
  ∀ (δ : Sto) (d : PyData), (∀ i ∈ vs, ∀ p ds, δ[i]? ≠ some (.ml p ds)) → ok d → Stay δ (f δ d) ∧ ∀ i ∈ vs, ∀ p ds, (f δ d)[i]? ≠ some (.ml p ds)
theorem stay_set {i : Nat} {d : PyData} (h : ∀ p ds, δ[i]? ≠ some (.ml p ds)) : Stay δ (δ.set i (.dat d)) := fun j p ds e => ⟨ds, by
  have ne : i ≠ j := fun z => h p ds (by rw [z]; exact e)
  rw [List.getElem?_set_ne ne]
  exact e⟩
theorem tgc_name {i : Nat} : TgC K (gName i) [i] (fun _ => True) (fun δ d => δ.set i (.dat d)) :=
  ⟨fun m H σ δ v d I h _ D k => k _ (wipe_in σ i _ [i] List.mem_cons_self) .set_dat (I.set_dat h), fun δ d h _ => ⟨stay_set (h i List.mem_cons_self), fun j hj p ds e => by
    have ej : j = i := by simpa using hj
    subst ej
    rcases set_get e with ⟨_, z, _⟩ | ⟨ne, _⟩
    · cases z
    · exact ne rfl⟩⟩
theorem names_goC {D : L2.St → Hp → Prop} : ∀ (is : List Nat) (ds : List PyData) (xs : List V) (m : Addr → Prop) (H : Hp) (σ : L2.St) (δ : Sto), (∀ i ∈ is, i ∈ vs) → Env3 K m H σ δ → Da K (hide (hid m δ) H) xs ds → ds.length = is.length →
    (∀ σ', wipe σ' vs = wipe σ vs → Gw m δ H (setAll δ is ds) H → Env3 K m H σ' (setAll δ is ds) → D σ' H) → gNames is xs σ H D
  | [], [], xs, m, H, σ, δ, hv, I, r, hl, k => by
    cases r
    exact ⟨rfl, k σ rfl .refl I⟩
  | i :: is, d :: ds, xs, m, H, σ, δ, hv, I, r, hl, k => by
    cases r with
    | cons h r =>
      refine ⟨_, _, rfl, ?_⟩
      exact names_goC is ds _ m H _ _ (fun j hj => hv j (List.mem_cons_of_mem _ hj)) (I.set_dat h) (r.mono (hide_set (s := .dat d) (fun _ _ z => nomatch z))) (Nat.succ.inj hl) fun σ' e g J => k σ' (e.trans (wipe_in σ i _ vs (hv i List.mem_cons_self))) (Gw.set_dat.trans g) J
  | [], d :: ds, xs, m, H, σ, δ, hv, I, r, hl, k => by cases hl
  | i :: is, [], xs, m, H, σ, δ, hv, I, r, hl, k => by cases hl
theorem setAll_ml : ∀ (is : List Nat) (ds : List PyData) (δ : Sto) (j : Nat) (p : Addr) (es : List PyData), (setAll δ is ds)[j]? = some (.ml p es) → δ[j]? = some (.ml p es)
  | [], ds, δ, j, p, es, h => by cases ds <;> exact h
  | i :: is, [], δ, j, p, es, h => h
  | i :: is, d :: ds, δ, j, p, es, h => by
    have h2 := setAll_ml is ds (δ.set i (.dat d)) j p es h
    rcases set_get h2 with ⟨_, z, _⟩ | ⟨_, z⟩
    · cases z
    · exact z
theorem setAll_out : ∀ (is : List Nat) (ds : List PyData) (δ : Sto) (j : Nat), j ∉ is → (setAll δ is ds)[j]? = δ[j]?
  | [], ds, δ, j, h => by cases ds <;> rfl
  | i :: is, [], δ, j, h => rfl
  | i :: is, d :: ds, δ, j, h => by
    show (setAll (δ.set i (.dat d)) is ds)[j]? = δ[j]?
    rw [setAll_out is ds _ j (fun z => h (List.mem_cons_of_mem _ z)), List.getElem?_set_ne (fun z => h (by rw [z]; exact List.mem_cons_self))]
theorem tgc_names {n : Nat} {is : List Nat} (hn : is.length = n) : TgC K (gTup K n (gNames is)) is (fun d => ∃ ds, d = .tuple ds ∧ ds.length = n) (fun δ d => setAll δ is (tupItems d)) :=
  ⟨fun m H σ δ v d I h ⟨ds, e, hl⟩ D k => by
    subst e
    obtain ⟨a, xs, rfl, hs, r⟩ := dd_tup h
    exact ⟨a, xs, rfl, Same.tup hide_same hs, by rw [r.length, hl], names_goC is ds xs m H σ δ (fun _ z => z) I r (by rw [hl, hn]) k⟩,
   fun δ d h _ => ⟨fun j p ds e => ⟨ds, by
      rw [setAll_out]
      · exact e
      · exact fun z => h j z p ds e⟩, fun i hi p ds e => h i hi p ds (setAll_ml _ _ _ _ _ _ e)⟩⟩
/-- one turn, from the store δ' (nothing known in vs) with acc made so far -/
def Turn3 (K : PySem.W.Frag) (tt : TT) (te : TE) (vs : List Nat) (f : Sto → PyData → Sto) (d : PyData) (δ' : Sto) (acc : List PyData) (N : List PyData → Sto → Prop) : Prop :=
  TX K WF tt (f δ' d) (fun b δ2 => (b = true → EX K WF te δ2 (fun w δ3 => ∃ e, w = .d e ∧ acc.length < 1000000 ∧ N (acc ++ [e]) (wipeD δ3 vs)) XF) ∧ (b = false → N acc (wipeD δ2 vs))) XF
def LcI (K : PySem.W.Frag) (tt : TT) (te : TE) (vs : List Nat) (ok : PyData → Prop) (f : Sto → PyData → Sto) (ds : List PyData) (Inv : Nat → List PyData → Sto → Prop) : Prop :=
  ∀ k d acc δ', ds[k]? = some d → Inv k acc δ' → ok d ∧ Turn3 K tt te vs f d δ' acc (Inv (k + 1))
/-- the state within: D is the list that is made -/
structure LcS (K : PySem.W.Frag) (m : Addr → Prop) (D : Addr) (vs : List Nat) (σ : L2.St) (δ0 : Sto) (H0 : Hp) (Inv : List PyData → Sto → Prop) (H : Hp) (δ' : Sto) (acc : List PyData) : Prop where
  same : Same (hide (hid m δ0) H0) (hide (hid m δ') (erase D H))
  keep : ∀ a, m a → H a = H0 a
  env : Env3 K (fun a => m a ∨ a = D) H (wipe σ vs) δ'
  lst : ∃ xs, H D = some (.lst xs) ∧ Da K (hide (hid m δ') (erase D H)) xs acc
  stay : Stay δ0 δ'
  noml : ∀ i ∈ vs, ∀ p ds, δ'[i]? ≠ some (.ml p ds)
  inv : Inv acc δ'
theorem hid_D {m : Addr → Prop} {D : Addr} {H : Hp} : hide (hid (fun a => m a ∨ a = D) δ) H = hide (hid m δ) (erase D H) := by
  funext a
  by_cases c : a = D
  · have h1 : hid (fun a => m a ∨ a = D) δ a := .inl (.inr c)
    unfold hide
    rw [if_pos h1, c, erase_at]
    simp
  · by_cases c2 : hid m δ a
    · have h1 : hid (fun a => m a ∨ a = D) δ a := by
        rcases c2 with z | z
        · exact .inl (.inl z)
        · exact .inr z
      unfold hide
      rw [if_pos h1, if_pos c2]
    · have h1 : ¬ hid (fun a => m a ∨ a = D) δ a := by
        rintro ((z | z) | z)
        · exact c2 (.inl z)
        · exact c z
        · exact c2 (.inr z)
      rw [hide_of h1, hide_of c2, erase_ne c]
theorem Env3.unD {m : Addr → Prop} {D : Addr} {σ : L2.St} (I : Env3 K (fun a => m a ∨ a = D) H σ δ) (nD : ¬ m D) : Env3 K m (erase D H) σ δ where
  len := I.len
  dat := fun i d h => by
    have q := I.dat i d h
    rw [hid_D] at q
    exact q
  ml := fun i p ds h => by
    obtain ⟨h1, h2, xs, h3, h4⟩ := I.ml i p ds h
    rw [hid_D] at h4
    exact ⟨h1, fun z => h2 (.inl z), xs, by rw [erase_ne (fun z => h2 (.inr z))]; exact h3, h4⟩
  one := I.one
  got := fun a h => by
    have ne : a ≠ D := fun z => nD (z ▸ h)
    rw [erase_ne ne]
    exact I.got a (.inl h)
theorem Env3.onD {m : Addr → Prop} {D : Addr} {σ : L2.St} (I : Env3 K m (erase D H) σ δ) (hD : H D ≠ none) : Env3 K (fun a => m a ∨ a = D) H σ δ where
  len := I.len
  dat := fun i d h => by
    rw [hid_D]
    exact I.dat i d h
  ml := fun i p ds h => by
    obtain ⟨h1, h2, xs, h3, h4⟩ := I.ml i p ds h
    have ne : p ≠ D := fun z => by rw [z, erase_at] at h3; cases h3
    rw [hid_D]
    exact ⟨h1, fun z => z.elim h2 ne, xs, by rw [erase_ne ne] at h3; exact h3, h4⟩
  one := I.one
  got := fun a h => by
    rcases h with h | rfl
    · exact fun z => I.got a h (by
        by_cases c : a = D
        · rw [c, erase_at]
        · rw [erase_ne c]; exact z)
    · exact hD
theorem lc_turn {m : Addr → Prop} {D : Addr} {σ : L2.St} {δ0 δ' : Sto} {H0 : Hp} {Inv N : List PyData → Sto → Prop} {acc : List PyData} {x : V} {d : PyData} {Pn : Hp → Prop} (tg : TgC K g vs ok f) (nD : ¬ m D) (S : LcS K m D vs σ δ0 H0 Inv H δ' acc) (hd : Dd K (hide (hid m δ') (erase D H)) x d) (hok : ok d)
    (ht : Turn3 K tt te vs f d δ' acc N) (hP : ∀ H' δ'' acc', LcS K m D vs σ δ0 H0 N H' δ'' acc' → Pn H') :
    g x (wipe σ vs) H fun σ2 H2 => wipe σ2 vs = wipe σ vs ∧ tt σ2 H2 fun b H3 => if b = true then te σ2 H3 fun y H4 => ∃ acc, H4 D = some (.lst acc) ∧ acc.length < sizeLine ∧ Pn (upd H4 D (.lst (acc ++ [y]))) else Pn H3 := by
  have ww : wipe (wipe σ vs) vs = wipe σ vs := by
    have : ∀ ws : List Nat, (∀ i ∈ ws, i ∈ vs) → wipe (wipe σ ws) vs = wipe σ vs := by
      intro ws
      induction ws with
      | nil => intro _; rfl
      | cons u us ih =>
        intro h
        show wipe ((wipe σ us).set u none) vs = _
        rw [wipe_in _ u none vs (h u List.mem_cons_self)]
        exact ih fun i hi => h i (List.mem_cons_of_mem _ hi)
    exact this vs fun _ z => z
  refine tg.1 (fun a => m a ∨ a = D) H (wipe σ vs) δ' x d S.env (by rw [hid_D]; exact hd) hok _ fun σ2 e2 g2 J2 => ⟨e2.trans ww, ?_⟩
  obtain ⟨st2, nm2⟩ := tg.2 δ' d S.noml hok
  obtain ⟨xs, hxs, rxs⟩ := S.lst
  have fin : ∀ {H' : Hp} {δ'' : Sto} {ys : List V} {acc' : List PyData}, Same (hide (hid m δ') (erase D H)) (hide (hid m δ'') (erase D H')) → (∀ a, m a → H' a = H a) → Env3 K (fun a => m a ∨ a = D) H' σ2 δ'' → Stay (f δ' d) δ'' → H' D = some (.lst ys) → Da K (hide (hid m δ'') (erase D H')) ys acc' → N acc' (wipeD δ'' vs) → Pn H' := fun {H' δ'' ys acc'} sm kp J st hy ry q => by
    have hh : Same (hide (hid m δ'') (erase D H')) (hide (hid m (wipeD δ'' vs)) (erase D H')) := fun a o z => by
      obtain ⟨c, z⟩ := hide_in z
      refine hide_some (fun y => c ?_) z
      rcases y with y | ⟨i, es, y⟩
      · exact .inl y
      · exact .inr ⟨i, es, (wipeD_some y (fun y => nomatch y)).1⟩
    refine hP H' (wipeD δ'' vs) acc' ⟨S.same.trans (sm.trans hh), fun a ha => (kp a ha).trans (S.keep a ha), ?_, ⟨ys, hy, ry.mono hh⟩, ?_, fun i hi p ds z => (wipeD_some z (fun y => nomatch y)).2 hi, q⟩
    · have J3 := J.wiped vs
      rw [e2, ww] at J3
      exact J3
    · intro i p ds z
      obtain ⟨es, z1⟩ := S.stay i p ds z
      have ni : i ∉ vs := fun y => S.noml i y p es z1
      obtain ⟨es2, z2⟩ := (st2.trans st) i p es z1
      exact ⟨es2, by rw [wipeD_out ni]; exact z2⟩
  refine ht (fun a => m a ∨ a = D) H σ2 J2 _ (fun b H3 δ3 g3 s3 J3 ⟨q1, q2⟩ => ?_) (fun C H' δ' g J e => e.elim)
  have sm3 : Same (hide (hid m δ') (erase D H)) (hide (hid m δ3) (erase D H3)) := by
    have z := g2.same.trans g3.same
    rw [hid_D, hid_D] at z
    exact z
  have kp3 : ∀ a, m a → H3 a = H a := fun a ha => (g3.keep a (.inl ha)).trans (g2.keep a (.inl ha))
  have hD3 : H3 D = some (.lst xs) := by rw [g3.keep D (.inr rfl), g2.keep D (.inr rfl)]; exact hxs
  cases b with
  | false => exact iteF (fin sm3 kp3 J3 s3 hD3 (rxs.mono sm3) (q2 rfl))
  | true =>
    refine iteT (q1 rfl (fun a => m a ∨ a = D) H3 σ2 J3 _ (fun y w H4 δ4 g4 s4 J4 o4 ⟨e, ew, hl, qn⟩ => ?_) (fun C H' δ' g J e => e.elim))
    subst ew
    have hD4 : H4 D = some (.lst xs) := by rw [g4.keep D (.inr rfl)]; exact hD3
    have sm4 : Same (hide (hid m δ') (erase D H)) (hide (hid m δ4) (erase D H4)) := by
      have z := g4.same
      rw [hid_D, hid_D] at z
      exact sm3.trans z
    have ee : erase D (upd H4 D (.lst (xs ++ [y]))) = erase D H4 := by
      funext a
      by_cases c : a = D
      · rw [c, erase_at, erase_at]
      · rw [erase_ne c, erase_ne c, upd_ne c]
    have dy : Dd K (hide (hid m δ4) (erase D H4)) y e := by
      have z : Dd K _ y e := o4
      rw [hid_D] at z
      exact z
    have rx := rxs.mono sm4
    refine ⟨xs, hD4, by rw [rx.length]; exact Nat.lt_of_lt_of_le hl (by decide), ?_⟩
    refine fin (ys := xs ++ [y]) (acc' := acc ++ [e]) (δ'' := δ4) (by rw [ee]; exact sm4) (fun a ha => ?_) ?_ (s3.trans s4) upd_same (by rw [ee]; exact rx.append (.cons dy .nil)) qn
    · have ne : a ≠ D := fun z => nD (z ▸ ha)
      rw [upd_ne ne, g4.keep a (.inl ha)]
      exact kp3 a ha
    · have J5 := J4.unD nD
      rw [← ee] at J5
      exact J5.onD (by rw [upd_same]; exact fun z => by cases z)
theorem lc_start {m : Addr → Prop} {D : Addr} {σ : L2.St} {Inv : List PyData → Sto → Prop} (I : Env3 K m H σ δ) (hD : H D = none) (nv : ∀ i ∈ vs, ∀ p ds, δ[i]? ≠ some (.ml p ds)) (i0 : Inv [] (wipeD δ vs)) : LcS K m D vs σ δ H Inv (upd H D (.lst [])) (wipeD δ vs) [] := by
  have nD : ¬ m D := fun z => I.got D z hD
  have ee : erase D (upd H D (.lst [])) = H := erase_upd hD
  have hh : Same (hide (hid m δ) H) (hide (hid m (wipeD δ vs)) H) := fun a o z => by
    obtain ⟨c, z⟩ := hide_in z
    refine hide_some (fun y => c ?_) z
    rcases y with y | ⟨i, es, y⟩
    · exact .inl y
    · exact .inr ⟨i, es, (wipeD_some y (fun y => nomatch y)).1⟩
  refine ⟨by rw [ee]; exact hh, fun a ha => upd_ne fun z => nD (z ▸ ha), ?_, ⟨[], upd_same, .nil⟩, fun i p ds z => ⟨ds, by rw [wipeD_out fun y => nv i y p ds z]; exact z⟩, fun i hi p ds z => (wipeD_some z (fun y => nomatch y)).2 hi, i0⟩
  have J : Env3 K m (erase D (upd H D (.lst []))) (wipe σ vs) (wipeD δ vs) := by
    rw [ee]
    exact I.wiped vs
  exact J.onD (by rw [upd_same]; exact fun z => by cases z)
/-- no slot of vs holds a list of one's own -/
def NoMl (δ : Sto) (vs : List Nat) : Prop := ∀ i ∈ vs, ∀ p ds, δ[i]? ≠ some (.ml p ds)
theorem lc_end {m : Addr → Prop} {D : Addr} {σ : L2.St} {δ1 δ' : Sto} {H0 H1 H' : Hp} {acc : List PyData} {Inv p : List PyData → Sto → Prop} {Q : VK} (nD : ¬ m D) (g1 : Gw m δ H0 δ1 H1) (s1 : Stay δ δ1) (S : LcS K m D vs σ δ1 H1 Inv H' δ' acc) (q : p acc δ')
    (k : ∀ p' xs ds H' δ', Gw m δ H0 δ' (erase p' H') → Stay δ δ' → Env3 K m (erase p' H') σ δ' → H' p' = some (.lst xs) → Da K (hide (hid m δ') (erase p' H')) xs ds → p ds δ' → Q (.ref p') H') : Q (.ref D) H' := by
  obtain ⟨xs, hx, r⟩ := S.lst
  refine k D xs acc H' δ' ⟨g1.same.trans S.same, fun a ha => ?_⟩ (s1.trans S.stay) (wipe_back (S.env.unD nD)) hx r q
  have ne : a ≠ D := fun z => nD (z ▸ ha)
  rw [erase_ne ne, S.keep a ha]
  exact g1.keep a ha
theorem fx_lcL {p : List PyData → Sto → Prop} (tg : TgC K g vs ok f) (Inv : List PyData → Nat → List PyData → Sto → Prop)
    (h : EX K W tl δ (fun w δ1 => ∃ ds, w = .d (.list ds) ∧ NoMl δ1 vs ∧ Inv ds 0 [] (wipeD δ1 vs) ∧ LcI K tt te vs ok f ds (Inv ds) ∧ ∀ acc δ', Inv ds ds.length acc δ' → p acc δ') ex) : FX K W (tLc (iList K tl) g tt te vs) δ p ex :=
  fun m H σ I Q k k2 => h m H σ I _ (fun v w H1 δ1 g1 s1 I1 o1 ⟨ds, e, nv, i0, turn, fin⟩ => by
    subst e
    obtain ⟨a, xs, rfl, hs, r⟩ := dd_lst o1
    refine ⟨a, rfl, ⟨xs, Same.seq hide_same hs⟩, fun D hD => ?_⟩
    have nD : ¬ m D := fun z => I1.got D z hD
    refine lc_list (K := K) (a := a) (xs := xs) (fun k H' => ∃ δ' acc, LcS K m D vs σ δ1 H1 (Inv ds k) H' δ' acc) ⟨_, _, lc_start I1 hD nv i0⟩ (fun k H' _ ⟨δ', acc, S⟩ => Same.seq (hide_same.trans erase_same) (Same.seq S.same hs)) ?_ ?_
    · rintro k x H' hx ⟨δ', acc, S⟩
      obtain ⟨d, hd, dd⟩ := r.get' hx
      obtain ⟨hok, hb⟩ := turn k d acc δ' hd S.inv
      exact lc_turn tg nD S (dd.mono S.same) hok hb fun H2 δ2 acc2 S2 => ⟨δ2, acc2, S2⟩
    · rintro H' ⟨δ', acc, S⟩
      have iv := S.inv
      rw [r.length] at iv
      exact lc_end nD g1 s1 S (fin acc δ' iv) k) k2
theorem fx_lcT {p : List PyData → Sto → Prop} (tg : TgC K g vs ok f) (Inv : List PyData → Nat → List PyData → Sto → Prop)
    (h : EX K W tl δ (fun w δ1 => ∃ ds, w = .d (.tuple ds) ∧ NoMl δ1 vs ∧ Inv ds 0 [] (wipeD δ1 vs) ∧ LcI K tt te vs ok f ds (Inv ds) ∧ ∀ acc δ', Inv ds ds.length acc δ' → p acc δ') ex) : FX K W (tLc (iTup K tl) g tt te vs) δ p ex :=
  fun m H σ I Q k k2 => h m H σ I _ (fun v w H1 δ1 g1 s1 I1 o1 ⟨ds, e, nv, i0, turn, fin⟩ => by
    subst e
    obtain ⟨a, xs, rfl, hs, r⟩ := dd_tup o1
    refine ⟨a, rfl, ⟨xs, Same.tup hide_same hs⟩, fun D hD => ?_⟩
    have nD : ¬ m D := fun z => I1.got D z hD
    refine lc_tup (K := K) (a := a) (xs := xs) (fun k H' => ∃ δ' acc, LcS K m D vs σ δ1 H1 (Inv ds k) H' δ' acc) ⟨_, _, lc_start I1 hD nv i0⟩ (fun k H' _ ⟨δ', acc, S⟩ => Same.tup (hide_same.trans erase_same) (Same.tup S.same hs)) ?_ ?_
    · rintro k x H' hx ⟨δ', acc, S⟩
      obtain ⟨d, hd, dd⟩ := r.get' hx
      obtain ⟨hok, hb⟩ := turn k d acc δ' hd S.inv
      exact lc_turn tg nD S (dd.mono S.same) hok hb fun H2 δ2 acc2 S2 => ⟨δ2, acc2, S2⟩
    · rintro H' ⟨δ', acc, S⟩
      have iv := S.inv
      rw [r.length] at iv
      exact lc_end nD g1 s1 S (fin acc δ' iv) k) k2
theorem fx_lcR1 {ta : TA} {p : List PyData → Sto → Prop} (tg : TgC K g vs ok f) (Inv : Nat → List PyData → Sto → Prop)
    (h : AX K W ta δ (fun ws δ1 => ∃ n : Int, ws = [.d (.int n)] ∧ (-1000000 ≤ n ∧ n ≤ 1000000000) ∧ NoMl δ1 vs ∧ Inv 0 [] (wipeD δ1 vs) ∧ LcI K tt te vs ok f (rangeD 0 n.toNat) Inv ∧ ∀ acc δ', Inv n.toNat acc δ' → p acc δ') ex) : FX K W (tLc (iRng1 ta) g tt te vs) δ p ex :=
  fun m H σ I Q k k2 => h m H σ I _ (fun v w H1 δ1 g1 s1 I1 o1 ⟨n, e, hb, nv, i0, turn, fin⟩ => by
    subst e
    obtain ⟨v, rfl, hv⟩ := vw1 o1
    cases dd_int hv
    refine ⟨n, rfl, by omega, by omega, fun D hD => ?_⟩
    have nD : ¬ m D := fun z => I1.got D z hD
    refine lc_range (lo := 0) (n := n.toNat) (fun k H' => ∃ δ' acc, LcS K m D vs σ δ1 H1 (Inv k) H' δ' acc) ⟨_, _, lc_start I1 hD nv i0⟩ ?_ ?_
    · rintro k H' hk ⟨δ', acc, S⟩
      obtain ⟨hok, hb⟩ := turn k _ acc δ' (rangeD_get hk) S.inv
      exact lc_turn tg nD S (.int _) hok hb fun H2 δ2 acc2 S2 => ⟨δ2, acc2, S2⟩
    · rintro H' ⟨δ', acc, S⟩
      exact lc_end nD g1 s1 S (fin acc δ' S.inv) k) k2
end
/-- tests of a comprehension without any -/
theorem tx_yes {K : PySem.W.Frag} {W : WX} {δ : Sto} {p : Bool → Sto → Prop} {ex : XP} (q : p true δ) : TX K W tYes δ p ex := fun m H σ I Q k _ => k true H δ .refl (.refl δ) I q
end M3
namespace M3
open PySem PySem.Spec PyProof.Rows L2

/-! ### a def whose first argument is a list that it changes -/
def st0M (n : Nat) (p : Addr) (es ds : List PyData) : Sto := .ml p es :: st0 (n - 1) ds
section
variable {P : Program} {w : World} {K : PySem.W.Frag} {mg : Str → Option Value} {base : Heap} {k : Nat} {f : Addr} {fd : FuncData} {ps N : List Str}
theorem st0_noml {n i : Nat} {ds es : List PyData} {p : Addr} : (st0 n ds)[i]? ≠ some (.ml p es) := fun z => by
  unfold st0 at z
  rw [List.getElem?_append] at z
  split at z
  · rw [List.getElem?_map] at z
    cases q : ds[i]? with
    | none => rw [q] at z; cases z
    | some d => rw [q] at z; cases z
  · rw [List.getElem?_replicate] at z
    split at z <;> cases z
theorem own_M {n : Nat} {p a : Addr} {es ds : List PyData} : own (st0M n p es ds) a ↔ a = p := by
  constructor
  · rintro ⟨i, fs, h⟩
    cases i with
    | zero =>
      have h : some (Sl.ml p es) = some (.ml a fs) := h
      cases h
      rfl
    | succ i => exact absurd (show (st0 (n - 1) ds)[i]? = some (.ml a fs) from h) st0_noml
  · rintro rfl
    exact ⟨0, es, rfl⟩
theorem hide_M {m : Addr → Prop} {n : Nat} {p : Addr} {es ds : List PyData} {H : Hp} : hide (hid m (st0M n p es ds)) H = hide m (erase p H) := by
  funext a
  by_cases c : a = p
  · have h1 : hid m (st0M n p es ds) a := .inr (own_M.mpr c)
    unfold hide
    rw [if_pos h1, c, erase_at]
    simp
  · by_cases c2 : m a
    · have h1 : hid m (st0M n p es ds) a := .inl c2
      unfold hide
      rw [if_pos h1, if_pos c2]
    · have h1 : ¬ hid m (st0M n p es ds) a := fun z => z.elim c2 fun z => c (own_M.mp z)
      rw [hide_of h1, hide_of c2, erase_ne c]
theorem stM_env {H : Hp} {m : Addr → Prop} {n : Nat} {p : Addr} {vr xs : List V} {es ds : List PyData} (got : ∀ a, m a → H a ≠ none) (np : ¬ m p) (hp : H p = some (.lst xs)) (r1 : Da K (hide m (erase p H)) xs es) (r2 : Da K (hide m (erase p H)) vr ds) :
    Env3 K m H ((V.ref p :: vr).map some ++ List.replicate (n - (V.ref p :: vr).length) none) (st0M n p es ds) := by
  have gotE : ∀ a, m a → erase p H a ≠ none := fun a ha => by
    have ne : a ≠ p := fun z => np (z ▸ ha)
    rw [erase_ne ne]
    exact got a ha
  have I1 : Env3 K m (erase p H) (vr.map some ++ List.replicate (n - 1 - vr.length) none) (st0 (n - 1) ds) := st0_env r2 gotE
  have e1 : (V.ref p :: vr).map some ++ List.replicate (n - (V.ref p :: vr).length) (none : Option V) = some (V.ref p) :: (vr.map some ++ List.replicate (n - 1 - vr.length) none) := by
    have : n - (V.ref p :: vr).length = n - 1 - vr.length := by
      rw [List.length_cons]
      omega
    rw [this]
    rfl
  rw [e1]
  have hm : Same (hide (hid m (st0 (n - 1) ds)) (erase p H)) (hide (hid m (st0M n p es ds)) H) := by
    rw [hide_M]
    exact sub_hide
  refine ⟨?_, fun i d h => ?_, fun i q fs h => ?_, fun i j q fs gs hi hj => ?_, got⟩
  · show _ + 1 = _ + 1
    rw [I1.len]
  · cases i with
    | zero => exact absurd h (fun z => by cases (show some (Sl.ml p es) = some (.dat d) from z))
    | succ i =>
      obtain ⟨v, h1, h2⟩ := I1.dat i d h
      exact ⟨v, h1, h2.mono hm⟩
  · cases i with
    | zero =>
      cases (show some (Sl.ml p es) = some (.ml q fs) from h)
      exact ⟨rfl, np, xs, hp, by rw [hide_M]; exact r1⟩
    | succ i => exact absurd (show (st0 (n - 1) ds)[i]? = some (.ml q fs) from h) st0_noml
  · cases i with
    | zero =>
      cases j with
      | zero => rfl
      | succ j => exact absurd (show (st0 (n - 1) ds)[j]? = some (.ml q gs) from hj) st0_noml
    | succ i => exact absurd (show (st0 (n - 1) ds)[i]? = some (.ml q fs) from hi) st0_noml
theorem fn_mut {x qual : Str} {st : Stmt} {n : Nat} {α : Type} {enc : α → List PyData} {pre : List PyData → α → Prop} {post : List PyData → α → PyData → List PyData → Prop} (F : Fd K x qual st f fd) (S : FnScope N ps (defScope st)) (hn : ps.length = n + 1)
    (body : ∀ (cdv : Value) (A : Around) (outer : List Env) (s : Shared) (H : Hp) (E : XK), A.guards = some [] → Room k (A.deeper (envOfC qual (defScope st) s.heap.objs.size f cdv)) →
      ∃ t, PSs (bodyX P w K mg base N qual st f cdv A outer s H E) (defBody st) t ∧ ∀ p es a, pre es a → SX K (W0 E) t (st0M N.length p es (enc a))
        (RM p (post es a))) :
    FnG P w K mg base (k + 1) f fd ps (spM K n enc pre post) := by
  refine fn_body F S (fun vs H Q E ⟨m, p, vr, xs, es, a, e, _, _, _, _, r, hl, _⟩ => by rw [e, List.length_cons, r.length, hl, hn]) fun cdv A outer s H vs Q E hgd hr h => ?_
  obtain ⟨m, p, vr, xs, es, a, rfl, got, np, hp, r1, r2, hl, hpre, q⟩ := h
  obtain ⟨t, ht, hb⟩ := body cdv A outer s H E hgd hr
  have I0 : Env3 K m H (start N (V.ref p :: vr)) (st0M N.length p es (enc a)) := stM_env got np hp r1 r2
  have fin : ∀ {v : V} {d : PyData} {fs : List PyData} {σ' : L2.St} {H' : Hp} {δ' : Sto}, Gw m (st0M N.length p es (enc a)) H δ' H' → Env3 K m H' σ' δ' → Dd K (hide (hid m δ') H') v d → δ'[0]? = some (.ml p fs) → post es a d fs → Q v H' := fun {v d fs σ' H' δ'} g J o h0 pp => by
    obtain ⟨_, _, ys, hy, ry⟩ := J.ml 0 p fs h0
    have sub : Same (hide (hid m δ') H') (hide m (erase p H')) := fun b o z => by
      obtain ⟨c, z⟩ := hide_in z
      have ne : b ≠ p := fun y => c (.inr ⟨0, fs, by rw [y]; exact h0⟩)
      exact hide_some (fun y => c (.inl y)) (by rw [erase_ne ne]; exact z)
    refine q v d ys fs H' ?_ g.keep hy (ry.mono sub) (o.mono sub) pp
    have gs := g.same
    rw [hide_M] at gs
    exact gs.trans sub
  exact ⟨t, ht, hb p es a hpre m H _ I0 _ (fun σ' H' δ' g J ⟨fs, h0, pp⟩ => fin g J .non h0 pp) (fun v w σ' H' δ' g J o ⟨d, fs, e, h0, pp⟩ => by
    subst e
    exact fin g J o h0 pp) (fun _ _ _ _ _ z => z.elim) (fun _ _ _ _ _ z => z.elim) (fun _ _ _ _ _ _ z => z.elim)⟩
end

/-! ### the end of a law over such promises -/
theorem cx_none {P : Program} {w : World} {H : Hp} {s s' : Shared} {e : Value} (h : L2.CX P w [] H s (fun _ _ _ => False) e s') : False := by
  obtain ⟨_, _, _, _, _, _, _, _, _, _, _, _, z⟩ := h
  exact z
/-- what law(script) promises -/
def spScript (K : PySem.W.Frag) : Sp := spD K 1 (fun ns : List Int => [.list (ns.map .int)]) (fun ns => ns.length ≤ 63) (fun _ d => d = .bool true) (fun _ _ => False)
theorem script_sp {K : PySem.W.Frag} {H : Hp} {a : Addr} {ns : List Int} (hl : ns.length ≤ 63) (h : SqL K H a (ns.map V.int)) : spScript K [.ref a] H (fun v _ => v = .bl true) fun _ _ _ => False := by
  refine ⟨fun _ => False, ns, fun _ z => z.elim, .cons (.lst (Same.seq (fun b o z => ?_) h) (Da.of_ints ns)) .nil, rfl, hl, fun v d H' _ o e => ?_, fun _ _ _ z => z⟩
  · exact hide_some (fun y => y) z
  · subst e
    exact dd_bool o
theorem run_law {P : Program} {w : World} {K : PySem.W.Frag} {mg mb : Str → Option Value} {k : Nat} {fa a : Addr} {fd : FuncData} {x : Str} {s₁ : Shared} {vs : List Value} {ns : List Int}
    (KX : K.In s₁.heap) (hns : s₁.heap.Ns mainGlobals mg) (hb : s₁.heap.Ns builtinsNs mb) (hbb : ∀ x : Str, x ≠ "__name__" → mb x = bootBuiltins x) (hlim : s₁.heap.NoLimit) (hg : s₁.gens = #[])
    (ha : s₁.heap.get? a = some { cls := .type "list", data := .seq vs.toArray }) (hi : IntsAre vs ns) (hl : ns.length ≤ 63) (hr : Room k callerA)
    (F : ∀ base : Heap, K.In base → base.Ns mainGlobals mg → FnG P w K mg base k fa fd [x] (spScript K)) (hbind : ∀ (s : Shared) (u : Value), BindsTo s fd ⟨[u], []⟩ [(x, u)]) :
    codeAny (model P w) callerA (.call (.ref fa) ⟨[.ref a], []⟩) (fun r s' => r = .ok (.ret (.bool true)) ∧ OldK s₁.heap s'.heap ∧ s'.os = s₁.os ∧ AllBare s'.gens) s₁ := by
  have rv := vals_ints hi
  have hl2 : ns.length ≤ sizeLine := Nat.le_trans hl (by decide)
  have from_H : ∀ H : Hp, Only H → SqL K H a (ns.map V.int) → HOk P w H s₁.heap → (∀ b, H b ≠ none → b = a ∧ K.lookup a = none) →
      codeAny (model P w) callerA (.call (.ref fa) ⟨[.ref a], []⟩) (fun r s' => r = .ok (.ret (.bool true)) ∧ OldK s₁.heap s'.heap ∧ s'.os = s₁.os ∧ AllBare s'.gens) s₁ := by
    intro H hO hS hok hA
    have free : ∀ {b : Addr} {o : Obj}, s₁.heap.get? b = some o → b ≠ a → H b = none := fun {b o} _ ne => by
      by_cases q : H b = none
      · exact q
      · exact absurd (hA b q).1 ne
    have nsK : ∀ {b : Addr} {m : Str → Option Value}, s₁.heap.Ns b m → (hidT s₁.heap H).Ns b m := fun {b m} ⟨o, es, ep, e, d, r⟩ => by
      have ne : b ≠ a := fun z => by
        subst z
        rw [ha] at e
        cases e
        cases (show Data.seq vs.toArray _ = Data.dict es ep from d)
      exact ⟨o, es, ep, hidT_get e (free e ne), d, r⟩
    have hKb : K.In (hidT s₁.heap H) := fun b o e => hidT_get (KX b o e) (by
      by_cases q : H b = none
      · exact q
      · obtain ⟨z, kn⟩ := hA b q
        rw [z, kn] at e
        cases e)
    have md : Mod K mg (hidT s₁.heap H) := ⟨hKb, nsK hns, ⟨mb, nsK hb, hbb⟩, by
      obtain ⟨mc, h1, h2⟩ := hlim
      exact ⟨mc, nsK h1, h2⟩⟩
    have e0 : Env0 P w K mg (hidT s₁.heap H) callerA [] s₁ H := ⟨rfl, md, fun b o e => of_hidT e, Nat.le_of_eq (hidT_size _ _), trivial, fun b hb => absurd (show b ∈ ([] : List Addr) from hb) (by simp), hok, .of_eq hg⟩
    refine codeAny_mono ((F _ hKb (nsK hns)).run callerA [] s₁ H ⟨[.ref a], []⟩ [.ref a] [.ref a] _ _ rfl hr e0 (hbind s₁ (.ref a)) (.cons rfl .nil) (script_sp hl hS)) ?_
    rintro (er | fl) s' h
    · exact (cx_none h).elim
    · cases fl with
      | next => exact h.elim
      | brk => exact h.elim
      | cont => exact h.elim
      | ret u =>
        obtain ⟨v, H', os, bare, un, hok', r', q⟩ := h
        cases (show v = V.bl true from q)
        cases (show u = Value.bool true from r')
        refine ⟨rfl, OldK.of_keep fun b o e => ?_, os, bare⟩
        rcases hO b with z | ⟨ob, xs, z⟩
        · exact un.keep b o e z (by intro y; exact absurd (show b ∈ ([] : List Addr) from y) (by simp)) (by simp)
        · have e1 := (hok b _ z).1
          have e2 := (hok' b _ (un.frzs b _ _ z)).1
          rw [e] at e1
          cases e1
          exact e2
  cases hk : K.lookup a with
  | some o =>
    have e := KX a o hk
    rw [ha] at e
    cases e
    exact from_H (fun _ => none) (fun _ => .inl rfl) (.inr ⟨_, vs.toArray, _, hk, rfl, rfl, rfl, by rw [List.size_toArray, hi.length]; exact hl2, by simpa using rv⟩) (fun b u z => by cases (show (none : Option HO) = some u from z)) (fun b z => absurd rfl z)
  | none =>
    refine from_H (fun b => if b = a then some (.frz { cls := .type "list", data := .seq vs.toArray } (.lst (ns.map V.int))) else none) (fun b => ?_) (.inl (.inr ⟨{ cls := .type "list", data := .seq vs.toArray }, if_pos rfl⟩)) (fun b u z => ?_) (fun b z => ?_)
    · by_cases hb : b = a
      · exact .inr ⟨_, _, if_pos hb⟩
      · exact .inl (if_neg hb)
    · by_cases hb : b = a
      · subst hb
        cases (if_pos rfl).symm.trans z
        exact ⟨ha, by rw [List.length_map]; exact hl2, vs, _, rv, ha⟩
      · cases (if_neg hb).symm.trans z
    · by_cases hb : b = a
      · exact ⟨hb, hk⟩
      · exact absurd (if_neg hb) z
theorem walk_law {l : PySem.W.OpenLaw} {k : Nat} {q : Program} {loose : List Str} {XP : (Str → Option Value) → Heap → Prop} {YP : World → Heap → Prop} {d : DefRec} {K : Params → PySem.W.Frag} {x : Str}
    (hn : l.most = some 63) (hdf : d.params.defaults = []) (hr : Room k callerA) (hY : ∀ (w : World) (h : Heap), YP w h → (K w.params).In h)
    (F : ∀ (w : World) (mg : Str → Option Value) (fa : Addr) (h : Heap), (K w.params).In h → h.Ns mainGlobals mg → mg d.name = some (.ref fa) →
      ∃ fd : FuncData, (∀ (s : Shared) (u : Value), BindsTo s fd ⟨[u], []⟩ [(x, u)]) ∧ ∀ base : Heap, (K w.params).In base → base.Ns mainGlobals mg → FnG l.prog w (K w.params) mg base k fa fd [x] (spScript (K w.params))) :
    PySem.W.WalkO q loose XP YP l.row.toRowW d [] (fun f vs => PySem.call f vs) :=
  Att.attach_call hn hdf fun w s₀ s₁ mg mb fa o pm cd doc a vs ns G Y _ _ _ hmg hobj hints hlen hg => by
    have KX := hY w _ Y
    obtain ⟨fd, hb, hF⟩ := F w mg fa _ KX G.T.g hmg
    exact run_law KX G.T.g G.T.b G.T.builtins G.T.nolimit hg hobj hints hlen hr hF hb
end M3
namespace M3
open PySem PySem.Spec PyProof.Rows L2
/-! ### small helpers -/
theorem ex_or1 {K : PySem.W.Frag} {W : WX} {δ : Sto} {ex : XP} {post : Vw → Sto → Prop} {ta : TE} (h : EX K W ta δ (fun w δ' => ∃ n : Int, w = .d (.int n) ∧ post (.d (.int (if n = 0 then 1 else n))) δ') ex) : EX K W (tOrT K ta (tC (.int 1))) δ post ex :=
  ex_orT (b := true) (h.imp (fun w δ' ⟨n, e, q⟩ => ⟨.int n, n != 0, e, rfl, fun c => by
    have c' : n ≠ 0 := by simpa using c
    rw [if_neg c'] at q
    exact q, fun c => by
    have c' : n = 0 := by simpa using c
    rw [if_pos c'] at q
    exact ex_int q⟩) fun _ _ e => e)
theorem sIx_n (n a : Nat) : HT.sIx n 0 (some (a : Int)) = min a n := HT.sIx_nat n 0 a
theorem cut_to (xs : List PyData) (a : Nat) : cutD xs none (some (a : Int)) = xs.take a := by
  unfold cutD
  rw [HT.sIx_none, HT.sIx_nat, List.drop_zero, Nat.sub_zero]
  by_cases h : a ≤ xs.length
  · rw [Nat.min_eq_left h]
  · rw [Nat.min_eq_right (by omega), List.take_of_length_le (Nat.le_refl _), List.take_of_length_le (by omega)]
theorem cut_from (xs : List PyData) (a : Nat) : cutD xs (some (a : Int)) none = xs.drop a := by
  unfold cutD
  rw [HT.sIx_none, HT.sIx_nat]
  by_cases h : a ≤ xs.length
  · rw [Nat.min_eq_left h, List.take_of_length_le (by rw [List.length_drop]; exact Nat.le_refl _)]
  · rw [Nat.min_eq_right (by omega), List.drop_of_length_le (Nat.le_refl _), List.drop_of_length_le (by omega), List.take_nil]
/-! ### isinstance by kinds -/
def isI : PyData → Bool
  | .int _ => true
  | .bool _ => true
  | _ => false
def isB : PyData → Bool
  | .bool _ => true
  | _ => false
def isT : PyData → Bool
  | .tuple _ => true
  | _ => false
def isS : PyData → Bool
  | .str _ => true
  | _ => false
def isL : PyData → Bool
  | .list _ => true
  | _ => false
theorem kit_int (d : PyData) : kitB (tyN d) "int" = some (isI d) := by cases d <;> (simp only [tyN, isI, isB, isT, isS, isL]; decide +kernel)
theorem kit_bool (d : PyData) : kitB (tyN d) "bool" = some (isB d) := by cases d <;> (simp only [tyN, isI, isB, isT, isS, isL]; decide +kernel)
theorem kit_tuple (d : PyData) : kitB (tyN d) "tuple" = some (isT d) := by cases d <;> (simp only [tyN, isI, isB, isT, isS, isL]; decide +kernel)
theorem kit_str (d : PyData) : kitB (tyN d) "str" = some (isS d) := by cases d <;> (simp only [tyN, isI, isB, isT, isS, isL]; decide +kernel)
theorem kit_list (d : PyData) : kitB (tyN d) "list" = some (isL d) := by cases d <;> (simp only [tyN, isI, isB, isT, isS, isL]; decide +kernel)
/-! ### ratios as data -/
def dR (q : Rat) : PyData := .tuple [.int q.num, .int (q.den : Int)]
/-- below 2 ^ n in size (opaque to omega) -/
structure Bd (n : Nat) (i : Int) : Prop where
  lt : i.natAbs < 2 ^ n
theorem Bd.mono {n k : Nat} {i : Int} (h : Bd n i) (e : n ≤ k) : Bd k i := ⟨Nat.lt_of_lt_of_le h.lt (Nat.pow_le_pow_right (by decide) e)⟩
theorem Bd.neg {n : Nat} {i : Int} (h : Bd n i) : Bd n (-i) := ⟨by rw [Int.natAbs_neg]; exact h.lt⟩
theorem Bd.mul {i j : Int} {a b : Nat} (ha : Bd a i) (hb : Bd b j) : Bd (a + b) (i * j) := ⟨wide_lt ha.lt hb.lt⟩
theorem Bd.add {i j : Int} {a : Nat} (ha : Bd a i) (hb : Bd a j) : Bd (a + 1) (i + j) := ⟨by
  have h := Int.natAbs_add_le i j
  have h1 := ha.lt
  have h2 := hb.lt
  rw [Nat.pow_succ]
  omega⟩
theorem Bd.lit {n : Nat} {i : Int} (h : decide (i.natAbs < 2 ^ n) = true) : Bd n i := ⟨of_decide_eq_true h⟩
/-- both parts below 2 ^ n -/
structure Sz (n : Nat) (q : Rat) : Prop where
  num : Bd n q.num
  den : Bd n (q.den : Int)
theorem Sz.mono {n k : Nat} {q : Rat} (h : Sz n q) (e : n ≤ k) : Sz k q := ⟨h.num.mono e, h.den.mono e⟩
theorem mulW {i j : Int} {a b : Nat} (ha : Bd a i) (hb : Bd b j) (h : a + b ≤ 999998) : CMulW i j :=
  wide_mul (a := a + 1) (b := b + 1) (ha.mono (Nat.le_succ a)).lt (hb.mono (Nat.le_succ b)).lt (Nat.succ_pos _) (Nat.succ_pos _) (by omega)
theorem den_ne (q : Rat) : (q.den : Int) ≠ 0 := by
  have := q.den_pos
  omega
theorem num_divInt_den (q : Rat) : Rat.divInt q.num q.den = q := Rat.num_divInt_den q
theorem neg_iff (p : Rat) : p < 0 ↔ p.num < 0 := by simp [Rat.lt_iff]
theorem pos_iff (p : Rat) : 0 < p ↔ 0 < p.num := by simp [Rat.lt_iff]
theorem shaped_dR (q : Rat) : SeqAt.shaped (dR q) = true := by
  show (PyData.canLay0 (.tuple [.int q.num, .int q.den]) && decide (PyData.depth (.tuple [.int q.num, .int q.den]) ≤ 64)) = true
  simp [PyData.canLay0, PyData.canLayAll0, PyData.depth, PyData.depthAll]
theorem shaped_int (i : Int) : SeqAt.shaped (.int i) = true := by simp [SeqAt.shaped, PyData.canLay0, PyData.depth]
theorem eqv_int (i j : Int) : PyData.eqv (.int i) (.int j) = (i == j) := rfl
theorem eqv_dR (p q : Rat) : PyData.eqv (dR p) (dR q) = decide (p = q) := by
  show PyData.eqv (.tuple [.int p.num, .int p.den]) (.tuple [.int q.num, .int q.den]) = decide (p = q)
  simp only [PyData.eqv, PyData.eqvAll, Bool.and_true]
  by_cases h : p = q
  · subst h
    simp
  · rw [decide_eq_false h]
    apply Bool.eq_false_iff.mpr
    intro z
    simp only [Bool.and_eq_true, beq_iff_eq] at z
    exact h (Rat.ext z.1 (by omega))

/-! ### the ratio of two integers, as the program makes it -/
theorem fdiv_pos (a : Int) {g : Int} (h : 0 ≤ g) : a.fdiv g = a / g := Int.fdiv_eq_ediv_of_nonneg a h
theorem gcd_int (a b : Int) : ((Nat.gcd a.natAbs b.natAbs : Nat) : Int) = (Int.gcd b a : Nat) := by
  rw [Int.gcd_comm]
  rfl
theorem ratio_num_pos {a b : Int} (hb : 0 < b) : a / (Int.gcd b a : Nat) = (Rat.divInt a b).num := by
  rw [Rat.num_divInt, Int.sign_eq_one_of_pos hb, Int.one_mul]
theorem ratio_den_pos {a b : Int} (hb : 0 < b) : b / (Int.gcd b a : Nat) = ((Rat.divInt a b).den : Int) := by
  rw [Rat.den_divInt, if_neg (by omega)]
  have e : b = (b.natAbs : Int) := by omega
  rw [e]
  exact (Int.natCast_ediv _ _).symm
theorem ratio_neg (a b : Int) : Rat.divInt (-a) (-b) = Rat.divInt a b := by
  by_cases h : b = 0
  · subst h
    simp [Rat.divInt_zero]
  · rw [Rat.divInt_eq_divInt_iff (by omega) h]
    rw [Int.neg_mul, Int.mul_neg]
theorem fdiv_neg_neg (a : Int) {g : Int} (h : 0 < g) (hd : g ∣ a) : a.fdiv (-g) = (-a) / g := by
  obtain ⟨k, rfl⟩ := hd
  have e : g * k = (-g) * (-k) := by rw [Int.neg_mul_neg]
  rw [e, Int.mul_fdiv_cancel_left _ (by omega), ← Int.neg_mul, Int.neg_neg, Int.mul_ediv_cancel_left _ (by omega)]
theorem gcd_pos_int {a b : Int} (h : b ≠ 0) : 0 < ((Int.gcd b a : Nat) : Int) := by
  have : 0 < Int.gcd b a := Int.gcd_pos_of_ne_zero_left a h
  omega
/-- the tuple that ratio(a, b) hands back: b above 0, b below 0 -/
theorem dR_pos {a b : Int} (hb : 0 < b) : PyData.tuple [.int (a.fdiv ((Nat.gcd a.natAbs b.natAbs : Nat) : Int)), .int (b.fdiv ((Nat.gcd a.natAbs b.natAbs : Nat) : Int))] = dR (Rat.divInt a b) := by
  have g := gcd_pos_int (a := a) (b := b) (by omega)
  rw [gcd_int, fdiv_pos _ (by omega), fdiv_pos _ (by omega), ratio_num_pos hb, ratio_den_pos hb]
  rfl
theorem dR_neg {a b : Int} (hb : b < 0) : PyData.tuple [.int (a.fdiv (-((Nat.gcd a.natAbs b.natAbs : Nat) : Int))), .int (b.fdiv (-((Nat.gcd a.natAbs b.natAbs : Nat) : Int)))] = dR (Rat.divInt a b) := by
  have g := gcd_pos_int (a := a) (b := b) (by omega)
  rw [gcd_int, fdiv_neg_neg _ g (Int.gcd_dvd_right _ _), fdiv_neg_neg _ g (Int.gcd_dvd_left _ _), ← ratio_neg]
  have e : Int.gcd b a = Int.gcd (-b) (-a) := by rw [Int.gcd_neg, Int.neg_gcd]
  rw [e, ratio_num_pos (by omega), ratio_den_pos (by omega)]
  rfl
theorem gcd_lt {a b : Int} {n : Nat} (h : b ≠ 0) (hb : Bd n b) : Bd n ((Nat.gcd a.natAbs b.natAbs : Nat) : Int) :=
  ⟨Nat.lt_of_le_of_lt (show Nat.gcd a.natAbs b.natAbs ≤ b.natAbs from Nat.le_of_dvd (by omega) (Nat.gcd_dvd_right _ _)) hb.lt⟩
theorem log_lt {x : Int} {n : Nat} (h : Bd n x) (h0 : 0 < n) : x.natAbs.log2 < n := PySem.Flt.log2_lt_of h0 h.lt
theorem sz_divInt {a b : Int} {n : Nat} (ha : Bd n a) (hb : Bd n b) (h : b ≠ 0) : Sz n (Rat.divInt a b) := by
  have num : (Rat.divInt a b).num.natAbs ≤ a.natAbs := by
    rw [Rat.num_divInt]
    have h1 : (b.sign * a / (Int.gcd b a : Nat)).natAbs ≤ (b.sign * a).natAbs := Int.natAbs_ediv_le_natAbs _ _
    rw [Int.natAbs_mul] at h1
    have h2 : b.sign.natAbs ≤ 1 := by
      rcases Int.lt_trichotomy b 0 with q | q | q
      · rw [Int.sign_eq_neg_one_of_neg q]; decide
      · exact absurd q h
      · rw [Int.sign_eq_one_of_pos q]; decide
    have h3 : b.sign.natAbs * a.natAbs ≤ 1 * a.natAbs := Nat.mul_le_mul_right _ h2
    omega
  have den : (Rat.divInt a b).den ≤ b.natAbs := by
    rw [Rat.den_divInt, if_neg h]
    exact Nat.div_le_self _ _
  exact ⟨⟨Nat.lt_of_le_of_lt num ha.lt⟩, ⟨Nat.lt_of_le_of_lt (show ((Rat.divInt a b).den : Int).natAbs ≤ b.natAbs from den) hb.lt⟩⟩
theorem divInt_add (p q : Rat) : Rat.divInt (p.num * q.den + q.num * p.den) (p.den * q.den) = p + q := by
  have h := Rat.divInt_add_divInt p.num q.num (den_ne p) (den_ne q)
  rw [num_divInt_den, num_divInt_den] at h
  exact h.symm
theorem divInt_mul (p q : Rat) : Rat.divInt (p.num * q.num) (p.den * q.den) = p * q := by
  have h := Rat.divInt_mul_divInt p.num q.num (d₁ := p.den) (d₂ := q.den)
  rw [num_divInt_den, num_divInt_den] at h
  exact h.symm
theorem divInt_div (p q : Rat) (h : q ≠ 0) : Rat.divInt (p.num * q.den) (p.den * q.num) = p / q := by
  have hn : q.num ≠ 0 := fun z => h (Rat.num_eq_zero.mp z)
  have e : Rat.divInt (p.num * q.den) (p.den * q.num) * q = p := by
    have m := Rat.divInt_mul_divInt (p.num * q.den) q.num (d₁ := p.den * q.num) (d₂ := q.den)
    rw [num_divInt_den] at m
    rw [m]
    refine Eq.trans ?_ (num_divInt_den p)
    rw [Rat.divInt_eq_divInt_iff (Int.mul_ne_zero (Int.mul_ne_zero (den_ne p) hn) (den_ne q)) (den_ne p)]
    grind
  grind
theorem num_of_den_one {p q : Rat} (h1 : p.den = 1) (h2 : q.den = 1) : (p + q).num = p.num + q.num ∧ (p + q).den = 1 := by
  have e := divInt_add p q
  rw [h1, h2] at e
  simp only [Int.natCast_one, Int.mul_one] at e
  rw [← e]
  constructor
  · rw [Rat.num_divInt]; simp
  · rw [Rat.den_divInt]; simp
theorem mul_of_den_one {p q : Rat} (h1 : p.den = 1) (h2 : q.den = 1) : (p * q).num = p.num * q.num ∧ (p * q).den = 1 := by
  have e := divInt_mul p q
  rw [h1, h2] at e
  simp only [Int.natCast_one, Int.mul_one] at e
  rw [← e]
  constructor
  · rw [Rat.num_divInt]; simp
  · rw [Rat.den_divInt]; simp
theorem dR_neg_eq (q : Rat) : dR (-q) = .tuple [.int (-q.num), .int q.den] := rfl
theorem sz_neg {n : Nat} {q : Rat} (h : Sz n q) : Sz n (-q) := ⟨h.num.neg, h.den⟩
theorem sz_add {n : Nat} {p q : Rat} (h1 : Sz n p) (h2 : Sz n q) : Sz (2 * n + 1) (p + q) := by
  rw [← divInt_add]
  refine sz_divInt ?_ ?_ (Int.mul_ne_zero (den_ne p) (den_ne q))
  · rw [show 2 * n + 1 = n + n + 1 by omega]
    exact (h1.num.mul h2.den).add (h2.num.mul h1.den)
  · exact (h1.den.mul h2.den).mono (by omega)
theorem sz_mul {n : Nat} {p q : Rat} (h1 : Sz n p) (h2 : Sz n q) : Sz (2 * n) (p * q) := by
  rw [← divInt_mul]
  refine sz_divInt ?_ ?_ (Int.mul_ne_zero (den_ne p) (den_ne q))
  · exact (h1.num.mul h2.num).mono (by omega)
  · exact (h1.den.mul h2.den).mono (by omega)
theorem sz_div {n : Nat} {p q : Rat} (h1 : Sz n p) (h2 : Sz n q) (h : q ≠ 0) : Sz (2 * n) (p / q) := by
  rw [← divInt_div p q h]
  refine sz_divInt ?_ ?_ (Int.mul_ne_zero (den_ne p) fun z => h (Rat.num_eq_zero.mp z))
  · exact (h1.num.mul h2.den).mono (by omega)
  · exact (h1.den.mul h2.num).mono (by omega)
end M3
open PySem PySem.Spec PyProof.Rows L2 M3

local macro_rules | `(tactic| walk_at "m3") => `(tactic| first
  | (with_reducible refine sx_seq ?_) | (with_reducible refine sx_ret ?_) | (with_reducible refine sx_next ?_) | (with_reducible refine sx_raise ?_)
  | (with_reducible refine tx_test ?_) | (with_reducible refine tx_B ?_) | (with_reducible refine tx_not ?_) | (with_reducible refine tx_tru ?_) | (with_reducible refine tx_yes ?_)
  | (with_reducible refine sx_if (tx_or ?_)) | (with_reducible refine sx_if (tx_and ?_)) | (with_reducible refine sx_if ?_) | (with_reducible refine tx_and ?_) | (with_reducible refine tx_or ?_)
  | (with_reducible refine ex_op ?_) | (with_reducible refine ex_un ?_) | (with_reducible refine ex_CB ?_) | (with_reducible refine ex_tup ?_) | (with_reducible refine ex_andV ?_) | (with_reducible refine ex_orV ?_) | (with_reducible refine ex_notV ?_) | (with_reducible refine ex_if ?_)
  | (with_reducible refine ax_cons ?_) | (with_reducible refine ax_nil ?_)
  | (refine ex_var rfl ?_) | (refine ex_mvar rfl ?_) | (with_reducible refine ex_int ?_) | (with_reducible refine ex_str ?_) | (with_reducible refine ex_bl ?_) | (with_reducible refine ex_non ?_) | (with_reducible refine ex_cv ?_)
  | (with_reducible refine sx_asg ?_) | (with_reducible refine sx_drop ?_)
  | (with_reducible refine rx_ii ?_) | (with_reducible refine rx_ib ?_) | (with_reducible refine ux_i ?_) | (with_reducible refine vx_gcd ?_) | (with_reducible refine vx_abs ?_) | (with_reducible refine vx_intI ?_) | (with_reducible refine vx_intB ?_)
  | (with_reducible refine vx_lenT ?_) | (with_reducible refine vx_lenL ?_) | (refine vx_isi (kit_int _) ?_) | (refine vx_isi (kit_bool _) ?_) | (refine vx_isi (kit_tuple _) ?_) | (refine vx_isi (kit_str _) ?_) | (refine vx_isi (kit_list _) ?_)
  | (with_reducible refine rx_eqD (shaped_int _) (shaped_int _) ?_) | (with_reducible refine rx_neD (shaped_int _) (shaped_int _) ?_) | (with_reducible refine rx_eqD (shaped_dR _) (shaped_dR _) ?_) | (with_reducible refine rx_neD (shaped_dR _) (shaped_dR _) ?_)
  | (refine vx_lenT ?_) | (refine vx_lenL ?_) | (refine rx_ixT rfl ?_) | (refine rx_ixL rfl ?_)
  | (refine ⟨[_, _], rfl, Nat.le_of_ble_eq_true rfl, ?_⟩) | (refine ⟨[_], rfl, Nat.le_of_ble_eq_true rfl, ?_⟩) | (refine ⟨[_, _, _], rfl, Nat.le_of_ble_eq_true rfl, ?_⟩) | (refine ⟨[], rfl, Nat.le_of_ble_eq_true rfl, ?_⟩)
  | (refine ⟨_, rfl, ?_⟩))
local macro_rules | `(tactic| walk_at "m3s") => `(tactic| simp only [eqv_int, eqv_dR, beq_iff_eq, decide_eq_true_eq, decide_eq_false_iff_not, beq_eq_false_iff_ne, Bool.not_eq_true', Bool.not_eq_false', ne_eq, Decidable.not_not, Int.natCast_inj] at *)
namespace K00
open PySem PySem.Spec PyProof.Rows L2 M3

theorem exm_self {K : PySem.W.Frag} {S : Addr} (h1 : PySem.W.subIn K (.ref S) (.type "BaseException") = some true) (h2 : PySem.W.isClsIn K S = true) (h3 : PySem.W.typeIn K (.ref S) = some (.type "type"))
    (h4 : PySem.W.subIn K (.ref S) (.ref S) = some true) : PySem.W.exmOne K (.ref S) (.ref S) = some true := by
  have a : (PySem.W.subIn K (.ref S) (.type "BaseException") == some true) = true := by rw [h1]; rfl
  have b : ((PySem.W.clsIn K S).isSome && PySem.W.typeIn K (.ref S) == some (.type "type")) = true := by
    rw [show (PySem.W.clsIn K S).isSome = true from h2, h3]
    rfl
  unfold PySem.W.exmOne
  rw [if_pos a]
  unfold PySem.W.kitCls
  dsimp only
  rw [if_pos b]
  exact h4
def topS (i : Nat) : Stmt := PySem.Challenge.pw_mitrehouse_k00_ratios.main.body.getD i (.Pass ⟨0, 0, 0, 0⟩)
abbrev s_is_whole : Stmt := topS 5
abbrev s_ratio : Stmt := topS 6
abbrev s_is_ratio : Stmt := topS 7
abbrev s_plus : Stmt := topS 8
abbrev s_opposite : Stmt := topS 12
abbrev s_minus : Stmt := topS 9
abbrev s_times : Stmt := topS 10
abbrev s_over : Stmt := topS 11
abbrev s_sign : Stmt := topS 13
abbrev s_is_less : Stmt := topS 14
abbrev s_law : Stmt := topS 16
theorem sc_is_whole : FnScope ["value"] ["value"] (defScope s_is_whole) := ⟨rfl, rfl, rfl, by decide +kernel, rfl, by decide +kernel, by decide +kernel⟩
theorem sc_ratio : FnScope ["above", "below", "common"] ["above", "below"] (defScope s_ratio) := ⟨rfl, rfl, rfl, by decide +kernel, rfl, by decide +kernel, by decide +kernel⟩
theorem sc_is_ratio : FnScope ["value", "above", "below"] ["value"] (defScope s_is_ratio) := ⟨rfl, rfl, rfl, by decide +kernel, rfl, by decide +kernel, by decide +kernel⟩
theorem sc_plus : FnScope ["one", "other"] ["one", "other"] (defScope s_plus) := ⟨rfl, rfl, rfl, by decide +kernel, rfl, by decide +kernel, by decide +kernel⟩
theorem sc_opposite : FnScope ["one"] ["one"] (defScope s_opposite) := ⟨rfl, rfl, rfl, by decide +kernel, rfl, by decide +kernel, by decide +kernel⟩
theorem sc_minus : FnScope ["one", "other"] ["one", "other"] (defScope s_minus) := ⟨rfl, rfl, rfl, by decide +kernel, rfl, by decide +kernel, by decide +kernel⟩
theorem sc_times : FnScope ["one", "other"] ["one", "other"] (defScope s_times) := ⟨rfl, rfl, rfl, by decide +kernel, rfl, by decide +kernel, by decide +kernel⟩
theorem sc_over : FnScope ["one", "other"] ["one", "other"] (defScope s_over) := ⟨rfl, rfl, rfl, by decide +kernel, rfl, by decide +kernel, by decide +kernel⟩
theorem sc_sign : FnScope ["one"] ["one"] (defScope s_sign) := ⟨rfl, rfl, rfl, by decide +kernel, rfl, by decide +kernel, by decide +kernel⟩
theorem sc_is_less : FnScope ["one", "other"] ["one", "other"] (defScope s_is_less) := ⟨rfl, rfl, rfl, by decide +kernel, rfl, by decide +kernel, by decide +kernel⟩
theorem sc_law : FnScope ["script", "numbers", "one", "other", "both", "cell"] ["script"] (defScope s_law) := ⟨rfl, rfl, rfl, by decide +kernel, rfl, by decide +kernel, by decide +kernel⟩
/-! ### what the top has written -/
structure Ad where
  f_is_whole : Addr
  d_is_whole : FuncData
  f_ratio : Addr
  d_ratio : FuncData
  f_is_ratio : Addr
  d_is_ratio : FuncData
  f_plus : Addr
  d_plus : FuncData
  f_opposite : Addr
  d_opposite : FuncData
  f_minus : Addr
  d_minus : FuncData
  f_times : Addr
  d_times : FuncData
  f_over : Addr
  d_over : FuncData
  f_sign : Addr
  d_sign : FuncData
  f_is_less : Addr
  d_is_less : FuncData
  f_law : Addr
  d_law : FuncData
  C_NotNumber : Addr
  vd_ratio : List Value
structure Txt (K : PySem.W.Frag) (mg : Str → Option Value) (A : Ad) : Prop where
  F_is_whole : Fd K "is_whole" "is_whole" s_is_whole A.f_is_whole A.d_is_whole
  g_is_whole : mg "is_whole" = some (.ref A.f_is_whole)
  k_is_whole : PySem.W.keepIn K (.ref A.f_is_whole) = true
  b_is_whole : Binds K A.d_is_whole ["value"] []
  F_ratio : Fd K "ratio" "ratio" s_ratio A.f_ratio A.d_ratio
  g_ratio : mg "ratio" = some (.ref A.f_ratio)
  k_ratio : PySem.W.keepIn K (.ref A.f_ratio) = true
  b_ratio : Binds K A.d_ratio ["above", "below"] []
  F_is_ratio : Fd K "is_ratio" "is_ratio" s_is_ratio A.f_is_ratio A.d_is_ratio
  g_is_ratio : mg "is_ratio" = some (.ref A.f_is_ratio)
  k_is_ratio : PySem.W.keepIn K (.ref A.f_is_ratio) = true
  b_is_ratio : Binds K A.d_is_ratio ["value"] []
  F_plus : Fd K "plus" "plus" s_plus A.f_plus A.d_plus
  g_plus : mg "plus" = some (.ref A.f_plus)
  k_plus : PySem.W.keepIn K (.ref A.f_plus) = true
  b_plus : Binds K A.d_plus ["one", "other"] []
  F_opposite : Fd K "opposite" "opposite" s_opposite A.f_opposite A.d_opposite
  g_opposite : mg "opposite" = some (.ref A.f_opposite)
  k_opposite : PySem.W.keepIn K (.ref A.f_opposite) = true
  b_opposite : Binds K A.d_opposite ["one"] []
  F_minus : Fd K "minus" "minus" s_minus A.f_minus A.d_minus
  g_minus : mg "minus" = some (.ref A.f_minus)
  k_minus : PySem.W.keepIn K (.ref A.f_minus) = true
  b_minus : Binds K A.d_minus ["one", "other"] []
  F_times : Fd K "times" "times" s_times A.f_times A.d_times
  g_times : mg "times" = some (.ref A.f_times)
  k_times : PySem.W.keepIn K (.ref A.f_times) = true
  b_times : Binds K A.d_times ["one", "other"] []
  F_over : Fd K "over" "over" s_over A.f_over A.d_over
  g_over : mg "over" = some (.ref A.f_over)
  k_over : PySem.W.keepIn K (.ref A.f_over) = true
  b_over : Binds K A.d_over ["one", "other"] []
  F_sign : Fd K "sign" "sign" s_sign A.f_sign A.d_sign
  g_sign : mg "sign" = some (.ref A.f_sign)
  k_sign : PySem.W.keepIn K (.ref A.f_sign) = true
  b_sign : Binds K A.d_sign ["one"] []
  F_is_less : Fd K "is_less" "is_less" s_is_less A.f_is_less A.d_is_less
  g_is_less : mg "is_less" = some (.ref A.f_is_less)
  k_is_less : PySem.W.keepIn K (.ref A.f_is_less) = true
  b_is_less : Binds K A.d_is_less ["one", "other"] []
  F_law : Fd K "law" "law" s_law A.f_law A.d_law
  g_law : mg "law" = some (.ref A.f_law)
  k_law : PySem.W.keepIn K (.ref A.f_law) = true
  b_law : Binds K A.d_law ["script"] []
  vd_ratio : Vals [.int 1] A.vd_ratio
  bd_ratio : Binds K A.d_ratio ["above", "below"] A.vd_ratio
  g_NotNumber : mg "NotNumber" = some (.ref A.C_NotNumber)
  k_NotNumber : PySem.W.keepIn K (.ref A.C_NotNumber) = true
  x_NotNumber : PySem.W.excIn K A.C_NotNumber [.type "ValueError", .type "Exception", .type "BaseException", .type "object"] "ValueError.__new__" = true
  bx_NotNumber : PySem.W.subIn K (.ref A.C_NotNumber) (.type "BaseException") = some true
  tx_NotNumber : PySem.W.typeIn K (.ref A.C_NotNumber) = some (.type "type")
  m_NotNumber : PySem.W.exmOne K (.ref A.C_NotNumber) (.ref A.C_NotNumber) = some true
  z_abs : mg "abs" = none
  z_bool : mg "bool" = none
  z_int : mg "int" = none
  z_isinstance : mg "isinstance" = none
  z_len : mg "len" = none
  z_tuple : mg "tuple" = none
  g_gcd : mg "gcd" = some (.builtin "math.gcd")
abbrev sp_is_whole (K : PySem.W.Frag) (A : Ad) : Sp := spD K 1 (fun d : PyData => [d]) (fun _ => True) (fun d r => r = .bool (isI d && !isB d)) (fun _ _ => False)
theorem ok_is_whole {P : Program} {w : World} {K : PySem.W.Frag} {mg : Str → Option Value} {base : Heap} {A : Ad} (T : Txt K mg A)  :
    FnG P w K mg base 1 A.f_is_whole A.d_is_whole ["value"] (sp_is_whole K A) := by
  refine fn_data T.F_is_whole sc_is_whole rfl fun cdv A' outer s H E hgd hr => ⟨_, (pss_one (ps_ret (pe_and (pe_callB call_isi (by rfl) T.z_isinstance (by decide +kernel) (pa_cons (pv 0) (pa_cons (pe_bltn (v := .ty "int") (by rfl) T.z_int (by decide +kernel) rfl) pa_nil))) (pe_one (pe_not (pe_callB call_isi (by rfl) T.z_isinstance (by decide +kernel) (pa_cons (pv 0) (pa_cons (pe_bltn (v := .ty "bool") (by rfl) T.z_bool (by decide +kernel) rfl) pa_nil)))))))), ?_⟩
  intro d _
  show SX K _ _ [.dat d] _
  dsimp only [bodyK]
  repeat walk_at "m3"
  refine ⟨fun h => ?_, fun h => ?_⟩
  · repeat walk_at "m3"
    rw [h, Bool.true_and]
  · refine ⟨_, rfl, ?_⟩
    rw [h, Bool.false_and]
abbrev sp_ratio (K : PySem.W.Frag) (A : Ad) : Sp := spD K 2 (fun p : Int × Int => [.int p.1, .int p.2]) (fun p => Bd 9000 p.1 ∧ Bd 9000 p.2) (fun p r => p.2 ≠ 0 ∧ r = dR (Rat.divInt p.1 p.2)) (fun p C => p.2 = 0 ∧ C = .ref A.C_NotNumber)
theorem ok_ratio {P : Program} {w : World} {K : PySem.W.Frag} {mg : Str → Option Value} {base : Heap} {A : Ad} (T : Txt K mg A)  :
    FnG P w K mg base 1 A.f_ratio A.d_ratio ["above", "below"] (sp_ratio K A) := by
  refine fn_data T.F_ratio sc_ratio rfl fun cdv A' outer s H E hgd hr => ⟨_, (pss_cons (ps_if (pt_cmpR (op_eqD hr.units) (pv 1) pe_int (nomark _)) (pss_one (ps_raise rfl (takes_of rfl rfl rfl rfl) (pmk_own PySem.F.excBase_ValueError T.x_NotNumber T.g_NotNumber T.k_NotNumber (raises_own T.bx_NotNumber T.tx_NotNumber) rfl))) pss_nil)
  (pss_cons (ps_set (i := 2) sc_ratio.nd rfl (.inl rfl) (pe_callBfun cr_gcd (by rfl) T.g_gcd (pa_cons (pv 0) (pa_cons (pv 1) pa_nil))))
  (pss_cons (ps_if (pt_cmpR op_lt (pv 1) pe_int (nomark _)) (pss_one (ps_set (i := 2) sc_ratio.nd rfl (.inl rfl) (pe_un un_neg (pv 2)))) pss_nil)
  (pss_one (ps_ret (pe_tup (pa_cons (pe_op op_fdX (pv 0) (pv 2)) (pa_cons (pe_op op_fdX (pv 1) (pv 2)) pa_nil)))))))), ?_⟩
  rintro ⟨a, b⟩ ⟨ha, hb⟩
  show SX K _ _ [.dat (.int a), .dat (.int b), .no] _
  dsimp only [bodyK] at *
  repeat walk_at "m3"
  refine ⟨fun h => ?_, fun h => ?_⟩
  · walk_at "m3s"
    repeat walk_at "m3"
    exact ⟨h, rfl⟩
  · walk_at "m3s"
    have g1 := gcd_lt (a := a) h hb
    have g0 : 0 < Nat.gcd a.natAbs b.natAbs := Nat.gcd_pos_of_pos_right _ (by omega)
    repeat walk_at "m3"
    refine ⟨fun hn => ?_, fun hn => ?_⟩
    · walk_at "m3s"
      have lg : (-((Nat.gcd a.natAbs b.natAbs : Nat) : Int)).natAbs.log2 < 9000 := log_lt g1.neg (by decide)
      repeat walk_at "m3"
      refine rx_Ci ⟨by omega, lg⟩ ?_
      repeat walk_at "m3"
      refine rx_Ci ⟨by omega, lg⟩ ?_
      repeat walk_at "m3"
      exact ⟨h, dR_neg hn⟩
    · walk_at "m3s"
      have lg : ((Nat.gcd a.natAbs b.natAbs : Nat) : Int).natAbs.log2 < 9000 := log_lt g1 (by decide)
      repeat walk_at "m3"
      refine rx_Ci ⟨by omega, lg⟩ ?_
      repeat walk_at "m3"
      refine rx_Ci ⟨by omega, lg⟩ ?_
      repeat walk_at "m3"
      exact ⟨h, dR_pos (by omega)⟩
abbrev sp_is_ratio (K : PySem.W.Frag) (A : Ad) : Sp := spD K 1 (fun p : Rat => [dR p]) (fun _ => True) (fun p r => r = .bool true) (fun _ _ => False)
theorem ok_is_ratio {P : Program} {w : World} {K : PySem.W.Frag} {mg : Str → Option Value} {base : Heap} {A : Ad} (T : Txt K mg A) (G_is_whole : FnG P w K mg base 1 A.f_is_whole A.d_is_whole ["value"] (sp_is_whole K A)) :
    FnG P w K mg base 2 A.f_is_ratio A.d_is_ratio ["value"] (sp_is_ratio K A) := by
  refine fn_data T.F_is_ratio sc_is_ratio rfl fun cdv A' outer s H E hgd hr => ⟨_, (pss_cons (ps_if (PW.pt (pw_or (pt_not (pt_val (pe_callB call_isi (by rfl) T.z_isinstance (by decide +kernel) (pa_cons (pv 0) (pa_cons (pe_bltn (v := .ty "tuple") (by rfl) T.z_tuple (by decide +kernel) rfl) pa_nil))))) (pw_or1 (pt_cmpR (op_neD hr.units) (pe_callB call_len_seq (by rfl) T.z_len (by decide +kernel) (pa_cons (pv 0) pa_nil)) pe_int (nomark _))))) (pss_one (ps_ret pe_bl)) pss_nil)
  (pss_cons (ps_asg (pv 0) (pg_tup (by rfl) (pgs_cons (pg_name (i := 1) sc_is_ratio.nd rfl (.inl rfl)) (pgs_cons (pg_name (i := 2) sc_is_ratio.nd rfl (.inl rfl)) pgs_nil))))
  (pss_one (ps_ret (pe_and (pe_G G_is_whole hgd (hr.mono (by decide)) (by rfl) T.g_is_whole T.k_is_whole T.b_is_whole .nil (fun σ => passAt (takes_of rfl rfl rfl rfl) σ) (pa_cons (pv 1) pa_nil)) (pe_and (pe_G G_is_whole hgd (hr.mono (by decide)) (by rfl) T.g_is_whole T.k_is_whole T.b_is_whole .nil (fun σ => passAt (takes_of rfl rfl rfl rfl) σ) (pa_cons (pv 2) pa_nil)) (pe_and (pe_cmpR op_ge (pv 2) pe_int (nomark _)) (pe_one (pe_cmpR (op_eqD hr.units) (pe_callBfun cr_gcd (by rfl) T.g_gcd (pa_cons (pv 1) (pa_cons (pv 2) pa_nil))) pe_int (nomark _)))))))))), ?_⟩
  intro p _
  show SX K _ _ [.dat (dR p), .no, .no] _
  dsimp only [bodyK] at *
  refine sx_guard false ?_ (fun h => by cases h) (fun h => ?_)
  · repeat walk_at "m3"
    refine ⟨fun h => absurd (show false = true from h) Bool.false_ne_true, fun _ => ?_⟩
    repeat walk_at "m3"
    exact ⟨rfl, rfl⟩
  · repeat walk_at "m3"
    refine sx_unpack (n := 2) (is := [1, 2]) ?_ rfl
    refine ex_var rfl ⟨[_, _], rfl, rfl, ?_⟩
    refine sx_ret ?_
    refine ex_andV (ex_call (fun _ => .nil) ?_)
    repeat walk_at "m3"
    refine ⟨[_], .int p.num, rfl, rfl, rfl, trivial, fun d hd => ⟨true, congrArg Vw.d hd, fun _ => ?_, fun z => by cases z⟩, fun C hC => hC⟩
    refine ex_andV (ex_call (fun _ => .nil) ?_)
    repeat walk_at "m3"
    refine ⟨[_], .int p.den, rfl, rfl, rfl, trivial, fun d hd => ⟨true, congrArg Vw.d hd, fun _ => ?_, fun z => by cases z⟩, fun C hC => hC⟩
    repeat walk_at "m3"
    have hpos := p.den_pos
    refine ⟨fun _ => ?_, fun h => absurd (of_decide_eq_false h) (by omega)⟩
    repeat walk_at "m3"
    rw [eqv_int]
    have hc : Nat.gcd p.num.natAbs p.den = 1 := p.reduced
    show PyData.bool (((Nat.gcd p.num.natAbs p.den : Nat) : Int) == 1) = .bool true
    rw [hc]
    rfl
abbrev sp_plus (K : PySem.W.Frag) (A : Ad) : Sp := spD K 2 (fun p : Rat × Rat => [dR p.1, dR p.2]) (fun p => Sz 4000 p.1 ∧ Sz 4000 p.2) (fun p r => r = dR (p.1 + p.2)) (fun _ _ => False)
theorem ok_plus {P : Program} {w : World} {K : PySem.W.Frag} {mg : Str → Option Value} {base : Heap} {A : Ad} (T : Txt K mg A) (G_ratio : FnG P w K mg base 1 A.f_ratio A.d_ratio ["above", "below"] (sp_ratio K A)) :
    FnG P w K mg base 2 A.f_plus A.d_plus ["one", "other"] (sp_plus K A) := by
  refine fn_data T.F_plus sc_plus rfl fun cdv A' outer s H E hgd hr => ⟨_, (pss_cons (ps_if (PW.pt (pw_and (pt_cmpR (op_eqD hr.units) (pe_ix ix_tup (pv 0) pe_int (fun _ _ => rfl)) pe_int (nomark _)) (pw_and1 (pt_cmpR (op_eqD hr.units) (pe_ix ix_tup (pv 1) pe_int (fun _ _ => rfl)) pe_int (nomark _))))) (pss_one (ps_ret (pe_tup (pa_cons (pe_op op_add (pe_ix ix_tup (pv 0) pe_int (fun _ _ => rfl)) (pe_ix ix_tup (pv 1) pe_int (fun _ _ => rfl))) (pa_cons pe_int pa_nil))))) pss_nil)
  (pss_one (ps_ret (pe_G G_ratio hgd (hr.mono (by decide)) (by rfl) T.g_ratio T.k_ratio T.b_ratio .nil (fun σ => passAt (takes_of rfl rfl rfl rfl) σ) (pa_cons (pe_op op_add (pe_op op_mulW (pe_ix ix_tup (pv 0) pe_int (fun _ _ => rfl)) (pe_ix ix_tup (pv 1) pe_int (fun _ _ => rfl))) (pe_op op_mulW (pe_ix ix_tup (pv 1) pe_int (fun _ _ => rfl)) (pe_ix ix_tup (pv 0) pe_int (fun _ _ => rfl)))) (pa_cons (pe_op op_mulW (pe_ix ix_tup (pv 0) pe_int (fun _ _ => rfl)) (pe_ix ix_tup (pv 1) pe_int (fun _ _ => rfl))) pa_nil)))))), ?_⟩
  rintro ⟨p, q⟩ ⟨hp, hq⟩
  show SX K _ _ [.dat (dR p), .dat (dR q)] _
  dsimp only [bodyK] at *
  refine sx_guard (decide (p.den = 1 ∧ q.den = 1)) ?_ (fun h => ?_) (fun h => ?_)
  · repeat walk_at "m3"
    refine ⟨fun h1 => ?_, fun h1 => ?_⟩
    · walk_at "m3s"
      repeat walk_at "m3"
      rw [eqv_int]
      by_cases c : q.den = 1
      · simp [c, show p.den = 1 by omega]
      · have : ¬ (q.den : Int) = 1 := by omega
        simp [c, this]
    · walk_at "m3s"
      have : ¬ p.den = 1 := by omega
      simp [this]
  · obtain ⟨c1, c2⟩ := of_decide_eq_true h
    obtain ⟨e1, e2⟩ := num_of_den_one (p := p) (q := q) c1 c2
    repeat walk_at "m3"
    show PyData.tuple _ = PyData.tuple _
    rw [e1, e2]
    rfl
  · refine sx_ret (ex_call (fun _ => .nil) ?_)
    repeat walk_at "m3"
    refine rx_Ci (mulW hp.num hq.den (by decide)) ?_
    repeat walk_at "m3"
    refine rx_Ci (mulW hq.num hp.den (by decide)) ?_
    repeat walk_at "m3"
    refine rx_Ci (mulW hp.den hq.den (by decide)) ?_
    repeat walk_at "m3"
    refine ⟨[_, _], (p.num * q.den + q.num * p.den, p.den * q.den), rfl, rfl, rfl, ⟨((hp.num.mul hq.den).add (hq.num.mul hp.den)).mono (by decide), (hp.den.mul hq.den).mono (by decide)⟩, fun d hd => ?_, fun C hC => ?_⟩
    · exact ⟨_, rfl, hd.2.trans (congrArg dR (divInt_add p q))⟩
    · exact Int.mul_ne_zero (den_ne p) (den_ne q) hC.1
abbrev sp_opposite (K : PySem.W.Frag) (A : Ad) : Sp := spD K 1 (fun p : Rat => [dR p]) (fun _ => True) (fun p r => r = dR (-p)) (fun _ _ => False)
theorem ok_opposite {P : Program} {w : World} {K : PySem.W.Frag} {mg : Str → Option Value} {base : Heap} {A : Ad} (T : Txt K mg A)  :
    FnG P w K mg base 1 A.f_opposite A.d_opposite ["one"] (sp_opposite K A) := by
  refine fn_data T.F_opposite sc_opposite rfl fun cdv A' outer s H E hgd hr => ⟨_, (pss_one (ps_ret (pe_tup (pa_cons (pe_un un_neg (pe_ix ix_tup (pv 0) pe_int (fun _ _ => rfl))) (pa_cons (pe_ix ix_tup (pv 0) pe_int (fun _ _ => rfl)) pa_nil))))), ?_⟩
  intro p _
  show SX K _ _ [.dat (dR p)] _
  dsimp only [bodyK] at *
  repeat walk_at "m3"
  rfl
abbrev sp_minus (K : PySem.W.Frag) (A : Ad) : Sp := spD K 2 (fun p : Rat × Rat => [dR p.1, dR p.2]) (fun p => Sz 4000 p.1 ∧ Sz 4000 p.2) (fun p r => r = dR (p.1 - p.2)) (fun _ _ => False)
theorem ok_minus {P : Program} {w : World} {K : PySem.W.Frag} {mg : Str → Option Value} {base : Heap} {A : Ad} (T : Txt K mg A) (G_plus : FnG P w K mg base 2 A.f_plus A.d_plus ["one", "other"] (sp_plus K A)) (G_opposite : FnG P w K mg base 1 A.f_opposite A.d_opposite ["one"] (sp_opposite K A)) :
    FnG P w K mg base 3 A.f_minus A.d_minus ["one", "other"] (sp_minus K A) := by
  refine fn_data T.F_minus sc_minus rfl fun cdv A' outer s H E hgd hr => ⟨_, (pss_one (ps_ret (pe_G G_plus hgd (hr.mono (by decide)) (by rfl) T.g_plus T.k_plus T.b_plus .nil (fun σ => passAt (takes_of rfl rfl rfl rfl) σ) (pa_cons (pv 0) (pa_cons (pe_G G_opposite hgd (hr.mono (by decide)) (by rfl) T.g_opposite T.k_opposite T.b_opposite .nil (fun σ => passAt (takes_of rfl rfl rfl rfl) σ) (pa_cons (pv 1) pa_nil)) pa_nil))))), ?_⟩
  rintro ⟨p, q⟩ ⟨hp, hq⟩
  show SX K _ _ [.dat (dR p), .dat (dR q)] _
  dsimp only [bodyK] at *
  refine sx_ret (ex_call (fun _ => .nil) ?_)
  repeat walk_at "m3"
  refine ex_call (fun _ => .nil) ?_
  repeat walk_at "m3"
  refine ⟨[_], q, rfl, rfl, rfl, trivial, fun d hd => ?_, fun C hC => hC⟩
  subst hd
  repeat walk_at "m3"
  refine ⟨[_, _], (p, -q), rfl, rfl, rfl, ⟨hp, sz_neg hq⟩, fun d hd => ?_, fun C hC => hC⟩
  exact ⟨_, rfl, by rw [hd, Rat.sub_eq_add_neg]⟩
abbrev sp_times (K : PySem.W.Frag) (A : Ad) : Sp := spD K 2 (fun p : Rat × Rat => [dR p.1, dR p.2]) (fun p => Sz 4000 p.1 ∧ Sz 4000 p.2) (fun p r => r = dR (p.1 * p.2)) (fun _ _ => False)
theorem ok_times {P : Program} {w : World} {K : PySem.W.Frag} {mg : Str → Option Value} {base : Heap} {A : Ad} (T : Txt K mg A) (G_ratio : FnG P w K mg base 1 A.f_ratio A.d_ratio ["above", "below"] (sp_ratio K A)) :
    FnG P w K mg base 2 A.f_times A.d_times ["one", "other"] (sp_times K A) := by
  refine fn_data T.F_times sc_times rfl fun cdv A' outer s H E hgd hr => ⟨_, (pss_cons (ps_if (PW.pt (pw_and (pt_cmpR (op_eqD hr.units) (pe_ix ix_tup (pv 0) pe_int (fun _ _ => rfl)) pe_int (nomark _)) (pw_and1 (pt_cmpR (op_eqD hr.units) (pe_ix ix_tup (pv 1) pe_int (fun _ _ => rfl)) pe_int (nomark _))))) (pss_one (ps_ret (pe_tup (pa_cons (pe_op op_mulW (pe_ix ix_tup (pv 0) pe_int (fun _ _ => rfl)) (pe_ix ix_tup (pv 1) pe_int (fun _ _ => rfl))) (pa_cons pe_int pa_nil))))) pss_nil)
  (pss_one (ps_ret (pe_G G_ratio hgd (hr.mono (by decide)) (by rfl) T.g_ratio T.k_ratio T.b_ratio .nil (fun σ => passAt (takes_of rfl rfl rfl rfl) σ) (pa_cons (pe_op op_mulW (pe_ix ix_tup (pv 0) pe_int (fun _ _ => rfl)) (pe_ix ix_tup (pv 1) pe_int (fun _ _ => rfl))) (pa_cons (pe_op op_mulW (pe_ix ix_tup (pv 0) pe_int (fun _ _ => rfl)) (pe_ix ix_tup (pv 1) pe_int (fun _ _ => rfl))) pa_nil)))))), ?_⟩
  rintro ⟨p, q⟩ ⟨hp, hq⟩
  show SX K _ _ [.dat (dR p), .dat (dR q)] _
  dsimp only [bodyK] at *
  refine sx_guard (decide (p.den = 1 ∧ q.den = 1)) ?_ (fun h => ?_) (fun h => ?_)
  · repeat walk_at "m3"
    refine ⟨fun h1 => ?_, fun h1 => ?_⟩
    · walk_at "m3s"
      repeat walk_at "m3"
      rw [eqv_int]
      by_cases c : q.den = 1
      · simp [c, show p.den = 1 by omega]
      · have : ¬ (q.den : Int) = 1 := by omega
        simp [c, this]
    · walk_at "m3s"
      have : ¬ p.den = 1 := by omega
      simp [this]
  · obtain ⟨c1, c2⟩ := of_decide_eq_true h
    obtain ⟨e1, e2⟩ := mul_of_den_one (p := p) (q := q) c1 c2
    repeat walk_at "m3"
    refine rx_Ci (mulW hp.num hq.num (by decide)) ?_
    repeat walk_at "m3"
    show PyData.tuple _ = PyData.tuple _
    rw [e1, e2]
    rfl
  · refine sx_ret (ex_call (fun _ => .nil) ?_)
    repeat walk_at "m3"
    refine rx_Ci (mulW hp.num hq.num (by decide)) ?_
    repeat walk_at "m3"
    refine rx_Ci (mulW hp.den hq.den (by decide)) ?_
    repeat walk_at "m3"
    refine ⟨[_, _], (p.num * q.num, p.den * q.den), rfl, rfl, rfl, ⟨(hp.num.mul hq.num).mono (by decide), (hp.den.mul hq.den).mono (by decide)⟩, fun d hd => ?_, fun C hC => ?_⟩
    · exact ⟨_, rfl, hd.2.trans (congrArg dR (divInt_mul p q))⟩
    · exact Int.mul_ne_zero (den_ne p) (den_ne q) hC.1
abbrev sp_over (K : PySem.W.Frag) (A : Ad) : Sp := spD K 2 (fun p : Rat × Rat => [dR p.1, dR p.2]) (fun p => Sz 4000 p.1 ∧ Sz 4000 p.2) (fun p r => p.2 ≠ 0 ∧ r = dR (p.1 / p.2)) (fun p C => p.2 = 0 ∧ C = .ref A.C_NotNumber)
theorem ok_over {P : Program} {w : World} {K : PySem.W.Frag} {mg : Str → Option Value} {base : Heap} {A : Ad} (T : Txt K mg A) (G_ratio : FnG P w K mg base 1 A.f_ratio A.d_ratio ["above", "below"] (sp_ratio K A)) :
    FnG P w K mg base 2 A.f_over A.d_over ["one", "other"] (sp_over K A) := by
  refine fn_data T.F_over sc_over rfl fun cdv A' outer s H E hgd hr => ⟨_, (pss_one (ps_ret (pe_G G_ratio hgd (hr.mono (by decide)) (by rfl) T.g_ratio T.k_ratio T.b_ratio .nil (fun σ => passAt (takes_of rfl rfl rfl rfl) σ) (pa_cons (pe_op op_mulW (pe_ix ix_tup (pv 0) pe_int (fun _ _ => rfl)) (pe_ix ix_tup (pv 1) pe_int (fun _ _ => rfl))) (pa_cons (pe_op op_mulW (pe_ix ix_tup (pv 0) pe_int (fun _ _ => rfl)) (pe_ix ix_tup (pv 1) pe_int (fun _ _ => rfl))) pa_nil))))), ?_⟩
  rintro ⟨p, q⟩ ⟨hp, hq⟩
  show SX K _ _ [.dat (dR p), .dat (dR q)] _
  dsimp only [bodyK] at *
  refine sx_ret (ex_call (fun _ => .nil) ?_)
  repeat walk_at "m3"
  refine rx_Ci (mulW hp.num hq.den (by decide)) ?_
  repeat walk_at "m3"
  refine rx_Ci (mulW hp.den hq.num (by decide)) ?_
  repeat walk_at "m3"
  refine ⟨[_, _], (p.num * q.den, p.den * q.num), rfl, rfl, rfl, ⟨(hp.num.mul hq.den).mono (by decide), (hp.den.mul hq.num).mono (by decide)⟩, fun d hd => ?_, fun C hC => ?_⟩
  · have hq0 : q ≠ 0 := fun z => hd.1 (by rw [z]; exact Int.mul_zero _)
    exact ⟨_, rfl, hq0, hd.2.trans (congrArg dR (divInt_div p q hq0))⟩
  · refine ⟨?_, hC.2⟩
    rcases Int.mul_eq_zero.mp hC.1 with z | z
    · exact absurd z (den_ne p)
    · exact Rat.num_eq_zero.mp z
abbrev sp_sign (K : PySem.W.Frag) (A : Ad) : Sp := spD K 1 (fun p : Rat => [dR p]) (fun _ => True) (fun p r => r = .int (if p < 0 then -1 else if 0 < p then 1 else 0)) (fun _ _ => False)
theorem ok_sign {P : Program} {w : World} {K : PySem.W.Frag} {mg : Str → Option Value} {base : Heap} {A : Ad} (T : Txt K mg A)  :
    FnG P w K mg base 1 A.f_sign A.d_sign ["one"] (sp_sign K A) := by
  refine fn_data T.F_sign sc_sign rfl fun cdv A' outer s H E hgd hr => ⟨_, (pss_cons (ps_if (pt_cmpR op_lt (pe_ix ix_tup (pv 0) pe_int (fun _ _ => rfl)) pe_int (nomark _)) (pss_one (ps_ret (pe_un un_neg pe_int))) pss_nil)
  (pss_one (ps_ret (pe_ifExp (pt_cmpR op_gt (pe_ix ix_tup (pv 0) pe_int (fun _ _ => rfl)) pe_int (nomark _)) pe_int pe_int)))), ?_⟩
  intro p _
  show SX K _ _ [.dat (dR p)] _
  dsimp only [bodyK] at *
  refine sx_guard (decide (p < 0)) ?_ (fun h => ?_) (fun h => ?_)
  · repeat walk_at "m3"
    exact ⟨decide_eq_decide.mpr (neg_iff p).symm, rfl⟩
  · repeat walk_at "m3"
    rw [if_pos (of_decide_eq_true h)]
  · repeat walk_at "m3"
    have h1 : ¬ p < 0 := of_decide_eq_false h
    rw [if_neg h1]
    refine ⟨fun c => ?_, fun c => ?_⟩
    · repeat walk_at "m3"
      rw [if_pos ((pos_iff p).mpr (of_decide_eq_true c))]
    · repeat walk_at "m3"
      rw [if_neg (fun z => of_decide_eq_false c ((pos_iff p).mp z))]
abbrev sp_is_less (K : PySem.W.Frag) (A : Ad) : Sp := spD K 2 (fun p : Rat × Rat => [dR p.1, dR p.2]) (fun p => Sz 4000 p.1 ∧ Sz 4000 p.2) (fun p r => r = .bool (decide (p.1 < p.2))) (fun _ _ => False)
theorem ok_is_less {P : Program} {w : World} {K : PySem.W.Frag} {mg : Str → Option Value} {base : Heap} {A : Ad} (T : Txt K mg A)  :
    FnG P w K mg base 1 A.f_is_less A.d_is_less ["one", "other"] (sp_is_less K A) := by
  refine fn_data T.F_is_less sc_is_less rfl fun cdv A' outer s H E hgd hr => ⟨_, (pss_one (ps_ret (pe_cmpR op_lt (pe_op op_mulW (pe_ix ix_tup (pv 0) pe_int (fun _ _ => rfl)) (pe_ix ix_tup (pv 1) pe_int (fun _ _ => rfl))) (pe_op op_mulW (pe_ix ix_tup (pv 1) pe_int (fun _ _ => rfl)) (pe_ix ix_tup (pv 0) pe_int (fun _ _ => rfl))) (nomark _)))), ?_⟩
  rintro ⟨p, q⟩ ⟨hp, hq⟩
  show SX K _ _ [.dat (dR p), .dat (dR q)] _
  dsimp only [bodyK] at *
  repeat walk_at "m3"
  refine rx_Ci (mulW hp.num hq.den (by decide)) ?_
  repeat walk_at "m3"
  refine rx_Ci (mulW hq.num hp.den (by decide)) ?_
  repeat walk_at "m3"
  exact congrArg PyData.bool (decide_eq_decide.mpr (Rat.lt_iff p q).symm)
abbrev sp_law (K : PySem.W.Frag) (A : Ad) : Sp := spScript K
theorem ok_law {P : Program} {w : World} {K : PySem.W.Frag} {mg : Str → Option Value} {base : Heap} {A : Ad} (T : Txt K mg A) (G_ratio : FnG P w K mg base 1 A.f_ratio A.d_ratio ["above", "below"] (sp_ratio K A)) (G_plus : FnG P w K mg base 2 A.f_plus A.d_plus ["one", "other"] (sp_plus K A)) (G_sign : FnG P w K mg base 1 A.f_sign A.d_sign ["one"] (sp_sign K A)) (G_times : FnG P w K mg base 2 A.f_times A.d_times ["one", "other"] (sp_times K A)) (G_is_ratio : FnG P w K mg base 2 A.f_is_ratio A.d_is_ratio ["value"] (sp_is_ratio K A)) (G_minus : FnG P w K mg base 3 A.f_minus A.d_minus ["one", "other"] (sp_minus K A)) (G_over : FnG P w K mg base 2 A.f_over A.d_over ["one", "other"] (sp_over K A)) (G_is_less : FnG P w K mg base 1 A.f_is_less A.d_is_less ["one", "other"] (sp_is_less K A)) :
    FnG P w K mg base 4 A.f_law A.d_law ["script"] (sp_law K A) := by
  refine fn_data T.F_law sc_law rfl fun cdv A' outer s H E hgd hr => ⟨_, (pss_cons (ps_set (i := 1) sc_law.nd rfl (.inl rfl) (pe_op op_catL (pe_lc (own := [("cell", 5)]) (g := (gName 5)) (by rfl) sc_law.nd (pi_list (pe_slice sl_list (pv 0) po_none (po_some pe_int))) (blkOk_by (own := [("cell", 5)]) (N := ["script", "numbers", "one", "other", "both", "cell"]) (sc := defScope s_law) (by decide +kernel)) (fun _ _ _ _ _ => (pg_name (i := 5) sc_law.nd rfl (.inl rfl))) (fun _ _ _ _ _ => pts_nil) (fun _ _ _ _ _ => (pe_op op_sub (pe_op op_modN (pe_callB call_abs (by rfl) T.z_abs (by decide +kernel) (pa_cons (pv 5) pa_nil)) pe_int) pe_int))) (pe_lst (pa_cons pe_int (pa_cons pe_int (pa_cons (pe_un un_neg pe_int) (pa_cons pe_int pa_nil)))))))
  (pss_cons (ps_set (i := 2) sc_law.nd rfl (.inl rfl) (pe_G G_ratio hgd (hr.mono (by decide)) (by rfl) T.g_ratio T.k_ratio T.b_ratio .nil (fun σ => passAt (takes_of rfl rfl rfl rfl) σ) (pa_cons (pe_ix ix_list (pv 1) pe_int (fun _ _ => rfl)) (pa_cons (pe_orT (pe_ix ix_list (pv 1) pe_int (fun _ _ => rfl)) (pe_one pe_int)) pa_nil))))
  (pss_cons (ps_set (i := 3) sc_law.nd rfl (.inl rfl) (pe_G G_ratio hgd (hr.mono (by decide)) (by rfl) T.g_ratio T.k_ratio T.b_ratio .nil (fun σ => passAt (takes_of rfl rfl rfl rfl) σ) (pa_cons (pe_ix ix_list (pv 1) pe_int (fun _ _ => rfl)) (pa_cons (pe_orT (pe_ix ix_list (pv 1) pe_int (fun _ _ => rfl)) (pe_one pe_int)) pa_nil))))
  (pss_cons (ps_if (PW.pt (pw_or (pt_not (pt_val (pe_G G_is_ratio hgd (hr.mono (by decide)) (by rfl) T.g_is_ratio T.k_is_ratio T.b_is_ratio .nil (fun σ => passAt (takes_of rfl rfl rfl rfl) σ) (pa_cons (pv 2) pa_nil)))) (pw_or1 (pt_cmpR (op_neD hr.units) (pe_op op_mulW (pe_ix ix_tup (pv 2) pe_int (fun _ _ => rfl)) (pe_orT (pe_ix ix_list (pv 1) pe_int (fun _ _ => rfl)) (pe_one pe_int))) (pe_op op_mulW (pe_ix ix_list (pv 1) pe_int (fun _ _ => rfl)) (pe_ix ix_tup (pv 2) pe_int (fun _ _ => rfl))) (nomark _))))) (pss_one (ps_ret pe_bl)) pss_nil)
  (pss_cons (ps_set (i := 4) sc_law.nd rfl (.inl rfl) (pe_G G_plus hgd (hr.mono (by decide)) (by rfl) T.g_plus T.k_plus T.b_plus .nil (fun σ => passAt (takes_of rfl rfl rfl rfl) σ) (pa_cons (pv 2) (pa_cons (pv 3) pa_nil))))
  (pss_cons (ps_if (PW.pt (pw_or (pt_not (pt_val (pe_G G_is_ratio hgd (hr.mono (by decide)) (by rfl) T.g_is_ratio T.k_is_ratio T.b_is_ratio .nil (fun σ => passAt (takes_of rfl rfl rfl rfl) σ) (pa_cons (pv 4) pa_nil)))) (pw_or1 (pt_cmpR (op_neD hr.units) (pe_op op_mulW (pe_op op_mulW (pe_ix ix_tup (pv 4) pe_int (fun _ _ => rfl)) (pe_ix ix_tup (pv 2) pe_int (fun _ _ => rfl))) (pe_ix ix_tup (pv 3) pe_int (fun _ _ => rfl))) (pe_op op_mulW (pe_ix ix_tup (pv 4) pe_int (fun _ _ => rfl)) (pe_op op_add (pe_op op_mulW (pe_ix ix_tup (pv 2) pe_int (fun _ _ => rfl)) (pe_ix ix_tup (pv 3) pe_int (fun _ _ => rfl))) (pe_op op_mulW (pe_ix ix_tup (pv 3) pe_int (fun _ _ => rfl)) (pe_ix ix_tup (pv 2) pe_int (fun _ _ => rfl))))) (nomark _))))) (pss_one (ps_ret pe_bl)) pss_nil)
  (pss_cons (ps_if (PW.pt (pw_or (pt_cmpR (op_neD hr.units) (pe_G G_minus hgd (hr.mono (by decide)) (by rfl) T.g_minus T.k_minus T.b_minus .nil (fun σ => passAt (takes_of rfl rfl rfl rfl) σ) (pa_cons (pv 4) (pa_cons (pv 3) pa_nil))) (pv 2) (nomark _)) (pw_or1 (pt_cmpR (op_neD hr.units) (pe_G G_times hgd (hr.mono (by decide)) (by rfl) T.g_times T.k_times T.b_times .nil (fun σ => passAt (takes_of rfl rfl rfl rfl) σ) (pa_cons (pv 2) (pa_cons (pv 3) pa_nil))) (pe_G G_times hgd (hr.mono (by decide)) (by rfl) T.g_times T.k_times T.b_times .nil (fun σ => passAt (takes_of rfl rfl rfl rfl) σ) (pa_cons (pv 3) (pa_cons (pv 2) pa_nil))) (nomark _))))) (pss_one (ps_ret pe_bl)) pss_nil)
  (pss_cons (ps_if (pt_cmpR (op_neD hr.units) (pe_G G_sign hgd (hr.mono (by decide)) (by rfl) T.g_sign T.k_sign T.b_sign .nil (fun σ => passAt (takes_of rfl rfl rfl rfl) σ) (pa_cons (pe_G G_minus hgd (hr.mono (by decide)) (by rfl) T.g_minus T.k_minus T.b_minus .nil (fun σ => passAt (takes_of rfl rfl rfl rfl) σ) (pa_cons (pv 2) (pa_cons (pv 3) pa_nil))) pa_nil)) (pe_op op_sub (pe_callTy call_int1 (by rfl) T.z_int (by decide +kernel) (pa_cons (pe_G G_is_less hgd (hr.mono (by decide)) (by rfl) T.g_is_less T.k_is_less T.b_is_less .nil (fun σ => passAt (takes_of rfl rfl rfl rfl) σ) (pa_cons (pv 3) (pa_cons (pv 2) pa_nil))) pa_nil)) (pe_callTy call_int1 (by rfl) T.z_int (by decide +kernel) (pa_cons (pe_G G_is_less hgd (hr.mono (by decide)) (by rfl) T.g_is_less T.k_is_less T.b_is_less .nil (fun σ => passAt (takes_of rfl rfl rfl rfl) σ) (pa_cons (pv 2) (pa_cons (pv 3) pa_nil))) pa_nil))) (nomark _)) (pss_one (ps_ret pe_bl)) pss_nil)
  (pss_cons (ps_if (pt_cmpR (op_eqD hr.units) (pe_ix ix_tup (pv 3) pe_int (fun _ _ => rfl)) pe_int (nomark _)) (pss_one (ps_try_only (tb := _) rfl rfl ⟨rfl, by decide, .inl T.g_NotNumber⟩ (takes_of rfl rfl rfl rfl) (fun W pn xe tk _ => (pss_cons (ps_expr (pe_G G_over hgd (hr.mono (by decide)) (by rfl) T.g_over T.k_over T.b_over .nil (fun σ => passAt tk σ) (pa_cons (pv 2) (pa_cons (pv 3) pa_nil))))
  (pss_one (ps_ret pe_bl)))) (fun a oe cls d pn _ _ => (pss_one (ps_ret pe_bl))))) pss_nil)
  (pss_one (ps_ret (pe_cmpR (op_eqD hr.units) (pe_G G_times hgd (hr.mono (by decide)) (by rfl) T.g_times T.k_times T.b_times .nil (fun σ => passAt (takes_of rfl rfl rfl rfl) σ) (pa_cons (pe_G G_over hgd (hr.mono (by decide)) (by rfl) T.g_over T.k_over T.b_over .nil (fun σ => passAt (takes_of rfl rfl rfl rfl) σ) (pa_cons (pv 2) (pa_cons (pv 3) pa_nil))) (pa_cons (pv 3) pa_nil))) (pv 2) (nomark _))))))))))))), ?_⟩
  intro ns hl
  show SX K _ _ [.dat (.list (ns.map .int)), .no, .no, .no, .no, .no] _
  dsimp only [bodyK] at *
  refine sx_seq (sx_asg (ex_F (p := fun ds δ' => δ' = [.dat (.list (ns.map .int)), .no, .no, .no, .no, .no] ∧ ∃ ms : List Int, ds = ms.map .int ∧ 4 ≤ ms.length ∧ ∀ x ∈ ms, -500 ≤ x ∧ x ≤ 500) ?_ ?_))
  · refine fx_op (ex_F (p := fun ds δ' => δ' = [.dat (.list (ns.map .int)), .no, .no, .no, .no, .no] ∧ ∃ ms : List Int, ds = ms.map .int ∧ ms.length ≤ 63 ∧ ∀ x ∈ ms, -500 ≤ x ∧ x ≤ 500) (fx_lcL tgc_name (fun ds k acc δ' => δ' = [.dat (.list (ns.map .int)), .no, .no, .no, .no, .no] ∧ ∃ ms : List Int, acc = ms.map .int ∧ ms.length = k ∧ ∀ x ∈ ms, -500 ≤ x ∧ x ≤ 500) (ex_F (p := fun ds δ' => ds = (ns.take 4).map .int ∧ δ' = [.dat (.list (ns.map .int)), .no, .no, .no, .no, .no]) (fx_slL ?_) ?_)) ?_)
    · repeat walk_at "m3"
      refine ox_none ?_
      refine ox_some ?_
      repeat walk_at "m3"
      exact ⟨(cut_to _ 4).trans List.map_take.symm, rfl⟩
    · rintro ds δ' ⟨e1, e2⟩
      subst e1 e2
      refine ⟨_, rfl, ?_, ⟨rfl, [], rfl, rfl, fun _ h => by cases h⟩, ?_, ?_⟩
      · intro i hi p es z
        have e : i = 5 := by simpa using hi
        subst e
        cases z
      · rintro k d acc δ' hk ⟨e1, ms, e2, e3, e4⟩
        subst e1 e2
        rw [List.getElem?_map] at hk
        have hk4 := List.length_take_le 4 ns
        cases hn : (ns.take 4)[k]? with
        | none => rw [hn] at hk; cases hk
        | some n =>
          rw [hn] at hk
          cases hk
          refine ⟨trivial, tx_yes ⟨fun _ => ?_, fun z => by cases z⟩⟩
          repeat walk_at "m3"
          refine rx_Ci (by decide) ?_
          repeat walk_at "m3"
          have hlt := (List.getElem?_eq_some_iff.mp hn).1
          refine ⟨by rw [List.length_map]; omega, rfl, ms ++ [(if n < 0 then -n else n).fmod 1000 - 500], by rw [List.map_append]; rfl, by rw [List.length_append, e3]; rfl, fun x hx => ?_⟩
          rcases List.mem_append.mp hx with hx | hx
          · exact e4 x hx
          · have e : x = (if n < 0 then -n else n).fmod 1000 - 500 := by simpa using hx
            rw [Int.fmod_eq_emod_of_nonneg _ (by decide)] at e
            omega
      · rintro acc δ' ⟨e1, ms, e2, e3, e4⟩
        exact ⟨e1, ms, e2, by rw [e3]; simp; omega, e4⟩
    · rintro ds δ' ⟨e1, ms, e2, e3, e4⟩
      subst e1 e2
      refine ex_F (p := fun ds δ' => ds = [.int 3, .int 7, .int (-2), .int 5] ∧ δ' = [.dat (.list (ns.map .int)), .no, .no, .no, .no, .no]) (fx_lst ?_) ?_
      · repeat walk_at "m3"
        exact ⟨[_, _, _, _], rfl, Nat.le_of_ble_eq_true rfl, rfl, rfl⟩
      · rintro ds δ' ⟨e1, e2⟩
        subst e1 e2
        refine ⟨_, rf_cat (by rw [List.length_map]; simp; omega), rfl, ms ++ [3, 7, -2, 5], by simp, by simp, fun x hx => ?_⟩
        rcases List.mem_append.mp hx with hx | hx
        · exact e4 x hx
        · simp at hx
          omega
  · rintro ds δ' ⟨e1, ms, e2, e3, e4⟩
    subst e1 e2
    refine ⟨_, rfl, ?_⟩
    obtain ⟨n0, n1, n2, n3, r, rfl⟩ : ∃ n0 n1 n2 n3 r, ms = n0 :: n1 :: n2 :: n3 :: r := by
      match ms, e3 with
      | n0 :: n1 :: n2 :: n3 :: r, _ => exact ⟨n0, n1, n2, n3, r, rfl⟩
    have b0 := e4 n0 (by simp)
    have b1 := e4 n1 (by simp)
    have b2 := e4 n2 (by simp)
    have b3 := e4 n3 (by simp)
    generalize hL : (n0 :: n1 :: n2 :: n3 :: r).map PyData.int = L
    have g0 : atI L 0 = some (.int n0) := by rw [← hL]; exact atI_nat (j := 0) rfl
    have g1 : atI L 1 = some (.int n1) := by rw [← hL]; exact atI_nat (j := 1) rfl
    have g2 : atI L 2 = some (.int n2) := by rw [← hL]; exact atI_nat (j := 2) rfl
    have g3 : atI L 3 = some (.int n3) := by rw [← hL]; exact atI_nat (j := 3) rfl
    clear hL e3 e4
    have d1 : (if n1 = 0 then 1 else n1) ≠ 0 ∧ -500 ≤ (if n1 = 0 then 1 else n1) ∧ (if n1 = 0 then 1 else n1) ≤ 500 := by omega
    have d3 : (if n3 = 0 then 1 else n3) ≠ 0 ∧ -500 ≤ (if n3 = 0 then 1 else n3) ∧ (if n3 = 0 then 1 else n3) ≤ 500 := by omega
    generalize hm1 : (if n1 = 0 then 1 else n1) = m1 at d1
    generalize hm3 : (if n3 = 0 then 1 else n3) = m3 at d3
    have small : ∀ i : Int, -500 ≤ i → i ≤ 500 → Bd 9 i := fun i h1 h2 => ⟨by omega⟩
    have z1 : Sz 9 (Rat.divInt n0 m1) := sz_divInt (small _ b0.1 b0.2) (small _ d1.2.1 d1.2.2) d1.1
    have z3 : Sz 9 (Rat.divInt n2 m3) := sz_divInt (small _ b2.1 b2.2) (small _ d3.2.1 d3.2.2) d3.1
    -- one = ratio(..)
    refine sx_seq (sx_asg (ex_call (fun _ => .nil) ?_))
    refine ax_cons (ex_op (ex_var rfl (ex_int (rx_ixL g0 ?_))))
    refine ax_cons (ex_or1 (ex_op (ex_var rfl (ex_int (rx_ixL g1 ⟨_, rfl, ?_⟩)))))
    rw [hm1]
    refine ax_nil ⟨[_, _], (n0, m1), rfl, rfl, rfl, ⟨(small _ b0.1 b0.2).mono (by decide), (small _ d1.2.1 d1.2.2).mono (by decide)⟩, fun d hd => ⟨_, rfl, ?_⟩, fun C hC => d1.1 hC.1⟩
    obtain ⟨_, rfl⟩ := hd
    refine sx_seq (sx_asg (ex_call (fun _ => .nil) ?_))
    refine ax_cons (ex_op (ex_var rfl (ex_int (rx_ixL g2 ?_))))
    refine ax_cons (ex_or1 (ex_op (ex_var rfl (ex_int (rx_ixL g3 ⟨_, rfl, ?_⟩)))))
    rw [hm3]
    refine ax_nil ⟨[_, _], (n2, m3), rfl, rfl, rfl, ⟨(small _ b2.1 b2.2).mono (by decide), (small _ d3.2.1 d3.2.2).mono (by decide)⟩, fun d hd => ⟨_, rfl, ?_⟩, fun C hC => d3.1 hC.1⟩
    obtain ⟨_, rfl⟩ := hd
    have c1 : (Rat.divInt n0 m1).num * m1 = n0 * (Rat.divInt n0 m1).den := by
      have := num_divInt_den (Rat.divInt n0 m1)
      rw [Rat.divInt_eq_divInt_iff (den_ne _) d1.1] at this
      exact this
    have hm1' := hm1
    generalize Rat.divInt n0 m1 = p at z1 c1 ⊢
    generalize Rat.divInt n2 m3 = q at z3 ⊢
    dsimp only [List.set_cons_zero, List.set_cons_succ]
    -- is_ratio(one), one[0] * .. == ..
    have B1 : Bd 9 m1 := small _ d1.2.1 d1.2.2
    have B0 : Bd 9 n0 := small _ b0.1 b0.2
    refine sx_guard false ?_ (fun h => by cases h) (fun _ => ?_)
    · refine tx_or (tx_not (tx_B (ex_call (fun _ => .nil) ?_)))
      repeat walk_at "m3"
      refine ⟨[_], p, rfl, rfl, rfl, trivial, fun d hd => ⟨true, congrArg Vw.d hd, fun h => (by cases h), fun _ => ?_⟩, fun C hC => hC⟩
      refine tx_test (ex_op (ex_op (ex_op (ex_var rfl (ex_int (rx_ixT rfl ?_))))))
      refine ex_or1 (ex_op (ex_var rfl (ex_int (rx_ixL g1 ⟨_, rfl, ?_⟩))))
      rw [hm1]
      refine rx_Ci (mulW z1.num B1 (by decide)) (ex_op (ex_op (ex_var rfl (ex_int (rx_ixL g0 ?_)))))
      repeat walk_at "m3"
      refine rx_Ci (mulW B0 z1.den (by decide)) (rx_neD (shaped_int _) (shaped_int _) ⟨_, rfl, ?_, rfl⟩)
      rw [eqv_int, c1]
      simp
    -- both = plus(one, other)
    refine sx_seq (sx_asg ?_)
    refine ex_call (fun _ => .nil) ?_
    repeat walk_at "m3"
    refine ⟨[_, _], (p, q), rfl, rfl, rfl, ⟨z1.mono (by decide), z3.mono (by decide)⟩, fun d hd => ?_, fun C hC => hC.elim⟩
    subst hd
    refine ⟨_, rfl, ?_⟩
    dsimp only [List.set_cons_zero, List.set_cons_succ]
    have zb : Sz 19 (p + q) := sz_add z1 z3
    refine sx_guard false ?_ (fun h => by cases h) (fun _ => ?_)
    · refine tx_or (tx_not (tx_B (ex_call (fun _ => .nil) ?_)))
      repeat walk_at "m3"
      refine ⟨[_], p + q, rfl, rfl, rfl, trivial, fun d hd => ⟨true, congrArg Vw.d hd, fun h => (by cases h), fun _ => ?_⟩, fun C hC => hC⟩
      repeat walk_at "m3"
      refine rx_Ci (mulW zb.num z1.den (by decide)) ?_
      repeat walk_at "m3"
      refine rx_Ci (mulW (zb.num.mul z1.den) z3.den (by decide)) ?_
      repeat walk_at "m3"
      refine rx_Ci (mulW z1.num z3.den (by decide)) ?_
      repeat walk_at "m3"
      refine rx_Ci (mulW z3.num z1.den (by decide)) ?_
      repeat walk_at "m3"
      refine rx_Ci (mulW zb.den ((z1.num.mul z3.den).add (z3.num.mul z1.den)) (by decide)) ?_
      repeat walk_at "m3"
      refine ⟨?_, rfl⟩
      have h := num_divInt_den (p + q)
      rw [← divInt_add p q, Rat.divInt_eq_divInt_iff (den_ne _) (Int.mul_ne_zero (den_ne p) (den_ne q)), divInt_add p q] at h
      rw [eqv_int]
      have h2 : (p + q).num * (p.den : Int) * (q.den : Int) = ((p + q).den : Int) * (p.num * q.den + q.num * p.den) := by
        rw [Int.mul_assoc, h, Int.mul_comm]
      rw [h2]
      simp
    -- minus(both, other) == one, times both ways
    refine sx_guard false ?_ (fun h => by cases h) (fun _ => ?_)
    · refine tx_or (tx_test (ex_op ?_))
      refine ex_call (fun _ => .nil) ?_
      repeat walk_at "m3"
      refine ⟨[_, _], (p + q, q), rfl, rfl, rfl, ⟨zb.mono (by decide), z3.mono (by decide)⟩, fun d hd => ?_, fun C hC => hC.elim⟩
      subst hd
      refine ex_var rfl (rx_neD (shaped_dR _) (shaped_dR _) ⟨_, rfl, fun h => ?_, fun _ => ?_⟩)
      · rw [eqv_dR] at h
        have e : p + q - q = p := by grind
        rw [e] at h
        simp at h
      · refine tx_test (ex_op ?_)
        refine ex_call (fun _ => .nil) ?_
        repeat walk_at "m3"
        refine ⟨[_, _], (p, q), rfl, rfl, rfl, ⟨z1.mono (by decide), z3.mono (by decide)⟩, fun d hd => ?_, fun C hC => hC.elim⟩
        subst hd
        refine ex_call (fun _ => .nil) ?_
        repeat walk_at "m3"
        refine ⟨[_, _], (q, p), rfl, rfl, rfl, ⟨z3.mono (by decide), z1.mono (by decide)⟩, fun d hd => ?_, fun C hC => hC.elim⟩
        subst hd
        refine rx_neD (shaped_dR _) (shaped_dR _) ⟨_, rfl, ?_, rfl⟩
        rw [eqv_dR]
        have e : p * q = q * p := by grind
        simp [e]
    -- sign(minus(one, other)) == ..
    refine sx_guard false ?_ (fun h => by cases h) (fun _ => ?_)
    · refine tx_test (ex_op (ex_call (fun _ => .nil) ?_))
      refine ax_cons ?_
      refine ex_call (fun _ => .nil) ?_
      repeat walk_at "m3"
      refine ⟨[_, _], (p, q), rfl, rfl, rfl, ⟨z1.mono (by decide), z3.mono (by decide)⟩, fun d hd => ?_, fun C hC => hC.elim⟩
      subst hd
      repeat walk_at "m3"
      refine ⟨[_], p - q, rfl, rfl, rfl, trivial, fun d hd => ?_, fun C hC => hC⟩
      subst hd
      refine ex_op (ex_CB (ax_cons ?_))
      refine ex_call (fun _ => .nil) ?_
      repeat walk_at "m3"
      refine ⟨[_, _], (q, p), rfl, rfl, rfl, ⟨z3.mono (by decide), z1.mono (by decide)⟩, fun d hd => ?_, fun C hC => hC.elim⟩
      subst hd
      repeat walk_at "m3"
      refine ex_call (fun _ => .nil) ?_
      repeat walk_at "m3"
      refine ⟨[_, _], (p, q), rfl, rfl, rfl, ⟨z1.mono (by decide), z3.mono (by decide)⟩, fun d hd => ?_, fun C hC => hC.elim⟩
      subst hd
      repeat walk_at "m3"
      refine ⟨?_, rfl⟩
      rw [eqv_int]
      by_cases c1 : p < q
      · have e1 : p - q < 0 := by grind
        have e2 : ¬ q < p := by grind
        simp [c1, e1, e2]
      · by_cases c2 : q < p
        · have e1 : ¬ p - q < 0 := by grind
          have e2 : 0 < p - q := by grind
          simp [c1, c2, e1, e2]
        · have e1 : p = q := by grind
          subst e1
          have e2 : p - p = 0 := by grind
          simp [e2]
    -- if other[0] == 0: try ..
    refine sx_seq (sx_fork (decide (q = 0)) ?_ (fun h => ?_) (fun h => ?_))
    · repeat walk_at "m3"
      refine ⟨?_, rfl⟩
      rw [eqv_int]
      by_cases c : q = 0
      · subst c
        rfl
      · have : ¬ q.num = 0 := fun z => c (Rat.num_eq_zero.mp z)
        simp [c, this]
    · have hq0 := of_decide_eq_true h
      refine sx_try (c := .ref A.C_NotNumber) (tb := fun W => tSeq (tDrop (tCallG (sp_over K A) [] (WE W) (tCons (tVar 2) (tCons (tVar 3) tNil)))) (tRet (tC (.bl false)))) (ts := fun _ _ _ => tRet (tC (.bl true))) fun W' => ?_
      refine sx_seq (sx_drop ?_)
      refine ex_call (fun _ => .nil) ?_
      repeat walk_at "m3"
      refine ⟨[_, _], (p, q), rfl, rfl, rfl, ⟨z1.mono (by decide), z3.mono (by decide)⟩, fun d hd => ?_, fun C hC => ?_⟩
      · exact absurd hq0 hd.1
      · obtain ⟨_, rfl⟩ := hC
        refine ⟨true, T.m_NotNumber, fun _ a => ?_, fun z => by cases z⟩
        refine sx_ret (ex_bl ⟨_, rfl, rfl⟩)
    · have hq0 : q ≠ 0 := of_decide_eq_false h
      refine sx_next (sx_ret (ex_op (ex_call (fun _ => .nil) (ax_cons ?_))))
      refine ex_call (fun _ => .nil) ?_
      repeat walk_at "m3"
      refine ⟨[_, _], (p, q), rfl, rfl, rfl, ⟨z1.mono (by decide), z3.mono (by decide)⟩, fun d hd => ?_, fun C hC => ?_⟩
      · obtain ⟨_, rfl⟩ := hd
        repeat walk_at "m3"
        refine ⟨[_, _], (p / q, q), rfl, rfl, rfl, ⟨(sz_div z1 z3 hq0).mono (by decide), z3.mono (by decide)⟩, fun d hd => ?_, fun C hC => hC⟩
        subst hd
        refine ex_var rfl (rx_eqD (shaped_dR _) (shaped_dR _) ⟨_, rfl, ?_⟩)
        rw [eqv_dR]
        have e : p / q * q = p := by grind
        simp [e]
      · exact hq0 hC.1
theorem all_mk {P : Program} {w : World} {K : PySem.W.Frag} {h : Heap} {mg : Str → Option Value} {fa : Addr} (X : K.In h) (G : h.Ns mainGlobals mg) (hfa : mg "law" = some (.ref fa))
    {od0 an0 : Option Addr} {sl0 : Array (Option Value)} {oc0 kV0 dc0 pm0 cd0 ct0 : Value} {f0 : Addr} 
    (a0 : PySem.W.nsIn K mainGlobals "is_whole" = some (some (.ref f0))) (l0 : K.lookup f0 = some ⟨oc0, od0, .func (PySem.W.fnOf "is_whole" "is_whole" (defArgs s_is_whole) (defBody s_is_whole) (defScope s_is_whole) .none kV0 dc0 pm0 an0 cd0 ct0), sl0⟩) (c0 : PySem.W.codeIn K cd0 "is_whole" = true) (k0 : PySem.W.keepIn K (.ref f0) = true) {od1 an1 : Option Addr} {sl1 : Array (Option Value)} {oc1 kV1 dc1 pm1 cd1 ct1 : Value} {f1 : Addr} {t1 : Addr} {do1 : Value} {dd1 : Option Addr} {dn1 : Nat} {ds1 : Array (Option Value)} {dt1 : Tok} 
    (a1 : PySem.W.nsIn K mainGlobals "ratio" = some (some (.ref f1))) (l1 : K.lookup f1 = some ⟨oc1, od1, .func (PySem.W.fnOf "ratio" "ratio" (defArgs s_ratio) (defBody s_ratio) (defScope s_ratio) (.ref t1) kV1 dc1 pm1 an1 cd1 ct1), sl1⟩) (c1 : PySem.W.codeIn K cd1 "ratio" = true) (k1 : PySem.W.keepIn K (.ref f1) = true)  (e1 : K.lookup t1 = some ⟨do1, dd1, .seq #[.int 1 dt1] dn1, ds1⟩) {od2 an2 : Option Addr} {sl2 : Array (Option Value)} {oc2 kV2 dc2 pm2 cd2 ct2 : Value} {f2 : Addr} 
    (a2 : PySem.W.nsIn K mainGlobals "is_ratio" = some (some (.ref f2))) (l2 : K.lookup f2 = some ⟨oc2, od2, .func (PySem.W.fnOf "is_ratio" "is_ratio" (defArgs s_is_ratio) (defBody s_is_ratio) (defScope s_is_ratio) .none kV2 dc2 pm2 an2 cd2 ct2), sl2⟩) (c2 : PySem.W.codeIn K cd2 "is_ratio" = true) (k2 : PySem.W.keepIn K (.ref f2) = true) {od3 an3 : Option Addr} {sl3 : Array (Option Value)} {oc3 kV3 dc3 pm3 cd3 ct3 : Value} {f3 : Addr} 
    (a3 : PySem.W.nsIn K mainGlobals "plus" = some (some (.ref f3))) (l3 : K.lookup f3 = some ⟨oc3, od3, .func (PySem.W.fnOf "plus" "plus" (defArgs s_plus) (defBody s_plus) (defScope s_plus) .none kV3 dc3 pm3 an3 cd3 ct3), sl3⟩) (c3 : PySem.W.codeIn K cd3 "plus" = true) (k3 : PySem.W.keepIn K (.ref f3) = true) {od4 an4 : Option Addr} {sl4 : Array (Option Value)} {oc4 kV4 dc4 pm4 cd4 ct4 : Value} {f4 : Addr} 
    (a4 : PySem.W.nsIn K mainGlobals "opposite" = some (some (.ref f4))) (l4 : K.lookup f4 = some ⟨oc4, od4, .func (PySem.W.fnOf "opposite" "opposite" (defArgs s_opposite) (defBody s_opposite) (defScope s_opposite) .none kV4 dc4 pm4 an4 cd4 ct4), sl4⟩) (c4 : PySem.W.codeIn K cd4 "opposite" = true) (k4 : PySem.W.keepIn K (.ref f4) = true) {od5 an5 : Option Addr} {sl5 : Array (Option Value)} {oc5 kV5 dc5 pm5 cd5 ct5 : Value} {f5 : Addr} 
    (a5 : PySem.W.nsIn K mainGlobals "minus" = some (some (.ref f5))) (l5 : K.lookup f5 = some ⟨oc5, od5, .func (PySem.W.fnOf "minus" "minus" (defArgs s_minus) (defBody s_minus) (defScope s_minus) .none kV5 dc5 pm5 an5 cd5 ct5), sl5⟩) (c5 : PySem.W.codeIn K cd5 "minus" = true) (k5 : PySem.W.keepIn K (.ref f5) = true) {od6 an6 : Option Addr} {sl6 : Array (Option Value)} {oc6 kV6 dc6 pm6 cd6 ct6 : Value} {f6 : Addr} 
    (a6 : PySem.W.nsIn K mainGlobals "times" = some (some (.ref f6))) (l6 : K.lookup f6 = some ⟨oc6, od6, .func (PySem.W.fnOf "times" "times" (defArgs s_times) (defBody s_times) (defScope s_times) .none kV6 dc6 pm6 an6 cd6 ct6), sl6⟩) (c6 : PySem.W.codeIn K cd6 "times" = true) (k6 : PySem.W.keepIn K (.ref f6) = true) {od7 an7 : Option Addr} {sl7 : Array (Option Value)} {oc7 kV7 dc7 pm7 cd7 ct7 : Value} {f7 : Addr} 
    (a7 : PySem.W.nsIn K mainGlobals "over" = some (some (.ref f7))) (l7 : K.lookup f7 = some ⟨oc7, od7, .func (PySem.W.fnOf "over" "over" (defArgs s_over) (defBody s_over) (defScope s_over) .none kV7 dc7 pm7 an7 cd7 ct7), sl7⟩) (c7 : PySem.W.codeIn K cd7 "over" = true) (k7 : PySem.W.keepIn K (.ref f7) = true) {od8 an8 : Option Addr} {sl8 : Array (Option Value)} {oc8 kV8 dc8 pm8 cd8 ct8 : Value} {f8 : Addr} 
    (a8 : PySem.W.nsIn K mainGlobals "sign" = some (some (.ref f8))) (l8 : K.lookup f8 = some ⟨oc8, od8, .func (PySem.W.fnOf "sign" "sign" (defArgs s_sign) (defBody s_sign) (defScope s_sign) .none kV8 dc8 pm8 an8 cd8 ct8), sl8⟩) (c8 : PySem.W.codeIn K cd8 "sign" = true) (k8 : PySem.W.keepIn K (.ref f8) = true) {od9 an9 : Option Addr} {sl9 : Array (Option Value)} {oc9 kV9 dc9 pm9 cd9 ct9 : Value} {f9 : Addr} 
    (a9 : PySem.W.nsIn K mainGlobals "is_less" = some (some (.ref f9))) (l9 : K.lookup f9 = some ⟨oc9, od9, .func (PySem.W.fnOf "is_less" "is_less" (defArgs s_is_less) (defBody s_is_less) (defScope s_is_less) .none kV9 dc9 pm9 an9 cd9 ct9), sl9⟩) (c9 : PySem.W.codeIn K cd9 "is_less" = true) (k9 : PySem.W.keepIn K (.ref f9) = true) {od10 an10 : Option Addr} {sl10 : Array (Option Value)} {oc10 kV10 dc10 pm10 cd10 ct10 : Value} {f10 : Addr} 
    (a10 : PySem.W.nsIn K mainGlobals "law" = some (some (.ref f10))) (l10 : K.lookup f10 = some ⟨oc10, od10, .func (PySem.W.fnOf "law" "law" (defArgs s_law) (defBody s_law) (defScope s_law) .none kV10 dc10 pm10 an10 cd10 ct10), sl10⟩) (c10 : PySem.W.codeIn K cd10 "law" = true) (k10 : PySem.W.keepIn K (.ref f10) = true) {C0 : Addr} 
    (gx0 : PySem.W.nsIn K mainGlobals "NotNumber" = some (some (.ref C0))) (kx0 : PySem.W.keepIn K (.ref C0) = true) (xx0 : PySem.W.excIn K C0 [.type "ValueError", .type "Exception", .type "BaseException", .type "object"] "ValueError.__new__" = true) (bx0 : PySem.W.subIn K (.ref C0) (.type "BaseException") = some true) (tx0 : PySem.W.typeIn K (.ref C0) = some (.type "type")) (ix0 : PySem.W.isClsIn K C0 = true) (sx0 : PySem.W.subIn K (.ref C0) (.ref C0) = some true) 
    (z0 : PySem.W.nsIn K mainGlobals "abs" = some none) 
    (z1 : PySem.W.nsIn K mainGlobals "bool" = some none) 
    (z2 : PySem.W.nsIn K mainGlobals "int" = some none) 
    (z3 : PySem.W.nsIn K mainGlobals "isinstance" = some none) 
    (z4 : PySem.W.nsIn K mainGlobals "len" = some none) 
    (z5 : PySem.W.nsIn K mainGlobals "tuple" = some none) 
    (y0 : PySem.W.nsIn K mainGlobals "gcd" = some (some (.builtin "math.gcd"))) :
    ∃ fd : FuncData, (∀ (s : Shared) (v : Value), BindsTo s fd ⟨[v], []⟩ [("script", v)]) ∧ ∀ base : Heap, K.In base → base.Ns mainGlobals mg → FnG P w K mg base 4 fa fd ["script"] (spScript K) := by
  have e := hfa.symm.trans (PySem.W.mg_of X G a10)
  cases e
  have F0 := fd_mk (st := s_is_whole) l0 c0 k0
  have b0 := Binds.all (K := K) (fd := PySem.W.fnOf "is_whole" "is_whole" (defArgs s_is_whole) (defBody s_is_whole) (defScope s_is_whole) .none kV0 dc0 pm0 an0 cd0 ct0) (ps := ["value"]) fun us hl => match us, hl with | [_], _ => rfl
  have F1 := fd_mk (st := s_ratio) l1 c1 k1
  have D1 : FunD K "ratio" "ratio" (defArgs s_ratio) (defBody s_ratio) (defScope s_ratio) [.int 1] [] f1 _ := ⟨⟨oc1, od1, _, kV1, dc1, pm1, an1, cd1, ct1, sl1, rfl, l1, c1, .inr ⟨by simp, t1, _, _, dn1, rfl, e1, rfl, .cons ⟨_, rfl⟩ .nil⟩, .inl rfl⟩, k1⟩
  obtain ⟨v1, q1, b1⟩ := D1.binds1 (ps := ["above", "below"]) 2 1 (by simp) rfl (fun T kV doc pm an cdv ct us its h1 h2 => match us, its, h1, h2 with | [_, _], [_], _, _ => ⟨_, rfl, rfl⟩)
  cases q1
  obtain ⟨w1, r1, bd1⟩ := D1.binds1 (ps := ["above", "below"]) 1 0 (by simp) rfl (fun T kV doc pm an cdv ct us its h1 h2 => match us, its, h1, h2 with | [_], [_], _, _ => ⟨_, rfl, rfl⟩)
  have F2 := fd_mk (st := s_is_ratio) l2 c2 k2
  have b2 := Binds.all (K := K) (fd := PySem.W.fnOf "is_ratio" "is_ratio" (defArgs s_is_ratio) (defBody s_is_ratio) (defScope s_is_ratio) .none kV2 dc2 pm2 an2 cd2 ct2) (ps := ["value"]) fun us hl => match us, hl with | [_], _ => rfl
  have F3 := fd_mk (st := s_plus) l3 c3 k3
  have b3 := Binds.all (K := K) (fd := PySem.W.fnOf "plus" "plus" (defArgs s_plus) (defBody s_plus) (defScope s_plus) .none kV3 dc3 pm3 an3 cd3 ct3) (ps := ["one", "other"]) fun us hl => match us, hl with | [_, _], _ => rfl
  have F4 := fd_mk (st := s_opposite) l4 c4 k4
  have b4 := Binds.all (K := K) (fd := PySem.W.fnOf "opposite" "opposite" (defArgs s_opposite) (defBody s_opposite) (defScope s_opposite) .none kV4 dc4 pm4 an4 cd4 ct4) (ps := ["one"]) fun us hl => match us, hl with | [_], _ => rfl
  have F5 := fd_mk (st := s_minus) l5 c5 k5
  have b5 := Binds.all (K := K) (fd := PySem.W.fnOf "minus" "minus" (defArgs s_minus) (defBody s_minus) (defScope s_minus) .none kV5 dc5 pm5 an5 cd5 ct5) (ps := ["one", "other"]) fun us hl => match us, hl with | [_, _], _ => rfl
  have F6 := fd_mk (st := s_times) l6 c6 k6
  have b6 := Binds.all (K := K) (fd := PySem.W.fnOf "times" "times" (defArgs s_times) (defBody s_times) (defScope s_times) .none kV6 dc6 pm6 an6 cd6 ct6) (ps := ["one", "other"]) fun us hl => match us, hl with | [_, _], _ => rfl
  have F7 := fd_mk (st := s_over) l7 c7 k7
  have b7 := Binds.all (K := K) (fd := PySem.W.fnOf "over" "over" (defArgs s_over) (defBody s_over) (defScope s_over) .none kV7 dc7 pm7 an7 cd7 ct7) (ps := ["one", "other"]) fun us hl => match us, hl with | [_, _], _ => rfl
  have F8 := fd_mk (st := s_sign) l8 c8 k8
  have b8 := Binds.all (K := K) (fd := PySem.W.fnOf "sign" "sign" (defArgs s_sign) (defBody s_sign) (defScope s_sign) .none kV8 dc8 pm8 an8 cd8 ct8) (ps := ["one"]) fun us hl => match us, hl with | [_], _ => rfl
  have F9 := fd_mk (st := s_is_less) l9 c9 k9
  have b9 := Binds.all (K := K) (fd := PySem.W.fnOf "is_less" "is_less" (defArgs s_is_less) (defBody s_is_less) (defScope s_is_less) .none kV9 dc9 pm9 an9 cd9 ct9) (ps := ["one", "other"]) fun us hl => match us, hl with | [_, _], _ => rfl
  have F10 := fd_mk (st := s_law) l10 c10 k10
  have b10 := Binds.all (K := K) (fd := PySem.W.fnOf "law" "law" (defArgs s_law) (defBody s_law) (defScope s_law) .none kV10 dc10 pm10 an10 cd10 ct10) (ps := ["script"]) fun us hl => match us, hl with | [_], _ => rfl
  have m0 : PySem.W.exmOne K (.ref C0) (.ref C0) = some true := exm_self bx0 ix0 tx0 sx0
  have T : Txt K mg ⟨f0, _, f1, _, f2, _, f3, _, f4, _, f5, _, f6, _, f7, _, f8, _, f9, _, fa, _, C0, w1⟩ := ⟨F0, PySem.W.mg_of X G a0, k0, b0, F1, PySem.W.mg_of X G a1, k1, b1, F2, PySem.W.mg_of X G a2, k2, b2, F3, PySem.W.mg_of X G a3, k3, b3, F4, PySem.W.mg_of X G a4, k4, b4, F5, PySem.W.mg_of X G a5, k5, b5, F6, PySem.W.mg_of X G a6, k6, b6, F7, PySem.W.mg_of X G a7, k7, b7, F8, PySem.W.mg_of X G a8, k8, b8, F9, PySem.W.mg_of X G a9, k9, b9, F10, PySem.W.mg_of X G a10, k10, b10, r1, bd1, PySem.W.mg_of X G gx0, kx0, xx0, bx0, tx0, m0, PySem.W.mg_none_of X G z0, PySem.W.mg_none_of X G z1, PySem.W.mg_none_of X G z2, PySem.W.mg_none_of X G z3, PySem.W.mg_none_of X G z4, PySem.W.mg_none_of X G z5, PySem.W.mg_of X G y0⟩
  refine ⟨PySem.W.fnOf "law" "law" (defArgs s_law) (defBody s_law) (defScope s_law) .none kV10 dc10 pm10 an10 cd10 ct10, fun s v => .of_eq rfl, fun base _ _ => ?_⟩
  have o_is_whole := ok_is_whole (P := P) (w := w) (base := base) T
  have o_ratio := ok_ratio (P := P) (w := w) (base := base) T
  have o_is_ratio := ok_is_ratio (P := P) (w := w) (base := base) T o_is_whole
  have o_plus := ok_plus (P := P) (w := w) (base := base) T o_ratio
  have o_opposite := ok_opposite (P := P) (w := w) (base := base) T
  have o_minus := ok_minus (P := P) (w := w) (base := base) T o_plus o_opposite
  have o_times := ok_times (P := P) (w := w) (base := base) T o_ratio
  have o_over := ok_over (P := P) (w := w) (base := base) T o_ratio
  have o_sign := ok_sign (P := P) (w := w) (base := base) T
  have o_is_less := ok_is_less (P := P) (w := w) (base := base) T
  have o_law := ok_law (P := P) (w := w) (base := base) T o_ratio o_plus o_sign o_times o_is_ratio o_minus o_over o_is_less
  exact o_law
end K00
open PySem PySem.W PyProof.Rows
set_option maxRecDepth 100000 in
set_option maxHeartbeats 0 in
theorem PySem.Challenge.cw_mitrehouse_k00_ratios_holds : PySem.Challenge.rw_mitrehouse_k00_ratios.Holds := by
  w_on; o_law; k_head; (case hw => w_witness2)
  k_fill
  refine M3.walk_law (l := PySem.Challenge.rw_mitrehouse_k00_ratios) (k := 4) (x := "script") rfl rfl ⟨rfl, by decide, by decide⟩ (fun w h Y => PySem.W.kIn_of Y) ?F
  case F =>
    intro w mg fa h KX G hmg
    refine' K00.all_mk KX G hmg ?a0 ?l0 ?c0 ?k0 ?a1 ?l1 ?c1 ?k1 ?e1 ?a2 ?l2 ?c2 ?k2 ?a3 ?l3 ?c3 ?k3 ?a4 ?l4 ?c4 ?k4 ?a5 ?l5 ?c5 ?k5 ?a6 ?l6 ?c6 ?k6 ?a7 ?l7 ?c7 ?k7 ?a8 ?l8 ?c8 ?k8 ?a9 ?l9 ?c9 ?k9 ?a10 ?l10 ?c10 ?k10 ?gx0 ?kx0 ?xx0 ?bx0 ?tx0 ?ix0 ?sx0 ?z0 ?z1 ?z2 ?z3 ?z4 ?z5 ?y0
    (case a0 => first | k_is | k_exc | rfl); (case l0 => first | k_is | k_exc | rfl); (case c0 => first | k_is | k_exc | rfl); (case k0 => first | k_is | k_exc | rfl); (case a1 => first | k_is | k_exc | rfl); (case l1 => first | k_is | k_exc | rfl); (case c1 => first | k_is | k_exc | rfl); (case k1 => first | k_is | k_exc | rfl); (case e1 => first | k_is | k_exc | rfl); (case a2 => first | k_is | k_exc | rfl); (case l2 => first | k_is | k_exc | rfl); (case c2 => first | k_is | k_exc | rfl); (case k2 => first | k_is | k_exc | rfl); (case a3 => first | k_is | k_exc | rfl); (case l3 => first | k_is | k_exc | rfl); (case c3 => first | k_is | k_exc | rfl); (case k3 => first | k_is | k_exc | rfl); (case a4 => first | k_is | k_exc | rfl); (case l4 => first | k_is | k_exc | rfl); (case c4 => first | k_is | k_exc | rfl); (case k4 => first | k_is | k_exc | rfl); (case a5 => first | k_is | k_exc | rfl); (case l5 => first | k_is | k_exc | rfl); (case c5 => first | k_is | k_exc | rfl); (case k5 => first | k_is | k_exc | rfl); (case a6 => first | k_is | k_exc | rfl); (case l6 => first | k_is | k_exc | rfl); (case c6 => first | k_is | k_exc | rfl); (case k6 => first | k_is | k_exc | rfl); (case a7 => first | k_is | k_exc | rfl); (case l7 => first | k_is | k_exc | rfl); (case c7 => first | k_is | k_exc | rfl); (case k7 => first | k_is | k_exc | rfl); (case a8 => first | k_is | k_exc | rfl); (case l8 => first | k_is | k_exc | rfl); (case c8 => first | k_is | k_exc | rfl); (case k8 => first | k_is | k_exc | rfl); (case a9 => first | k_is | k_exc | rfl); (case l9 => first | k_is | k_exc | rfl); (case c9 => first | k_is | k_exc | rfl); (case k9 => first | k_is | k_exc | rfl); (case a10 => first | k_is | k_exc | rfl); (case l10 => first | k_is | k_exc | rfl); (case c10 => first | k_is | k_exc | rfl); (case k10 => first | k_is | k_exc | rfl); (case gx0 => first | k_is | k_exc | rfl); (case kx0 => first | k_is | k_exc | rfl); (case xx0 => first | k_is | k_exc | rfl); (case bx0 => first | k_is | k_exc | rfl); (case tx0 => first | k_is | k_exc | rfl); (case ix0 => first | k_is | k_exc | rfl); (case sx0 => first | k_is | k_exc | rfl); (case z0 => first | k_is | k_exc | rfl); (case z1 => first | k_is | k_exc | rfl); (case z2 => first | k_is | k_exc | rfl); (case z3 => first | k_is | k_exc | rfl); (case z4 => first | k_is | k_exc | rfl); (case z5 => first | k_is | k_exc | rfl); (case y0 => first | k_is | k_exc | rfl)
